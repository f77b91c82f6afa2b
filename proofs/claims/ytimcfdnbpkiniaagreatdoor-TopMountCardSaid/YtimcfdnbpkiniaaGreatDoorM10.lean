/- Lemmas. -/
import Derived.Test.YtimcfdnbpkiniaaGreatDoorM09
set_option maxHeartbeats 8000000
set_option maxRecDepth 100000
namespace Go.Proofs.YtimcfdnbpkiniaaGreatDoor
open Go.Proofs.Tryz
open Go.RowKit
variable{B X l:List Int}{w:World}{b c g i k m q:Nat}{ps:List (Int×Int)}{n:bT}{own:List Nat}{p:Int×Int}{E:List (ByteArray×Int)}
def fT (X:List Int) (i:Int):List Int:=eo X (824+8*i.toNat)
def oC (X r:List Int):bT:=
 if (iR r).K=2 then { iR r with E:=sS X (dK X r) (r.getD 1 0).toNat } else { iR r with B:=dK X r }
def EP (X r:List Int):List Nat:=
 (if (iR r).K=2 then ((dK X r).take (bp (r.getD 1 0).toNat)).map Int.toNat else [])++(if r.getD 7 0=0 then [] else [(r.getD 7 0).toNat])
def ng (X r:List Int):Prop:=
 zU X r/\r.getD 1 0<=832/\((iR r).K=2->pI X (dK X r) (r.getD 1 0).toNat)/\(iR r).F=1/\ct (oC X r)/\iq (oC X r) (dK X r) (r.getD 7 0)=r
theorem GD{r:List Int}(h:In64 X)(V:In64 r)(z:r.length=8)(U:zU X r):∀k,0<=(dK X r).getD k 0/\(dK X r).getD k 0<256:=by
 intro k;by_cases J:k<13
 ·refine⟨?_,U.2.1 k J⟩
  unfold dK;by_cases W:k<5
  ·simp only[aj]
   rw[ba (by simp[z];omega),bU,aB W,b9];have :=(V (2+k)).1;rwa[aj] at this
  ·simp only[aj]
   rw[aR (by simp[z];omega)];split
   ·rw[bj]
    split<;>simp
   ·have :((r.drop 2).take 5).length=5:=by simp[z]
    rw[this];have G:=kD X (1080+8*(r.getD 7 0).toNat) (k-5) (by omega);rw[aj,aj] at G;rw[<-aj,<-aj,aj,aj] at *;rw[G];have :=(h (1080+8*(r.getD 7 0).toNat+(k-5))).1;rwa[aj] at this
 ·rw[aj,aP (by rw[wu z];omega)]
  simp
theorem QD{y:Int}(h:0<=y/\y<18446744073709551616):(y<=832↔0<=wrap64 y/\wrap64 y<=832)/\(y<=832->wrap64 y=y):=by
 unfold wrap64;omega
def mK (w:World) (X:List Int) (i:Int) (e:Ending) (w':World):Prop:=
 ∃n v g own h z ok,e= .returned (.tuple #[aM n v,h,.bool ok])/\n.B.length=13/\bD w' v g n.E/\w.heap.size<=g/\ma w' h z own/\w.heap.size<=z/\
  (ok=true->(0<=i/\i<32)/\ng X (fT X i)/\n=oC X (fT X i)/\own=EP X (fT X i))/\
  (ok=false->¬((0<=i/\i<32)/\ng X (fT X i))/\n=ck/\own=[])/\ay [] w w'
theorem mK.no{w':World}{i:Int}(h:¬((0<=i/\i<32)/\ng X (fT X i)))(z:ay [] w w'):mK w X i (.returned (.tuple #[aM ck (.slice none 0 0),(),false])) w':=
 ⟨ck,_,w.heap.size,[],_,w.heap.size,false,rfl,rfl,bD.nil _ _,aH _,ma.nil _ _,aH _,λh=>(by cases h),λ_=>⟨h,rfl,rfl⟩,z⟩
theorem QE (G:bh w g (aM ck (.slice none 0 0)) 75):
  ∃w',(storeVar 75 g (.agg (aM ck (.slice none 0 0)))).run prog w= .ok () w'/\(loadVar 75 g).run prog w'= .ok (.agg (aM ck (.slice none 0 0))) w'/\ay [g] w w':=by
 obtain⟨w',h,J,z⟩:=bG (P:= prog) (ty:= 75) (cs:=mZ ck (.slice none 0 0)) (by rw[gM];exact iX) G rfl (kY rfl);exact⟨w',h,cg (n:=ck) (v:= .slice none 0 0) J rfl,z⟩
theorem abz{gp:Nat}(h:eK w b gp B ps)(cu:In64 (az B ps))(i:Int):
  Calls prog 149 #[b,i] w (mK w (az B ps) i):=by
 obtain⟨HS,uQ⟩:=hh2 h cu;have b9:=bh.new w (aM ck (.slice none 0 0)) 75;have fJ:Hid (ay [] w (w.alloc (.cells (aM ck (.slice none 0 0)) 75))):=(ay.refl _ _).alloc _;have p9:=ar b9;have rH:=dA;have HI:=ar (kz i);clear h cu b9;have lU:Hid (∀z:World,bh z w.heap.size (aM ck (.slice none 0 0)) 75->∃w',(storeVar 75 w.heap.size (.agg (aM ck (.slice none 0 0)))).run prog z= .ok () w'/\(loadVar 75 w.heap.size).run prog w'= .ok (.agg (aM ck (.slice none 0 0))) w'/\ay [w.heap.size] z w'):=λz hb=>QE hb
 obtain⟨ZI,ba⟩:∃ZI,aM ck (.slice none 0 0)=ZI:=⟨_,rfl⟩;rw[ba] at lU p9 fJ;have ed:∀w:World,(zeroValue 75).run prog w= .ok (.agg ZI) w:=λw=>by rw[<-ba];exact rH w
 have ak:=ar ba;clear rH ba;by_cases jD:i<0\/32<=i
 ·have aL:gF i= -1:=by unfold gF;rw[aB jD]
  rw[aL] at HI;obtain⟨w1,cW,ot,av⟩:=lU.out _ p9.out;obtain⟨dw,mY,jH⟩:=hh3 cW ot (fJ.out.trans av (by simp));have HN:Hid (¬((0<=i/\i<32)/\ng (az B ps) (fT (az B ps) i))):=λh=>by have :=h.1;omega
  clear cW ot av aL jD;go_in;go_wp2_with fail;refine C' (HI.out _) ?_;go_wp2_with(with_reducible refine gS 75 dw.out ?_);refine aI (cJ results149 rfl mY.out rfl rfl) rfl ?_;have :=mK.no HN.out jH.out;rw[ak.out] at this;exact this
 ·have aL:gF i=((824+8*i.toNat:Nat):Int):=by unfold gF;rw[aA jD];omega
  rw[aL] at HI;obtain⟨r,hr⟩:∃r,r=fT (az B ps) i:=⟨_,rfl⟩;have xG:r.length=8:=by rw[hr];exact iF _ _
  have xu:In64 r:=λj=>by
   rw[hr];unfold fT;by_cases hj:j<8
   ·rw[kD _ _ _ hj];exact uQ.out _
   ·rw[aj,aP (by rw[iF];omega)]
    simp
  have nt:Hid (Calls prog 62 #[b,((824+8*i.toNat:Nat):Int)] (w.alloc (.cells ZI 75)) λe w'=>e=(aY r).toArray/\ay [] (w.alloc (.cells ZI 75)) w'):=by
   rw[hr];exact pH (HS.out.keep fJ.out (by simp) (by simp)) (824+8*i.toNat) (by omega)
  have jY:Hid (¬ng (az B ps) r->¬((0<=i/\i<32)/\ng (az B ps) (fT (az B ps) i))):=λh hh=>h (by rw[hr];exact hh.2)
  have HR:=ar hr;have ej:¬((824+8*i.toNat:Nat):Int)<0:=by omega
  generalize ((824+8*i.toNat:Nat):Int)=p at *;have dZ:=lq;have WV:=pC;clear aL hr;go_in;go_wp2_with fail;refine C' (HI.out _) ?_;go_wp2_with fail;refine C' (HI.out _) ?_;go_wp2_with fail;refine Rr nt.out λw1 av=> ?_;obtain⟨w2,UO,Mf,bv⟩:=bG (P:= prog) (ty:= 132) (cs:=aY r) (by rw[bB,xG];exact ja) (bh.new w1 (aY (List.replicate 8 0)).toArray 132) (by simp[bB,xG]) (fk _);have cA:=(p9.out.keep av (by simp)).lt;have ac:ay [] w w2:=((fJ.out.trans' av).alloc (.cells (aY (List.replicate 8 0)).toArray 132)).trans bv (by intro x J;rw[au] at J;omega);have cY:=((p9.out.keep av (by simp)).alloc (.cells (aY (List.replicate 8 0)).toArray 132)).keep bv (by rw[au];omega);obtain⟨cm,cV,UQ,fo,cz,Qj,zD⟩:=hh7 UO (fN Mf xG) (CR r xG (xu 0) (xu 1) w2) ac cY Mf xu;have Gq:=ar xG;clear UO Mf bv av ac cY HI nt p9 fJ xu xG;go_wp2_with(with_reducible first|refine gS 132 cm.out ?_|refine gL 132 cV.out ?_);refine Rr UQ.out λw5 lh=> ?_;obtain⟨wn,cQ,XT,jv⟩:=bG (P:= prog) (ty:= 75) (cs:=mZ (iR r) (.slice none 0 0)) (by rw[gM];exact iX) (bh.new w5 ZI 75) (by have hz:=ak.out;rw[<-hz];rfl) (kY rfl);have eB:w1.heap.size<w5.heap.size:=bS Qj.out.lt lh.size;have aZ:ay [] w2 wn:=(lh.alloc (.cells ZI 75)).trans jv (by intro x J;rw[au] at J;have :=lh.size;omega);obtain⟨bA,cC,bM,bj⟩:=hh4 (Qj.out.keep aZ (by simp)) (cz.out.keep aZ (by simp)) (fo.out.trans' aZ) cQ;have Yg:Hid (bh wn w5.heap.size (aM (iR r) (.slice none 0 0)) 75):=XT;have e6:(Value.agg (mZ (iR r) (.slice none 0 0)).toArray)= .agg (aM (iR r) (.slice none 0 0)):=rfl;rw[e6] at bj;obtain⟨cX,IX⟩:=hh2 (fN bA.out Gq.out) (La (HS.out.keep bM.out (by simp) (by simp)) uQ.out r Gq.out zD.out);clear cQ XT jv aZ lh Qj cz fo UQ cV cm e6;go_wp2_with(with_reducible first|refine gS 75 bj.out ?_|refine gL 132 cX.out ?_);refine IX.out.mono ?_;rintro e w3 ⟨la,W,ok,rfl,UR,UT,aR,aV⟩;obtain⟨w6,cB,bX,cR⟩:=bG (P:= prog) (ty:= 73) (cs:=zs la) (by rw[eO,aR];exact mf) (bh.new w3 (zs (List.replicate 13 0)).toArray 73) (by simp[eO,aR]) (nB _);have eu:w5.heap.size<w3.heap.size:=bS Yg.out.lt aV.size;have Yh:ay [] wn w6:=(aV.alloc (.cells (zs (List.replicate 13 0)).toArray 73)).trans cR (by intro x J;rw[au] at J;have :=aV.size;omega);obtain⟨dM,bl,Nv,bt,uB,bf,eI⟩:=hh7 (bA.out.keep Yh (by simp)) (cC.out.keep Yh (by simp)) (Yg.out.keep Yh (by simp)) bX (bM.out.trans' Yh) cB aR;have eA:w.heap.size<w1.heap.size:=cA;clear cB bX cR Yh aV aR IX bj cX bA cC Yg bM cA;cases ok
  ·have HN:=ar (jY.out λh=>UT rfl h.1)
   obtain⟨w9,Gp,Nk,lh⟩:=lU.out w6 bl.out;obtain⟨EK,Un,qU⟩:=hh3 Gp Nk (uB.out.trans lh (by simp));clear Gp Nk lh UR UT;generalize (zs la).toArray=cO at *;go_wp2_with(with_reducible first|refine gS 73 bf.out ?_|refine gS 75 EK.out ?_);refine aI (cJ results149 rfl Un.out rfl rfl) rfl ?_;have :=mK.no HN.out qU.out;rw[ak.out] at this;exact this
  ·obtain⟨uD,rfl,rfl⟩:=UR rfl
   have IX:=ar uD;clear UR UT uD;have b7:=zD.out 1;obtain⟨ae,Ul⟩:=QD b7;obtain⟨sv,aW⟩:∃sv,sv=wrap64 (r.getD 1 0):=⟨_,rfl⟩;rw[<-aW] at ae Ul;have bF:w6.cell? ⟨w5.heap.size,3,none⟩=some (.int .i64 sv):=by rw[Nv.out.cell,aW];rfl
   have cN:=ar aW;clear aW;by_cases aG:sv<0\/832<sv
   ·have HN:=ar (jY.out λh=>by have :=ae.1 h.2.1;omega)
    obtain⟨w9,Gp,Nk,lh⟩:=lU.out w6 bl.out;obtain⟨EK,Un,qU⟩:=hh3 Gp Nk (uB.out.trans lh (by simp));clear Gp Nk lh ae Ul b7;generalize (zs (dK (az B ps) r)).toArray=cO,r.getD 7 0=W at *;rcases aG with aG|aG
    ·go_wp2_with(with_reducible first|refine gS 73 bf.out ?_|refine gS 75 EK.out ?_)
     refine aI (cJ results149 rfl Un.out rfl rfl) rfl ?_;have :=mK.no HN.out qU.out;rw[ak.out] at this;exact this
    ·have dC:¬sv<0:=by omega
     go_wp2_with(with_reducible first|refine gS 73 bf.out ?_|refine gS 75 EK.out ?_);refine aI (cJ results149 rfl Un.out rfl rfl) rfl ?_;have :=mK.no HN.out qU.out;rw[ak.out] at this;exact this
   ·have cn:r.getD 1 0<=832:=ae.2 (by omega)
    have bH:=Ul cn;have dE:Hid (wrap64 (r.getD 1 0)=r.getD 1 0):=by show _=_;rw[<-cN.out];exact bH
    have dC:¬r.getD 1 0<0:=by omega
    have eF:¬832<r.getD 1 0:=by omega
    rw[bH] at bF;clear ae Ul bH cN;have ei:¬832<r.getD 1 0:=by omega
    generalize cF:r.getD 1 0=r1 at *;have Yi:=ar cF;generalize bO:r.getD 7 0=W at *;have aQ:=ar bO;clear cF bO cn;have cK:w6.cell? ⟨w5.heap.size,1,none⟩=some (.int .i64 (iR r).K):=by rw[Nv.out.cell];rfl
    have cS:=bF;clear bF;have ug:=ar (wu (X:=az B ps) Gq.out);have QF:Hid (∀k,0<=(dK (az B ps) r).getD k 0/\(dK (az B ps) r).getD k 0<256):=GD uQ.out zD.out Gq.out IX.out;have cD:Hid (∀z,ay [] w6 z->(loadVar 73 w3.heap.size).run prog z= .ok (.agg (zs (dK (az B ps) r)).toArray) z):=λz U=>
     fA (off:=0) (bt.out.keep U (by simp)) ug.out (λk U=>by rw[bc,aF,gK (by rw[ug.out];exact U)])
    have cd:(0<=i/\i<32):=by omega
    have dz:=ar cd;clear cd jD;have d8:w5.heap.size<w6.heap.size:=Nv.out.lt
    go_upto_if 45 with(with_reducible refine gS 73 bf.out ?_)
    go_cut [11,12] (λK3 s12 z=>∃(n:bT) (v:Value) (g:Nat) (own:List Nat) (EH:Bool) (G:Nat),K3= .bool EH/\Hid (z.ownsRow G 3 1 s12 own.length (dL own)/\w6.heap.size<=G/\G<=z.heap.size/\(n.E.length≠0->g<G)/\w.heap.size<g/\own.length<=13/\bh z w5.heap.size (aM n v) 75/\n.B.length=13/\bD z v g n.E/\v.oneCell'=true/\zP n/\(∀k,k<n.E.length->(eX n.E k).size<=9223372036854775807)/\ay [w5.heap.size] w6 z/\
     (EH=true->n=oC (az B ps) r/\own=(if (iR r).K=2 then ((dK (az B ps) r).take (bp r1.toNat)).map Int.toNat else [])/\((iR r).K=2->pI (az B ps) (dK (az B ps) r) r1.toNat))/\(EH=false->¬ng (az B ps) r)))
    case first=>
     have dX:=zD.out 0;have JT:Hid (zP { iR r with B:=dK (az B ps) r }):=by
      have h3:=Yi.out;refine⟨?_,?_,?_,?_⟩
      ·show 0<=r.getD 0 0%256/\r.getD 0 0%256<256;omega
      ·show 0<=r.getD 0 0/256%256/\r.getD 0 0/256%256<256;omega
      ·show 0<=r.getD 0 0/65536%65536/\r.getD 0 0/65536%65536<65536;omega
      ·show 0<=wrap64 (r.getD 1 0)/\wrap64 (r.getD 1 0)<9223372036854775808;rw[h3,dE.out];omega
     by_cases ac:(iR r).K=2
     ·have ek:((iR r).K==2)=true:=beq_iff_eq.2 ac
      obtain⟨m,hm⟩:∃m:Nat,r1=(m:Int):=⟨r1.toNat,by omega⟩;have Ur:r1.toNat=m:=by omega
      rw[hm] at cS;obtain⟨Gi,IY,bq⟩:=hh3 (Lc (HS.out.keep uB.out (by simp) (by simp)) uQ.out (dK (az B ps) r) ug.out QF.out m (by omega)) (cD.out w6 (ay.refl _ _)) Ur;have cx:=λc hc z=>MV w3.heap.size c hc z
      obtain⟨i0,hi,bI,bo,bK⟩:=df Tryz.info_int;have Yj:=ar hi;clear hm Ur hi;have aD:=ar ac;generalize cv:(iR r).K=kk at cK ek;have CZ:=ar cv;clear cv ac;go_wp2_with(with_reducible refine gL 73 IY.out ?_);refine Gi.out.mono ?_;rintro e w7 ⟨v,E,aT,g,rfl,hE,hg,SM,Mj,xw⟩;have bV:E.length<=24:=by
       cases aT
       ·rw[(Mj rfl).2];simp
       ·obtain⟨h1,h2⟩:=SM rfl
        rw[h2,qw];exact h1.1
      have zF:bp E.length<=13:=by unfold bp;omega
      obtain⟨a,cap,rfl,dW,dF,-⟩:=hE.open;have GF:=Nv.out.keep xw (by simp);have eD:w7.cell? ⟨w5.heap.size,17,none⟩=some (.slice none 0 0):=by rw[GF.cell];exact Al _ rfl
      have d7:w7.frozen? ⟨w5.heap.size,17,none⟩=false:=GF.frozen 17;have Yk:=Lh (u:= .slice a E.length cap) (E:=E) GF rfl;obtain⟨dJ,bP⟩:=hh2 (cg Yk rfl) (sQ { iR r with E:=E } a cap rfl (by show E.length<=100000;omega));have bZ:bD (w7.setCell ⟨w5.heap.size,17,none⟩ (.slice a E.length cap)) (.slice a E.length cap) g E:=hE.keep ((ay.refl [w5.heap.size] w7).setCell (p:=⟨w5.heap.size,17,none⟩) (by simp) _) (λ_=>by rw[au];omega);have uA:ay [w5.heap.size] w6 (w7.setCell ⟨w5.heap.size,17,none⟩ (.slice a E.length cap)):=(xw.mono (by simp)).setCell (.inl (by simp)) _;obtain⟨dh,Yl,X8,HG,MP,WU,JL⟩:=hh7 bZ uA Yk hg SM Mj bV;have dg:=ar (bt.out.keep uA (by rw[au];omega));have ez:=cx (bp E.length) zF;have dN:Hid (bp E.length<=13):=zF;unfold maxLen at dF;clear hE hg SM Mj xw GF Yk bZ uA cx bV zF Gi IY;have dO:Hid (∀z,Calls prog 179 #[.agg (aM { iR r with E:=E } (.slice a E.length cap))] z λe w'=>e=((bp E.length:Nat):Int)/\ay [] z w'):=bP.out;have b6:Hid (E.length=E.length):=rfl;clear bP b6;go_wp2_with(with_reducible refine gL 75 dJ.out ?_);refine Rr (dO.out _) λw9 PF=> ?_;obtain⟨dV,cT,XZ,aS⟩:=hh4 (dg.out.keep PF (by simp)) (dh.out.keep PF (by simp)) (X8.out.keep PF (by simp)) (Yl.out.trans PF (by simp));clear PF;generalize cP:bp E.length=c at *;have UU:=ar cP;clear cP;have GG:=dN.out;have hi:=Yj.out;go_wp2_with(at_builtin;refine eU _ rfl _ _ 76 rfl w9.heap.size 3 i0 (.int .i64 0) 1 8 underlying76 hi bI bo bK rfl (by decide) (.slice none 0 0) 0 [] rfl ⟨rfl,.inl ⟨rfl,rfl⟩⟩ ⟨w3.heap.size,0,none⟩ c 13 (zs ((dK (az B ps) r).take c)) rfl ?c1 ?c2 (nB _) (by unfold maxLen;omega) (by omega) (aH _) ?_);case c1=>rw[eO,aJ,ug.out];omega
      case c2=>
       intro j u hu;rw[add_plain,bc,dV.out.cell,aF];have hj:j<c:=by
        have :=(List.getElem?_eq_some_iff.1 hu).1;rw[eO,aJ] at this;omega
       rw[gK (by rw[ug.out];omega)];rw[gK (by rw[aJ,ug.out];omega)] at hu;rw[<-hu];simp[hj]
      intro v' aC aa V _;have Nw:ay [] w9 aC:=ay.of_grown V (by simp[Value.ownBlock]);have cy:g<w9.heap.size\/E.length=0:=by
       obtain⟨a2,c2,-,-,-,h4⟩:=cT.out;by_cases h0:E.length=0
       ·exact .inr h0
       ·exact .inl (h4 h0).1
      have QG:Hid (∃(n:bT) (v:Value) (g:Nat) (own:List Nat) (EH:Bool) (G:Nat),Value.bool aT= .bool EH/\Hid (aC.ownsRow G 3 1 v' own.length (dL own)/\w6.heap.size<=G/\G<=aC.heap.size/\(n.E.length≠0->g<G)/\w.heap.size<g/\own.length<=13/\bh aC w5.heap.size (aM n v) 75/\n.B.length=13/\bD aC v g n.E/\v.oneCell'=true/\zP n/\(∀k,k<n.E.length->(eX n.E k).size<=9223372036854775807)/\ay [w5.heap.size] w6 aC/\
       (EH=true->n=oC (az B ps) r/\own=(if (iR r).K=2 then ((dK (az B ps) r).take (bp r1.toNat)).map Int.toNat else [])/\((iR r).K=2->pI (az B ps) (dK (az B ps) r) r1.toNat))/\(EH=false->¬ng (az B ps) r))):=by
       have bN:(((dK (az B ps) r).take c).map Int.toNat).length=c:=by rw[bY,aJ,ug.out];omega
       have dU:dL (((dK (az B ps) r).take c).map Int.toNat)=zs ((dK (az B ps) r).take c):=adX λk=>by
        by_cases U:k<c
        ·have :=(QF.out k).1
         simp only[aj,bU,aB U] at this ⊢;exact this
        ·rw[aj,bU,aA U]
         simp
       refine⟨{ iR r with E:=E },.slice a E.length cap,g,((dK (az B ps) r).take c).map Int.toNat,aT,w9.heap.size,rfl,?_,aS.out.size,Nw.size,λh=>cy.resolve_right h,by have :=HG.out;have :=uB.out.size;omega,by rw[bN];exact GG,XZ.out.keep Nw (by simp),rfl,cT.out.keep Nw (by simp),rfl,⟨JT.out.f,JT.out.k,JT.out.l,JT.out.s⟩,?_,aS.out.trans Nw (by simp),λh=> ?_,λh hr=> ?_⟩
       ·rw[bN,dU]
        exact aa
       ·intro k U
        cases aX:aT
        ·have h2:=(WU.out aX).2
         have ax:k<E.length:=U;rw[h2] at ax;simp at ax
        ·have h2:=(MP.out aX).2
         have ax:k<E.length:=U;show(eX E k).size<=_;rw[h2,qw] at ax;rw[h2,(CN _ _ _ _ ax).1];have :=CO (Bq (az B ps) (dK (az B ps) r) k);omega
       ·obtain⟨h1,h2⟩:=MP.out h
        rw[bq.out];refine⟨?_,?_,λ_=>h1⟩
        ·unfold oC
         rw[aB aD.out,Yi.out,bq.out,<-h2]
        ·rw[aB aD.out,<-UU.out,h2,qw]
       ·have h2:=hr.2.2.1 aD.out
        rw[Yi.out,bq.out] at h2;exact(WU.out h).1 h2
      clear aa V Nw cy hi;go_wp2_with fail;go_meet;case rel=>exact QG.out
     ·have ek:((iR r).K==2)=false:=cL.2 ac
      obtain⟨w7,bQ,GF,xw⟩:=SI (l:=dK (az B ps) r) Nv.out rfl ug.out;obtain⟨IY,dD⟩:=hh2 (cD.out w6 (ay.refl _ _)) bQ;have QG:Hid (∃(n:bT) (v:Value) (g:Nat) (own:List Nat) (EH:Bool) (G:Nat),Value.bool true= .bool EH/\Hid (w7.ownsRow G 3 1 (.slice none 0 0) own.length (dL own)/\w6.heap.size<=G/\G<=w7.heap.size/\(n.E.length≠0->g<G)/\w.heap.size<g/\own.length<=13/\bh w7 w5.heap.size (aM n v) 75/\n.B.length=13/\bD w7 v g n.E/\v.oneCell'=true/\zP n/\(∀k,k<n.E.length->(eX n.E k).size<=9223372036854775807)/\ay [w5.heap.size] w6 w7/\
       (EH=true->n=oC (az B ps) r/\own=(if (iR r).K=2 then ((dK (az B ps) r).take (bp r1.toNat)).map Int.toNat else [])/\((iR r).K=2->pI (az B ps) (dK (az B ps) r) r1.toNat))/\(EH=false->¬ng (az B ps) r))):=by
       refine⟨{ iR r with B:=dK (az B ps) r },.slice none 0 0,w6.heap.size,[],true,w6.heap.size,rfl,⟨rfl,.inl ⟨rfl,rfl⟩⟩,aH _,xw.size,λh=>absurd rfl h,by omega,by simp,GF,ug.out,bD.nil _ _,rfl,JT.out,λk U=>absurd U (by show ¬k<0;omega),xw,λ_=>⟨?_,by rw[aA ac],λh=>absurd h ac⟩,λh=>(by cases h)⟩;unfold oC;rw[aA ac]
      clear bQ GF xw;generalize (zs (dK (az B ps) r)).toArray=cO,(iR r).K=kk at *;go_wp2_with(with_reducible first|refine gL 73 IY.out ?_|refine gS 73 dD.out ?_);go_meet;case rel=>exact QG.out
    case rest=>
     obtain⟨n,v,g,own,EH,G,rfl,HC⟩:=hcut;obtain⟨bg,eo,d9,dm,dt,rT,DY,Ym,hE,cE,cZ,cw,af,UR,UT⟩:=HC.out;obtain⟨i0,hi,bI,bo,bK⟩:=df Tryz.info_int;have Yj:=ar hi;have cH:=zD.out 7;rw[aQ.out] at cH;have dY:W<256:=by have :=IX.out.1;rw[aQ.out] at this;exact this
     obtain⟨Br,HE,aD,bw,dI,di,dH⟩:=hh7 DY hE af bg cE cZ cw;obtain⟨cM,dx,PD⟩:=hh3 UR UT Ym;clear HC bg DY hE af UR UT hi cE cZ cw Ym
     go_upto_if 63 with fail
     go_cut [12] (λs12 z=>∃(ga:Nat),Hid (ma z s12 ga (own++(if W=0 then [] else [W.toNat]))/\w.heap.size<ga/\bh z w5.heap.size (aM n v) 75/\bD z v g n.E/\ay [w5.heap.size] w6 z))
     case first=>
      by_cases bb:W=0
      ·have e0:(W != 0)=false:=by rw[bb];rfl
       have QG:Hid (∃(ga:Nat),Hid (ma wc u12 ga (own++(if W=0 then [] else [W.toNat]))/\w.heap.size<ga/\bh wc w5.heap.size (aM n v) 75/\bD wc v g n.E/\ay [w5.heap.size] w6 wc)):=by
        obtain⟨ga,ho,xh⟩:=ma.of_row bw.out;rw[aB bb,br];exact⟨ga,ho,by have :=uB.out.size;omega,Br.out,HE.out,aD.out⟩
       go_wp2_with fail;go_meet;case rel=>exact QG.out
      ·have e0:(W != 0)=true:=bne_iff_ne.2 bb
       have hi:=Yj.out;go_wp2_with(at_builtin;refine eU _ rfl _ _ 76 rfl G 3 i0 (.int .i64 0) 1 8 underlying76 hi bI bo bK rfl (by decide) u12 own.length (dL own) rfl (bw.out.alloc _) ⟨wc.heap.size,0,none⟩ 1 1 [.int .i64 W] rfl rfl ?c1 ?c2 (by unfold maxLen;omega) (by omega) (by simp;omega) ?_);case c1=>exact lH _ [_] _ _ rfl
       case c2=>simp[Value.oneCell']
       intro v' w8 aa V cI;have QG:Hid (∃(ga:Nat),Hid (ma w8 v' ga (own++(if W=0 then [] else [W.toNat]))/\w.heap.size<ga/\bh w8 w5.heap.size (aM n v) 75/\bD w8 v g n.E/\ay [w5.heap.size] w6 w8)):=by
        have e1:dL (own++[W.toNat])=dL own++[.int .i64 W]:=by
         rw[ub]
         congr 1
         simp[dL];omega
        have aK:=aa;rw[<-e1,show own.length+1=(own++[W.toNat]).length by simp] at aK;obtain⟨ga,ho,xh⟩:=ma.of_row aK;rw[aA bb];have aO:∀k,u12.ownBlock=some k->G<=k:=dQ bw.out;have vS:ay [w5.heap.size] w6 w8:=(aD.out.alloc (.cells #[W] 3)).trans (ay.of_grown (l:=(u12.ownBlock).toList) V (λk U=> .inl (by rw[U];simp))) (λx J=> .inr (by
         cases hub:u12.ownBlock with
         |none=>rw[hub] at J;simp at J
         |some y=>
          rw[hub] at J;simp at J;have :=aO y hub;omega))
        refine⟨ga,ho,by have :=uB.out.size;omega,?_,?_,vS⟩
        ·exact(V.block _ (Br.out.alloc _).lt (λe=>by have :=aO _ e.symm;omega)).trans (Br.out.alloc _)
        ·refine(HE.out.keep ((ay.refl [] wc).alloc _) (by simp)).keep (ay.of_grown (l:=(u12.ownBlock).toList) V (λk U=> .inl (by rw[U];simp))) λh0 hm=> ?_
         cases hub:u12.ownBlock with
         |none=>rw[hub] at hm;simp at hm
         |some y=>
          rw[hub] at hm;simp at hm;have :=aO y hub;have :=dm h0;omega
       clear aa V cI hi;go_wp2_with fail;go_meet;case rel=>exact QG.out
     case rest=>
      obtain⟨ga,HD⟩:=hcut;obtain⟨ER,xh,DY,hE,af⟩:=HD.out;have eG:w.heap.size<w5.heap.size:=by omega
      have cG:=ar (bl.out.keep af (by rw[au];omega));have cj:Hid (ay [] w wc):=uB.out.trans af (by intro x J;rw[au] at J;omega);have bW:=dM.out.keep af (by rw[au];omega);have cr:=bt.out.keep af (by rw[au];omega);have dB:Hid (∀z,ay [] wc z->(loadVar 3 w5.heap.size).run prog z= .ok (.int .i64 n.F) z):=λz U=>FY (off:=0) underlying3 (DY.keep U (by simp)) rfl
      have Ed:Hid (∀z,ay [] wc z->(loadVar 75 w5.heap.size).run prog z= .ok (.agg (aM n v)) z):=λz U=>cg (DY.keep U (by simp)) PD.out
      have dP:Hid (∀z,ay [] wc z->(loadVar 73 w3.heap.size).run prog z= .ok (.agg (zs (dK (az B ps) r)).toArray) z):=λz U=>
       fA (off:=0) (cr.keep U (by simp)) ug.out (λk U=>by rw[bc,aF,gK (by rw[ug.out];exact U)])
      have dR:Hid (∀z,ay [] wc z->(loadVar 132 w1.heap.size).run prog z= .ok (.agg (aY r).toArray) z):=λz U=>fN (bW.keep U (by simp)) Gq.out
      have BA:Hid (∀z,ay [] wc z->Calls prog 101 #[aM n v] z λe w'=>e=(decide (ct n))/\ay [] z w'):=λz U=>oz n v g PD.out z (hE.keep U (by simp)) dH.out
      have JI:Hid (∀z,Calls prog 180 #[aM n v,(zs (dK (az B ps) r)).toArray,W] z λe w'=>e=(aY (iq n (dK (az B ps) r) W)).toArray/\ay [] z w'):=λz=>
       D4 n v PD.out di.out _ ug.out (λk=>by have :=QF.out k;omega) W ⟨cH.1,by omega⟩ z
      have cU:(iq n (dK (az B ps) r) W).length=8:=by simp[iq,ug.out]
      have bL:=ar (λz=>MS (a:=iq n (dK (az B ps) r) W) (b:=r) cU Gq.out z);have eH:=xW;have Yn:Hid (EH=true->(ng (az B ps) r↔n.F=1/\ct n/\iq n (dK (az B ps) r) W=r)):=λh=>by
       obtain⟨h1,-,h3⟩:=cM.out h;have hF:n.F=(iR r).F:=by
        rw[h1];unfold oC;split<;>rfl
       unfold ng;rw[<-h1,hF,aQ.out,Yi.out];exact⟨λh=>h.2.2.2,λh=>⟨IX.out,by omega,h3,h⟩⟩
      have mn:Hid (∀z,ay [] wc z->EH=true->ng (az B ps) r->∃w',(storeVar 75 w.heap.size (.agg (aM n v))).run prog z= .ok () w'/\(loadVar 75 w.heap.size).run prog w'= .ok (.agg (aM n v)) w'/\mK w (az B ps) i (.returned (.tuple #[aM n v,u12,true])) w'):=λz U aX bE=>by
       obtain⟨w',h1,h2,h3⟩:=bG (P:= prog) (ty:= 75) (cs:=mZ n v) (by rw[gM,PD.out];exact iX) (cG.out.keep U (by simp)) (by have hz:=ak.out;rw[<-hz,gM,PD.out];rfl) (kY dI.out);obtain⟨e1,e2,-⟩:=cM.out aX;have ax:ay [] w w':=(cj.out.trans' U).trans h3 (by intro x J;rw[au] at J;omega);refine⟨w',h1,cg h2 PD.out,n,v,g,own++(if W=0 then [] else [W.toNat]),u12,ga,true,rfl,PD.out,?_,Nat.le_of_lt dt,?_,Nat.le_of_lt xh,λ_=>⟨dz.out,?_,?_,?_⟩,λh=>(by cases h),ax⟩
       ·refine(hE.keep U (by simp)).keep h3 λh0=> ?_
        rw[au];omega
       ·refine(ER.keep U (by simp)).keep h3 ?_
        rw[au];omega
       ·rw[<-HR.out];exact bE
       ·rw[<-HR.out];exact e1
       ·rw[<-HR.out,e2]
        unfold EP;rw[aQ.out,Yi.out]
      clear HD ER xh DY hE af bW cr cU;obtain⟨tR,bk⟩:∃t,decide (ct n)=t:=⟨_,rfl⟩;rw[bk] at BA;obtain⟨tW,bz⟩:∃t,decide (iq n (dK (az B ps) r) W=r)=t:=⟨_,rfl⟩;rw[bz] at bL;have ey:=bL.out;obtain⟨cp,cf⟩:=hh2 bk bz;clear bk bz bL;generalize (aY (iq n (dK (az B ps) r) W)).toArray=ZW,(zs (dK (az B ps) r)).toArray=ZA,(aY r).toArray=ZR,aM n v=ZN,hf:n.F=f at *;have Ny:=ar hf;clear hf;have dv:Hid (¬(EH=true/\f=1/\tR=true/\tW=true)->¬((0<=i/\i<32)/\ng (az B ps) (fT (az B ps) i))):=λh=>jY.out λhr=>by
       cases aef:EH
       ·exact dx.out aef hr
       ·obtain⟨h1,h2,h3⟩:=(Yn.out aef).1 hr
        refine h ⟨aef,h1,?_,?_⟩
        ·rw[<-cp.out];exact bu h2
        ·rw[<-cf.out];exact bu h3
      have dc:((EH=true/\tR=true/\tW=true)/\f=1)\/EH=false\/(EH=true/\(f != 1)=true)\/((EH=true/\tR=false)/\f=1)\/(EH=true/\tR=true/\tW=false)/\f=1:=by cases EH<;>cases tR<;>cases tW<;>by_cases h:f=1<;>simp[h]
      rcases dc with ⟨⟨rfl,rfl,rfl⟩,rfl⟩|rfl|⟨rfl,bJ⟩|⟨⟨rfl,rfl⟩,rfl⟩|⟨⟨rfl,rfl,rfl⟩,rfl⟩
      have dn:Hid (ng (az B ps) r):=(Yn.out rfl).2 ⟨rfl,of_decide_eq_true cp.out,of_decide_eq_true cf.out⟩;all_goals
       go_wp2_with fail;refine ju (S:=λz=>ay [] wc z) ((ay.refl _ _).drew) ?_;repeat ((first
        |(refine aU.cons _ (bR.load rfl 3 (.tmp 71) rfl _ rfl λz J=>dB.out z J) ?_)
        |(refine aU.cons (.agg ZN) (bR.load rfl 75 (.tmp 8) rfl _ rfl λz J=>Ed.out z J) ?_)
        |(refine aU.cons (.agg ZA) (bR.load rfl 73 (.tmp 9) rfl _ rfl λz J=>dP.out z J) ?_)
        |(refine aU.cons (.agg ZR) (bR.load rfl 132 (.tmp 7) rfl _ rfl λz J=>dR.out z J) ?_)
        |(refine aU.cons (.bool true) (bR.call rfl 101 #[ZN] ?he ?h) ?_;(case he=>(intro wz;go_simp));(case h=>exact λz J=>(BA.out z J).mono λe w' he=>⟨he.1,J.trans' he.2⟩))
        |(refine aU.cons (.bool false) (bR.call rfl 101 #[ZN] ?he ?h) ?_;(case he=>(intro wz;go_simp));(case h=>exact λz J=>(BA.out z J).mono λe w' he=>⟨he.1,J.trans' he.2⟩))
        |(refine aU.cons (.agg ZW) (bR.call rfl 180 #[ZN,ZA,W] ?he ?h) ?_;(case he=>(intro wz;go_simp));(case h=>exact λz J=>(JI.out z).mono λe w' he=>⟨he.1,J.trans' he.2⟩))
        |(refine aU.cons undef (bR.off rfl) ?_)
        |(refine aU.cons (.bool true) (bR.val rfl ?h) ?_;(case h=>(intro z J;clear J;first|(go_simp;done)|(go_simp;simp;done)|(go_simp;simp[bJ];done))))
        |(refine aU.cons (.bool false) (bR.val rfl ?h) ?_;(case h=>(intro z J;clear J;first|(go_simp;done)|(go_simp;simp;done)|(go_simp;simp[bJ];done))))
        |(refine aU.cons ?_ (bR.val rfl ?h) ?_;(case h=>(intro z J;clear J;go_simp;rfl))));simp only[Act.put,ag,ah,ai])
       refine aU.done λwz J=> ?_
       have EM:=ar J;clear J
      ·obtain⟨w9,Yo,Yp,aN⟩:=mn.out wz EM.out trivial dn.out
       obtain⟨bn,bC,dS,dG⟩:=hh4 Yo Yp aN (Ed.out wz EM.out);clear Yo Yp aN;go_wp2_with(with_reducible first|refine gL 75 dG.out ?_|refine gS 75 bn.out ?_);exact aI (cJ results149 rfl bC.out rfl rfl) rfl dS.out
      all_goals
       have HN:=ar (dv.out λh=>by first|(simp at h;done)|simp[h.2.1] at bJ);obtain⟨w9,Yo,Yp,PF⟩:=lU.out wz (cG.out.keep EM.out (by simp));obtain⟨bn,bC,aS⟩:=hh3 Yo Yp ((cj.out.trans' EM.out).trans PF (by intro x J;rw[au] at J;omega));clear Yo Yp PF;go_wp2_with(with_reducible refine gS 75 bn.out ?_);refine aI (cJ results149 rfl bC.out rfl rfl) rfl ?_;have :=mK.no HN.out aS.out;rw[ak.out] at this;exact this
def ownRow (n:bT) (own:List Nat) (m:Nat):List Int:=if m<bp n.E.length then jk n.E m else (dY n own).drop 5
structure GH (X:List Int) (q:Nat) (n:bT) (own:List Nat):Prop where
 row:eo X q=iq n (dY n own) ((fq n own:Nat):Int)
 own:∀m,m<own.length->eo X (1080+8*own.getD m 0)=ownRow n own m
theorem jE{l:List Nat}(h:k<l.length):l.getD k 0∈l:=by
 rw[aj,aD h];exact bF _
theorem getD_inj{l:List Nat}(V:l.Nodup){j k:Nat}(J:j<l.length)(G:k<l.length)(h:l.getD j 0=l.getD k 0):j=k:=by
 rw[aj,aj,aD J,aD G] at h;have U:=dg.1 V;rcases Nat.lt_trichotomy j k with z|W|z
 ·exact absurd h (U j k J G z)
 ·exact W
 ·exact absurd h.symm (U k j G J z)
theorem Yq (z:X.length=3128)(p:Nat)(l:List Int)(j:Nat):∀k,p+k<=3128->(az X (jP p l k)).getD j 0=if p<=j/\j<p+k then l.getD (j-p) 0 else X.getD j 0:=by
 intro k;induction k with
 |zero=>intro _;rw[aA];rfl
 |succ k ih=>
  intro G;rw[Ap,bz,lO,aG,A8,cj,z,ih (by omega)];by_cases e:p+k=j
  ·subst e
   rw[aB ⟨rfl,by omega⟩,aB ⟨by omega,by omega⟩,dD]
  ·rw[aA]
   by_cases h:p<=j/\j<p+k
   ·rw[aB h,aB ⟨h.1,by omega⟩]
   ·rw[aA h,aA]
theorem SN (h:X.length=3128)(p:Nat)(z:p+8<=3128)(l:List Int)(j:Nat):(az X (jP p l 8)).getD j 0=if p<=j/\j<p+8 then l.getD (j-p) 0 else X.getD j 0:=Yq h p l j 8 z
theorem Nz{p:Nat}(G:l.length=8)(h:∀j,j<8->X.getD (p+j) 0=l.getD j 0):eo X p=l:=
 DW (by rw[iF,G]) λk z=>by
  rw[iF] at z;rw[kD _ _ _ z,h k z]
theorem qW (h:X.length=3128)(p:Nat)(G:p+8<=3128){l:List Int}(z:l.length=8):eo (az X (jP p l 8)) p=l:=
 Nz z λj J=>by rw[SN h p G,aB ⟨by omega,by omega⟩,dD]
theorem qX (U:X.length=3128)(p z:Nat)(G:p+8<=3128){l:List Int}(h:z+8<=p\/p+8<=z):eo (az X (jP p l 8)) z=eo X z:=
 Nz (iF _ _) λj J=>by rw[SN U p G,aA,kD _ _ _ J]
theorem QH (h:l.length=13)(x:Int):(iq n l x).length=8:=by simp[iq,h]
theorem sw (h:bp n.E.length<=own.length){k:Nat}(z:k<bp n.E.length):(dY n own).getD k 0=((own.getD k 0:Nat):Int):=by rw[vk h,aB z]
theorem NA (G:X.length=3128){n:bT}{own:List Nat}(ho:bp n.E.length<=own.length)(U:own.Nodup)(z:∀c∈own,c≠0/\c<256):∀k,k<=bp n.E.length->∀m,m<k->eo (az X (sY n.E (dY n own) k)) (1080+8*own.getD m 0)=jk n.E m:=by
 intro k;induction k with
 |zero=>intro _ m z;omega
 |succ k ih=>
  intro hk m W;have J:=z _ (jE (show k<own.length by omega));have V:=z _ (jE (show m<own.length by omega));rw[Ar,bz,sw ho (by omega),aG];by_cases e:m=k
  ·subst e
   exact qW (by rw[cj,G]) _ (by omega) (mW _ _ _)
  ·have :own.getD m 0≠own.getD k 0:=λh=>e (getD_inj U (by omega) (by omega) h)
   rw[qX (by rw[cj,G]) _ _ (by omega) (by omega)];exact ih (by omega) m (by omega)
theorem Yr (G:X.length=3128)(i:Nat)(hi:i<32){n:bT}{own:List Nat}(hB:n.B.length=13)(hc:bp n.E.length<=6)(ho:bp n.E.length<=own.length)(Mj:own.length<=bp n.E.length+1)(W:own.Nodup)(U:∀c∈own,c≠0/\c<256):
  GH (az X (wD i n own)) (824+8*i) n own:=by
 have J:=vh hB (by omega) ho;unfold wD;rw[bz,bz];refine⟨qW (by rw[cj,cj,G]) _ (by omega) (QH J _),λm V=> ?_⟩;have aa:=U _ (jE V);rw[qX (by rw[cj,cj,G]) _ _ (by omega) (by omega)];unfold ownRow qx;by_cases z:m<bp n.E.length
 ·rw[aB z]
  split
  ·rename_i hlt
   have ac:=U _ (jE hlt);have :own.getD m 0≠own.getD (bp n.E.length) 0:=λh=>by have :=getD_inj W V hlt h;omega
   have qa:fq n own=own.getD (bp n.E.length) 0:=by unfold fq;rw[aB hlt]
   rw[qa,qX (by rw[cj,G]) _ _ (by omega) (by omega)];exact NA G ho W U _ (aH _) m z
  ·exact NA G ho W U _ (aH _) m z
 ·obtain rfl:m=bp n.E.length:=by omega
  rw[aA z,aB V];have qa:fq n own=own.getD (bp n.E.length) 0:=by unfold fq;rw[aB V]
  rw[qa];exact qW (by rw[cj,G]) _ (by omega) (by rw[bM,J])
theorem GI:∀(l:List Nat) (X:List Int),(∀c∈l,c≠0/\c<256)->p∈dm X l->(816<=p.1.toNat/\p.1.toNat<820)\/(1080<=p.1.toNat/\(p.1.toNat-1080)/8∈l):=by
 intro l;induction l with
 |nil=>intro X _ h;simp[dm] at h
 |cons b l ih=>
  intro X G h;obtain⟨V,U⟩:=G b (by simp);have z:p∈(eI X b true++gW b)++dm (az X (eI X b true++gW b)) l:=h;rw[aT,aT] at z;rcases z with(z|z)|z
  ·left
   unfold eI at z;rw[aA,au] at z;subst z;show 816<=Int.toNat ((_:Nat):Int)/\Int.toNat ((_:Nat):Int)<820;rw[aG];omega
  ·right
   obtain⟨j,W,rfl⟩:=xR z;show 1080<=Int.toNat ((_:Nat):Int)/\(Int.toNat ((_:Nat):Int)-1080)/8∈_;rw[aG];refine⟨by omega,?_⟩;rw[show(1080+b*8+j-1080)/8=b by omega];simp
  ·rcases ih _ (λc J=>G c (by simp[J])) z with z|z
   ·exact .inl z
   ·exact .inr ⟨z.1,by simp[z.2]⟩
theorem mh (h:p∈jP q l k):∃j,j<k/\p.1.toNat=q+j/\p.2=l.getD j 0:=by
 unfold jP at h;obtain⟨j,z,rfl⟩:=bH.1 h;exact⟨j,by simpa using z,aG _,rfl⟩
theorem sZ (W:bp n.E.length<=own.length)(h:p∈wD i n own):(1080<=p.1.toNat/\(p.1.toNat-1080)/8∈own/\∃m j,j<8/\p.2=(ownRow n own m).getD j 0)\/(824+8*i<=p.1.toNat/\p.1.toNat<832+8*i/\∃j,j<8/\p.2=(iq n (dY n own) ((fq n own:Nat):Int)).getD j 0):=by
 unfold wD at h;rw[aT,aT] at h;rcases h with h|h|h
 ·left
  unfold sY at h;obtain⟨k,U,h⟩:=List.mem_flatMap.1 h;rw[b7] at U;obtain⟨j,G,z,J⟩:=mh h;rw[sw W U,aG] at z;refine⟨by omega,?_,k,j,G,by rw[J,ownRow,aB U]⟩;rw[z,show(1080+8*own.getD k 0+j-1080)/8=own.getD k 0 by omega];exact jE (by omega)
 ·left
  unfold qx at h;split at h
  ·rename_i hlt
   obtain⟨j,G,z,J⟩:=mh h;have V:fq n own=own.getD (bp n.E.length) 0:=by unfold fq;rw[aB hlt]
   rw[V] at z;refine⟨by omega,?_,bp n.E.length,j,G,by rw[J,ownRow,aA (Nat.lt_irrefl _)]⟩;rw[z,show(1080+8*own.getD (bp n.E.length) 0+j-1080)/8=own.getD (bp n.E.length) 0 by omega];exact jE hlt
  ·simp at h
 ·right
  obtain⟨j,G,z,J⟩:=mh h;exact⟨by omega,by omega,j,G,J⟩
theorem UW (W:bp n.E.length<=own.length)(U:∀c∈own,c≠0/\c<256){k:Nat}(hk:820<=k)(J:¬(1080<=k/\(k-1080)/8∈own))(V:¬(824+8*i<=k/\k<832+8*i)):(az X (pN X i n own)).getD k 0=X.getD k 0:=by
 refine dX _ _ _ λp G z=> ?_
 unfold pN at G;rw[aT] at G;rcases G with G|G
 ·rcases GI _ _ U G with h|h
  ·omega
  ·rw[z] at h;exact J h
 ·rcases sZ W G with h|h
  ·rw[z] at h;exact J ⟨h.1,h.2.1⟩
  ·rw[z] at h;exact V ⟨h.1,h.2.1⟩
theorem NC (s:ByteArray):kZ (bl s)<18446744073709551616:=by
 unfold kZ;split
 ·rename_i h
  exact Xa (oN h).2 (Bl s)
 ·omega
theorem UX (z:∀k,k<E.length->0<=jm E k/\jm E k<18446744073709551616)(k j:Nat):0<=(jk E k).getD j 0/\(jk E k).getD j 0<18446744073709551616:=by
 by_cases h:j<8
 ·unfold jk
  rw[qq _ _ _ _ h];split
  ·unfold K7
   split
   ·have :=NC (eX E (4*k+j/2));omega
   ·exact z _ (by omega)
  ·omega
 ·rw[aj,aP (by rw[jk,mW];omega)]
  simp
theorem aei (aa:In64 X)(hX:X.length=3128){i:Nat}{n:bT}{own:List Nat}(hB:n.B.length=13)(J:ct n)(V:bp n.E.length<=own.length)(G:∀c∈own,c≠0/\c<256):In64 (az X (pN X i n own)):=by
 have U:=jM J;have z:=vh (own:=own) hB (by omega) V;have wC:=CV J hB V G;have hT:=uh J;unfold pN;rw[bz];refine(nP own X aa hX G).1.put λp hp=> ?_
 rcases sZ V hp with ⟨-,-,m,j,W,h⟩|⟨-,-,j,W,h⟩
 ·rw[h]
  unfold ownRow;split
  ·refine UX (λk hk=> ?_) m j
   have :=((U.2.2 (by omega)).2.2.2.2 k hk).2.1;omega
  ·rw[aj,b9,<-aj]
   have :=wC (5+j);omega
 ·rw[h]
  unfold iq;have qa:fq n own<256:=by
   unfold fq;split
   ·exact(G _ (jE (by assumption))).2
   ·omega
  obtain⟨t1,t2,t3,t4⟩:=hT
  match j,W with
  |0,_=>show 0<=pn n/\pn n<_;unfold pn;omega
  |1,_=>show 0<=n.S/\n.S<_;omega
  |j+2,W=>
   show 0<=((dY n own).take 5++[((fq n own:Nat):Int)]).getD j 0/\((dY n own).take 5++[((fq n own:Nat):Int)]).getD j 0<_;rw[aj,iy];split
   ·rename_i h5
    rw[aJ,z] at h5;rw[bU,aB,<-aj];have :=wC j;omega
   ·rename_i h5
    rw[aJ,z] at h5;rw[aJ,z,show j-min 5 13=0 by omega];show 0<=((fq n own:Nat):Int)/\((fq n own:Nat):Int)<_;omega
theorem ND (V:ct n)(l:List Int)(x:Int):iR (iq n l x)=⟨n.F,n.K,n.L,n.S,List.replicate 13 0,[]⟩:=by
 obtain⟨hF,hL,z⟩:=V;have U:n.K=1\/n.K=2:=z.imp (·.1) (·.1);have W:0<=n.S/\n.S<=832:=by
  rcases z with ⟨_,h⟩|⟨_,h⟩
  ·exact h.1
  ·have h1:=h.1
   have h2:=h.2.1;omega
 have J:(iq n l x).getD 0 0=n.F+256*n.K+65536*n.L:=rfl;have G:(iq n l x).getD 1 0=n.S:=rfl;unfold iR;rw[J,G,show(n.F+256*n.K+65536*n.L)%256=n.F by omega,show(n.F+256*n.K+65536*n.L)/256%256=n.K by omega,show(n.F+256*n.K+65536*n.L)/65536%65536=n.L by omega,show wrap64 n.S=n.S by unfold wrap64;omega]
theorem Yt (h:l.length=13)(x:Int):(iq n l x).getD 7 0=x:=by
 show(l.take 5++[x]).getD 5 0=x;rw[aj,aR (by rw[aJ,h];omega),aJ,h];rfl
theorem Yu (h:l.length=13)(x:Int):((iq n l x).drop 2).take 5=l.take 5:=by
 show(l.take 5++[x]).take 5=_;rw[fI (by rw[aJ,h];omega),List.take_take];rfl
theorem wF (n:bT):bp n.E.length<=eY n/\eY n<=bp n.E.length+1:=by unfold eY;split<;>omega
theorem UY (z:c<=own.length)(G:own.length<=c+1):own.take c++(if c<own.length then [own.getD c 0] else [])=own:=by
 split
 ·rename_i h
  have :own.drop c=[own.getD c 0]:=by
   rw[fG h,dz (by omega),aj,aD h];rfl
  rw[<-this,dt]
 ·rw[br,aW (by omega)]
theorem UZ (h:bp n.E.length<=own.length):((dY n own).take (bp n.E.length)).map Int.toNat=own.take (bp n.E.length):=by
 unfold dY;rw[fI (by rw[bY,aJ];omega),aW (by rw[bY,aJ];omega),List.map_map]
 conv=>rhs;rw[<-List.map_id (List.take (bp n.E.length) own)]
 exact dP λa _=>aG a
theorem C0 (hB:n.B.length=13)(hR:ct n)(hF:n.F=1)(ho:own.length=eY n)(hm:∀c∈own,c≠0/\c<256)(h:GH X q n own):
  ng X (eo X q)/\oC X (eo X q)=n/\EP X (eo X q)=own:=by
 have ax:=jM hR;have au:=wF n;have W:bp n.E.length<=own.length:=by omega
 have U:=vh (own:=own) hB (by omega) W;have wC:=CV hR hB W hm;have QI:=ND hR (dY n own) ((fq n own:Nat):Int);have g1:(iq n (dY n own) ((fq n own:Nat):Int)).getD 1 0=n.S:=rfl;have g7:=Yt (n:=n) U ((fq n own:Nat):Int);have g5:=Yu (n:=n) U ((fq n own:Nat):Int);have hK:n.K=1\/n.K=2:=hR.2.2.imp (·.1) (·.1);have Yv:n.K=1->n.E=[]/\bp n.E.length=0:=λz=>by
  rcases hR.2.2 with h|h
  ·have :=h.2.2.1
   exact⟨List.length_eq_zero_iff.1 this,by unfold bp;omega⟩
  ·have :=h.1;omega
 have NF:n.K=2->pk n:=λz=>by
  rcases hR.2.2 with h|h
  ·have :=h.1;omega
  ·exact h.2
 have av:fq n own<256:=by
  unfold fq;split
  ·exact(hm _ (jE (by assumption))).2
  ·omega
 -- the list, or none
 have J:(bp n.E.length<own.length/\fq n own=own.getD (bp n.E.length) 0/\fq n own≠0/\(dY n own).drop 5≠List.replicate 8 0)\/(bp n.E.length=own.length/\fq n own=0/\(dY n own).drop 5=List.replicate 8 0):=by
  by_cases hc:bp n.E.length<own.length
  ·left
   have qa:fq n own=own.getD (bp n.E.length) 0:=by unfold fq;rw[aB hc]
   refine⟨hc,qa,by rw[qa];exact(hm _ (jE hc)).1,λhz=> ?_⟩;have h5:5<bp n.E.length\/n.B.drop 5≠List.replicate 8 0:=by
    rcases Classical.em (5<bp n.E.length\/n.B.drop 5≠List.replicate 8 0) with h|h
    ·exact h
    ·have :eY n=bp n.E.length:=by unfold eY;rw[aA h]
     omega
   by_cases h6:5<bp n.E.length
   ·have e:=sw W h6
    have e2:((dY n own).drop 5).getD 0 0=(0:Int):=by rw[hz];rfl
    rw[aj,b9,<-aj,e] at e2;have :=(hm _ (jE (show 5<own.length by omega))).1;omega
   ·have h7:=h5.resolve_left h6
    rcases hK with z|z
    ·have ac:=(Yv z).2
     apply h7;rw[<-hz];unfold dY;rw[ac];rfl
    ·apply h7
     rw[(NF z).2.2.1];rfl
  ·right
   have ai:bp n.E.length=own.length:=by omega
   have qa:fq n own=0:=by unfold fq;rw[aA hc]
   have h5:¬(5<bp n.E.length\/n.B.drop 5≠List.replicate 8 0):=λh=>by
    have :eY n=bp n.E.length+1:=by unfold eY;rw[aB h]
    omega
   have h6:n.B.drop 5=List.replicate 8 0:=Classical.not_not.1 λh=>h5 (.inr h)
   refine⟨ai,qa,DW (by rw[bM,U];rfl) λk z=> ?_⟩;rw[<-h6,aj,b9,<-aj,vk W,aA,aj,aj,b9]
 have uD:dK X (iq n (dY n own) ((fq n own:Nat):Int))=dY n own:=by
  unfold dK;rw[g5,g7]
  conv=>rhs;rw[<-dt 5 (dY n own)]
  congr 1
  rcases J with ⟨hc,qa,h0,-⟩|⟨hc,qa,h0⟩
  ·rw[aA,aG,qa,h.own _ hc,ownRow,aA (Nat.lt_irrefl _)]
  ·rw[aB,h0]
 have Yw:n.K=2->n.S.toNat=n.E.length/\pI X (dY n own) n.E.length/\sS X (dY n own) n.E.length=n.E:=λz=>by
  have hd:=NF z;have aa:∀e,e<n.E.length->X.getD (x8 (dY n own) e) 0=((kZ (bl (eX n.E e)):Nat):Int)/\X.getD (x8 (dY n own) e+1) 0=jm n.E e/\kI (kZ (bl (eX n.E e)))=some (bl (eX n.E e)):=λe he=>by
   have af:e/4<bp n.E.length:=by unfold bp;omega
   have V:=h.own (e/4) (by omega);rw[ownRow,aB af] at V;have ag:x8 (dY n own) e=1080+8*own.getD (e/4) 0+2*(e%4):=by unfold x8;rw[sw W af,aG]
   have r0:(eo X (1080+8*own.getD (e/4) 0)).getD (2*(e%4)) 0=(jk n.E (e/4)).getD (2*(e%4)) 0:=by rw[V]
   have r1:(eo X (1080+8*own.getD (e/4) 0)).getD (2*(e%4)+1) 0=(jk n.E (e/4)).getD (2*(e%4)+1) 0:=by rw[V]
   rw[kD _ _ _ (by omega)] at r0 r1;unfold jk at r0 r1;rw[qq _ _ _ _ (by omega),aB,K7,aB,show 4*(e/4)+2*(e%4)/2=e by omega] at r0;rw[qq _ _ _ _ (by omega),aB,K7,aA,show 4*(e/4)+(2*(e%4)+1)/2=e by omega] at r1;have hg:=(hd.2.2.2 e he).1;refine⟨by rw[ag,r0],by rw[ag,Nat.add_assoc,r1],?_⟩;unfold kZ;rw[aB hg];exact oO hg (Bl _)
  have hE:sS X (dY n own) n.E.length=n.E:=Xz (qw _ _ _) λe he=>by
   rw[qw] at he;obtain⟨h1,h2,h3⟩:=aa e he;obtain⟨e1,e2⟩:=CN X (dY n own) n.E.length e he;rw[e1,e2];unfold Bq zC;rw[h1,h2,aG,h3];exact⟨Ff _,rfl⟩
  refine⟨by rw[hd.2.1,aG],⟨hd.1,?_,λk z=> ?_⟩,hE⟩
  ·refine DW (by rw[U,nQ U (by omega)]) λk _=> ?_
   rw[qo U (by omega)];split
   ·rfl
   ·rw[vk W,aA (by assumption),hd.2.2.1,aj,bj]
    split<;>rfl
  ·have ae:k<own.length:=by omega
   have JK:=hm _ (jE ae);refine⟨by rw[sw W z];omega,λj hj=> ?_,?_⟩
   ·obtain⟨h1,h2,h3⟩:=aa (4*k+j) (by omega)
    unfold Bq zC;rw[h1,h2,aG,h3];have :=(hd.2.2.2 (4*k+j) (by omega)).2.1;exact⟨rfl,by omega⟩
   ·rw[hE,sw W z,aG]
    have :=h.own k ae;rw[ownRow,aB z] at this;exact this.symm
 rw[h.row];have G:oC X (iq n (dY n own) ((fq n own:Nat):Int))=n:=by
  unfold oC;rw[uD,QI,g1];obtain⟨F,K,L,S,B,E⟩:=n;rcases hK with z|z
  ·have hb:=Yv z
   rw[aA (show ¬K=2 by have :K=1:=z;omega)];show bT.mk F K L S _ []=bT.mk F K L S B E;have he:E=[]:=hb.1;have ac:bp E.length=0:=hb.2;rw[he]
   congr 1
   unfold dY;have ah:bp ([]:List (ByteArray×Int)).length=0:=by decide
   show(own.take (bp ([]:List (ByteArray×Int)).length)).map _++B.drop (bp ([]:List (ByteArray×Int)).length)=B;rw[ah];rfl
  ·obtain⟨e1,e2,e3⟩:=Yw z
   have ak:S.toNat=E.length:=e1;rw[aB (show K=2 from z)];show bT.mk F K L S (List.replicate 13 0) (sS X _ S.toNat)=bT.mk F K L S B E;have hb:B=List.replicate 13 0:=(NF z).2.2.1;rw[ak,hb]
   congr 1
   rw[<-hb];exact e3
 refine⟨⟨⟨by rw[g7];omega,λk _=>by rw[uD];exact(wC k).2,?_⟩,?_,λz=> ?_,by rw[QI];exact hF,by rw[G];exact hR,by rw[G,uD,g7]⟩,G,?_⟩
 ·rw[g7,uD]
  rcases J with ⟨_,_,_,h0⟩|⟨_,h0,_⟩
  ·exact .inr h0
  ·exact .inl (by omega)
 ·rw[g1]
  rcases hK with z|z
  ·rcases hR.2.2 with h|h
   ·exact h.2.1.2
   ·have :=h.1;omega
  ·have :=(NF z).2.1;omega
 ·rw[QI] at z
  obtain⟨e1,e2,e3⟩:=Yw z;rw[uD,g1,e1];exact e2
 ·unfold EP
  rw[uD,QI,g1,g7];have ar:(if ((fq n own:Nat):Int)=0 then [] else [((fq n own:Nat):Int).toNat])=if bp n.E.length<own.length then [own.getD (bp n.E.length) 0] else []:=by
   rcases J with ⟨hc,qa,h0,-⟩|⟨hc,qa,-⟩
   ·rw[aA,aB hc,aG,qa]
   ·rw[aB,aA]
  rw[ar];have h1:(if (bT.mk n.F n.K n.L n.S (List.replicate 13 0) []).K=2 then ((dY n own).take (bp n.S.toNat)).map Int.toNat else [])=own.take (bp n.E.length):=by
   rcases hK with z|z
   ·rw[aA (show ¬n.K=2 by omega),(Yv z).2]
    rfl
   ·rw[aB (show n.K=2 from z),(Yw z).1,UZ W]
  rw[h1];exact UY W (by omega)
theorem o5:∀a:List UInt8,Op.bytesLess a a=false
 | []=>rfl
 |a::x=>by
  have h:¬a<a:=by rw[gZ];omega
  simp[Op.bytesLess,o5 x,h]
theorem td:∀a b:List UInt8,Op.bytesLess a b=false->a≠b->Op.bytesLess b a=true
 | [],[],_,h=>absurd rfl h
 |_::_,[],_,_=>rfl
 | [],_::_,h,_=>by simp[Op.bytesLess] at h
 |a::x,b::y,h,hne=>by
  simp only[Op.bytesLess,Bool.or_eq_false_iff,Bool.and_eq_false_iff,decide_eq_false_iff_not,cL] at h;simp only[Op.bytesLess,Bool.or_eq_true,gj,decide_eq_true_eq,beq_iff_eq];by_cases e:a=b
  ·subst e
   refine .inr ⟨rfl,td x y ?_ (λz=>hne (by rw[z]))⟩;exact h.2.resolve_left λJ=>J rfl
  ·left
   have G:=h.1;rw[gZ] at G ⊢;have :a.toNat≠b.toNat:=λh=>e (UInt8.toNat_inj.1 h)
   omega
theorem oK:∀a b c:List UInt8,Op.bytesLess a b=true->Op.bytesLess b c=true->Op.bytesLess a c=true
 |_,_,[],_,h=>by simp[Op.bytesLess] at h
 | [],_,_::_,_,_=>rfl
 |_::_,[],_::_,h,_=>by simp[Op.bytesLess] at h
 |a::x,b::y,c::z,J,G=>by
  simp only[Op.bytesLess,Bool.or_eq_true,gj,decide_eq_true_eq,beq_iff_eq] at J G ⊢;rw[gZ] at *;rcases J with J|⟨rfl,J⟩
  ·rcases G with G|⟨rfl,G⟩
   ·left;omega
   ·left;exact J
  ·rcases G with G|⟨rfl,G⟩
   ·left;exact G
   ·exact .inr ⟨rfl,oK x y z J G⟩
theorem GJ (h:∀k,k<E.length->0<k->leB (eX E k) (eX E (k-1))=false):∀k j,j<k->k<E.length->Op.bytesLess (eX E j).toList (eX E k).toList=true:=by
 intro k;induction k with
 |zero=>intro j U;omega
 |succ k ih=>
  intro j U J;have z:=h (k+1) J (by omega);unfold leB at z;rw[Bool.or_eq_false_iff,ib] at z;have G:Op.bytesLess (eX E k).toList (eX E (k+1)).toList=true:=td _ _ z.1 (by simpa using z.2);by_cases e:j=k
  ·subst e;exact G
  ·exact oK _ _ _ (ih j (by omega) (by omega)) G
theorem NG (h:∀k,k<E.length->0<k->leB (eX E k) (eX E (k-1))=false){j k:Nat}(z:j<k)(G:k<E.length):eX E j≠eX E k:=λe=>by
 have :=GJ h k j z G;rw[e,o5] at this;cases this
theorem NH{l:List Nat}(h:iu l=true):72057594037927936<=kZ l:=by
 unfold kZ;rw[aB h,rK];have :=(oN h).1;omega
theorem C2 (k:Nat):(l.drop 5).getD k 0=l.getD (5+k) 0:=by
 rw[aj,b9,aj]
theorem QJ (h:k<c)(z:c<=l.length):((l.take c).map Int.toNat).getD k 0=(l.getD k 0).toNat:=by
 rw[aj,bJ,bU,aB h,aj,aD (by omega)];rfl
theorem U0 (aH:In64 X){q:Nat}(h:ng X (eo X q)):
  ct (oC X (eo X q))/\(oC X (eo X q)).F=1/\(oC X (eo X q)).B.length=13/\(EP X (eo X q)).length=eY (oC X (eo X q))/\(∀c∈EP X (eo X q),c≠0/\c<256)/\(EP X (eo X q)).Nodup/\GH X q (oC X (eo X q)) (EP X (eo X q)):=by
 obtain⟨ai,hS,aS,hF,hR,ar⟩:=h;have xG:=iF X q;have xu:In64 (eo X q):=λj=>by
  by_cases hj:j<8
  ·rw[kD _ _ _ hj];exact aH _
  ·rw[aj,aP (by rw[xG];omega)]
   simp
 have wC:=GD aH xu xG ai;have aa:=wu (X:=X) xG;have T9:dK X (eo X q)=((eo X q).drop 2).take 5++(if (eo X q).getD 7 0=0 then List.replicate 8 0 else eo X (1080+8*((eo X q).getD 7 0).toNat)):=rfl;have W:(dK X (eo X q)).drop 5=if (eo X q).getD 7 0=0 then List.replicate 8 0 else eo X (1080+8*((eo X q).getD 7 0).toNat):=by
  rw[T9,List.drop_append_of_le_length (by simp[xG]),dz (by simp[xG])];rfl
 have aX:=ai.1;have aF:=(xu 7).1;have aK:=ai.2.2;clear T9 ai;have ER:oC X (eo X q)=if (iR (eo X q)).K=2 then { iR (eo X q) with E:=sS X (dK X (eo X q)) ((eo X q).getD 1 0).toNat } else { iR (eo X q) with B:=dK X (eo X q) }:=rfl
 have ac:EP X (eo X q)=(if (iR (eo X q)).K=2 then ((dK X (eo X q)).take (bp ((eo X q).getD 1 0).toNat)).map Int.toNat else [])++(if (eo X q).getD 7 0=0 then [] else [((eo X q).getD 7 0).toNat]):=rfl;have aT:(iR (eo X q)).B=List.replicate 13 0:=rfl;have aV:(iR (eo X q)).E=[]:=rfl;generalize hn:oC X (eo X q)=n,bg:EP X (eo X q)=own,bb:dK X (eo X q)=l,aY:(eo X q).getD 7 0=V,bf:((eo X q).getD 1 0).toNat=m at *;generalize az:eo X q=r at *;have aU:bp ([]:List (ByteArray×Int)).length=0:=by decide
 by_cases hK:(iR r).K=2
 · -- a directory
  rw[aB hK] at ER ac;obtain⟨aZ,aQ,ax⟩:=aS hK;have ah:n.E=sS X l m:=by rw[ER]
  have GK:n.E.length=m:=by rw[ah,qw]
  have Ym:n.B=List.replicate 13 0:=by rw[ER];exact aT
  have aW:n.K=2:=by rw[ER];exact hK
  have bc:bp m<=6:=by unfold bp;omega
  have ay:∀k,bp m<=k->l.getD k 0=0:=λk J=>by
   rw[aQ,qo aa (by omega),aA]
  have NF:pk n:=by
   rcases hR.2.2 with h|h
   ·have :=h.1;omega
   ·exact h.2
  have ak:((l.take (bp m)).map Int.toNat).length=bp m:=by rw[bY,aJ,aa];omega
  have G:own.length=bp m+(if V=0 then 0 else 1):=by
   rw[ac,aC,ak];split<;>rfl
  have ae:∀k,k<bp m->own.getD k 0=(l.getD k 0).toNat:=λk J=>by
   rw[ac,aj,ba (by rw[ak];exact J),<-aj,QJ J (by rw[aa];omega)]
  have SQ:V≠0->own.getD (bp m) 0=V.toNat:=λz=>by
   rw[ac,aj,aR (by rw[ak];omega),ak,je,aA z];rfl
  have qa:fq n own=V.toNat:=by
   unfold fq;rw[GK];by_cases z:V=0
   ·rw[aA (by rw[G,aB z];omega),z];rfl
   ·rw[aB (by rw[G,aA z];omega),SQ z]
  have U:dY n own=l:=by
   have Nn:bp n.E.length<=own.length:=by rw[GK,G];omega
   refine DW (by rw[vh (by rw[Ym];rfl) (by rw[GK];omega) Nn,aa]) λk _=> ?_
   rw[vk Nn,GK];split
   ·rename_i J
    rw[ae k J,jC (wC k).1]
   ·rename_i J
    rw[ay k (by omega),Ym,aj,bj];split<;>rfl
  have aG:V≠0↔5<bp m:=by
   constructor
   ·intro z
    have h1:=aK.resolve_left z;rcases dE 5 (bp m) with h|h
    ·exact h
    ·refine absurd (DW (by rw[bM,aa];rfl) λk _=> ?_) h1
     rw[C2,ay _ (by omega),aj,bj];split<;>rfl
   ·intro h5 z
    rw[aB z] at W;have h1:=(ax 5 h5).1;have h2:(l.drop 5).getD 0 0=0:=by rw[W];rfl
    rw[C2] at h2;exact h1 h2
  have uZ:eY n=own.length:=by
   unfold eY;rw[GK,G];by_cases z:V=0
   ·rw[aA ?_,aB z]
    ·rfl
    ·intro h
     rcases h with h|h
     ·exact aG.2 h z
     ·exact h (by rw[Ym];rfl)
   ·rw[aB (.inl (aG.1 z)),aA z]
  have aL:∀c∈own,c≠0/\c<256:=λc hc=>by
   obtain⟨k,J,rfl⟩:=bW hc;have e:own[k]=own.getD k 0:=by rw[aj,aD J];rfl
   rw[e];by_cases ag:k<bp m
   ·rw[ae k ag]
    have :=(ax k ag).1;have :=wC k;omega
   ·rw[G] at J
    split at J
    ·omega
    ·rename_i z
     rw[show k=bp m by omega,SQ z];omega
  have af:∀k,k<bp m->eo X (1080+8*own.getD k 0)=jk n.E k:=λk J=>by
   rw[ae k J,ah];exact(ax k J).2.2.symm
  have aM:V≠0->eo X (1080+8*V.toNat)=l.drop 5:=λz=>by rw[W,aA z]
  have x9:∀k,k<bp m->(jk n.E k).getD 0 0=((kZ (bl (eX n.E (4*k))):Nat):Int)/\4*k<n.E.length:=λk J=>by
   have bh:4*k<m:=by unfold bp at J;omega
   refine⟨?_,by omega⟩;unfold jk;rw[qq _ _ _ _ (by omega),aB,K7,aB];rfl
  have av:=λk J (z:0<k)=>(NF.2.2.2 k J).2.2 z
  refine⟨hR,by rw[ER];exact hF,by rw[Ym];rfl,uZ.symm,aL,?_,?_⟩
  ·rw[List.nodup_iff_pairwise_ne,dg]
   intro i j hi hj bk e;have ei:own[i]=own.getD i 0:=by rw[aj,aD hi];rfl
   have ej:own[j]=own.getD j 0:=by rw[aj,aD hj];rfl
   rw[ei,ej] at e;have aI:i<bp m:=by rw[G] at hj;split at hj<;>omega
   obtain⟨f1,f2⟩:=x9 i aI;have b1:=af i aI;have g1:=(NF.2.2.2 (4*i) f2).1;by_cases QK:j<bp m
   ·obtain⟨f3,f4⟩:=x9 j QK
    have b2:=af j QK;rw[e,b2] at b1;rw[b1,f1] at f3;have g2:=(NF.2.2.2 (4*j) f4).1;have hw:kZ (bl (eX n.E (4*i)))=kZ (bl (eX n.E (4*j))):=by omega
    unfold kZ at hw;rw[aB g1,aB g2] at hw;have n1:=oO g1 (Bl _);have n2:=oO g2 (Bl _);rw[hw,n2] at n1;exact NG av (show 4*i<4*j by omega) f4 (KU (Option.some.inj n1)).symm
   ·have z:V≠0:=λz=>by rw[G,aB z] at hj;omega
    have aO:j=bp m:=by rw[G,aA z] at hj;omega
    rw[aO,SQ z] at e;rw[e,aM z] at b1;have :=NH g1;rw[<-b1,C2] at f1;have :=wC (5+0);omega
  ·refine⟨by rw[U,qa,jC aF,ar,az],λk J=> ?_⟩
   unfold ownRow;rw[GK,U];split
   ·rename_i ag
    exact af k ag
   ·rename_i ag
    have z:V≠0:=λz=>by rw[G,aB z] at J;omega
    have aN:k=bp m:=by rw[G,aA z] at J;omega
    rw[aN,SQ z,aM z]
 · -- a file
  rw[aA hK] at ER ac;have ah:n.E=[]:=by rw[ER];exact aV
  have GK:bp n.E.length=0:=by rw[ah];exact aU
  have Ym:n.B=l:=by rw[ER]
  have G:own=if V=0 then [] else [V.toNat]:=by rw[ac,bQ]
  have U:dY n own=l:=by
   unfold dY;rw[GK,Ym];rfl
  have qa:fq n own=V.toNat:=by
   unfold fq;rw[GK];by_cases z:V=0
   ·rw[G,aB z,aA (by simp),z];rfl
   ·rw[G,aA z,aB (by simp)];rfl
  refine⟨hR,by rw[ER];exact hF,by rw[Ym,aa],?_,?_,?_,?_⟩
  ·unfold eY
   rw[GK,Ym];by_cases z:V=0
   ·rw[aB z] at W
    rw[G,aB z,aA ?_]
    ·rfl
    ·intro h
     rcases h with h|h
     ·omega
     ·exact h W
   ·rw[G,aA z,aB (.inr (aK.resolve_left z))]
    rfl
  ·rw[G]
   split
   ·simp
   ·rename_i z
    intro c hc;rw[au] at hc;omega
  ·rw[G]
   split<;>simp
  ·refine⟨by rw[U,qa,jC aF,ar,az],λk J=> ?_⟩
   unfold ownRow;rw[GK,U,aA];have z:V≠0:=λz=>by rw[G,aB z] at J;simp at J
   rw[G,aA z] at J ⊢;obtain rfl:k=0:=by simpa using J
   show eo X (1080+8*V.toNat)=_;rw[W,aA z]
def wG (w:World) (b z:Nat) (B:List Int) (ps:List (Int×Int)) (i:Int) (n:bT) (e:Ending) (w':World):Prop:=
 ∃r qs h,e=(r:Int)/\(h=z\/(w.heap.size<=h/\h<w'.heap.size))/\eK w' b h B (ps++qs)/\ay [b,z] w w'/\qs.length<=200/\
  ((r=1/\¬IU i n/\qs=[])\/(r=7/\IU i n/\(aZ (az B ps)).length<eY n/\qs=[])\/
   (r=0/\IU i n/\eY n<=(aZ (az B ps)).length/\qs=pN (az B ps) i.toNat n ((aZ (az B ps)).take (eY n))))
theorem qy:∀c∈(aZ X).take m,c≠0/\c<256:=λc h=>by
 have :=ku.1 (bO h);exact⟨this.2.1,this.1⟩
theorem sx:((aZ X).take m).Nodup:=List.Sublist.nodup (List.take_sublist _ _) (rR X 256)
theorem uj (h:m<=(aZ X).length):((aZ X).take m).length=m:=by rw[aJ,cT h]
theorem U1 (z:bp n.E.length<=6)(h:∀c∈own,c≠0/\c<256)(G:own.length<=7):(pN X i n own).length<=200:=by
 unfold pN wD qx;rw[aC,aC,aC,qj _ _ h,yX,oX];split
 ·rw[oX];omega
 ·simp only[cD];omega
theorem abF{J:Nat}(h:eK w b J B ps)(U:In64 (az B ps))(hT:kN w)(DV:J<w.heap.size)(aa:ps.length<=800000)(i:Int)(n:bT)(v:Value)(g:Nat)(hB:n.B.length=13)(hE:bD w v g n.E)
  (V:∀k,k<n.E.length->(eX n.E k).size<=9223372036854775807) (W:n.E.length≠0->g≠b/\g≠J):
  Calls prog 150 #[b,i,aM n v] w (wG w b J B ps i n):=by
 by_cases z:IU i n
 ·by_cases hn:eY n<=(aZ (az B ps)).length
  ·refine(adZ h U hT DV aa i n v g hB hE V z W hn).mono λe w' G=> ?_
   obtain⟨G,gI,h1,h2,h3⟩:=G;have ac:=jM z.2.2;have ae:=wF n;exact⟨0,_,gI,G,h1,h2,h3,U1 ac.2.1 qy (by rw[uj hn];omega),.inr (.inr ⟨rfl,z,hn,rfl⟩)⟩
  ·refine(UK h U i n v g hB hE V z (by omega)).mono λe w' G=> ?_
   exact⟨7,[],J,G.1,.inl rfl,by rw[br];exact h.keep G.2 (by simp) (by simp),G.2.mono (by simp),by simp,.inr (.inl ⟨rfl,z,by omega,rfl⟩)⟩
 ·refine(abw i n v g hB hE V z).mono λe w' G=> ?_
  exact⟨1,[],J,G.1,.inl rfl,by rw[br];exact h.keep G.2 (by simp) (by simp),G.2.mono (by simp),by simp,.inl ⟨rfl,z,rfl⟩⟩
theorem C3{h:Array Value}(U:bh w g h 75)(J:h.size=18)(z:n.B.length=13){v:Value}(G:v.oneCell'=true):
  ∃w',(storeVar 75 g (.agg (aM n v))).run prog w= .ok () w'/\bh w' g (aM n v) 75/\ay [g] w w':=
 bG (P:= prog) (ty:= 75) (cs:=mZ n v) (by rw[gM,z];exact iX) U (by rw[J,gM,z]) (kY G)
theorem yY{v:Value}(h:bD w v g E):v.oneCell'=true:=by
 obtain⟨a,cap,rfl,-⟩:=h;rfl
theorem Yx (G:In64 X)(U:X.length=3128){i:Int}{n:bT}(J:n.B.length=13)(h:IU i n)(hn:eY n<=(aZ X).length):
  GH (az X (pN X i.toNat n ((aZ X).take (eY n)))) (824+8*i.toNat) n ((aZ X).take (eY n))/\In64 (az X (pN X i.toNat n ((aZ X).take (eY n))))/\
  (∀k,820<=k->¬(824+8*i.toNat<=k/\k<824+8*i.toNat+8)->¬(1080<=k/\(k-1080)/8∈(aZ X).take (eY n))->(az X (pN X i.toNat n ((aZ X).take (eY n)))).getD k 0=X.getD k 0):=by
 have z:=jM h.2.2;have V:=wF n;have aa:=uj hn;have hi:=h.1;refine⟨?_,aei G U J h.2.2 (by omega) qy,λk W h1 h2=>UW (by omega) qy W h2 (by omega)⟩;unfold pN;rw[bz];exact Yr (by rw[cj,U]) _ (by omega) J z.2.1 (by omega) (by omega) sx qy
end Go.Proofs.YtimcfdnbpkiniaaGreatDoor
