/- Lemmas. -/
import Derived.Test.YtepbpdipenedhaaGreatDoorM09
set_option maxHeartbeats 8000000
set_option maxRecDepth 100000
namespace Go.Proofs.YtepbpdipenedhaaGreatDoor
open Go.Proofs.Tryz
open Go.RowKit
variable{B X l:List Int}{w:World}{b c g i k m q:Nat}{ps:List (Int×Int)}{n:bT}{own:List Nat}{p:Int×Int}{E:List (ByteArray×Int)}
def fS (X:List Int) (i:Int):List Int:=dZ X (824+8*i.toNat)
def oC (X r:List Int):bT:=
 if (iR r).K=2 then { iR r with E:=sV X (dJ X r) (r.getD 1 0).toNat } else { iR r with B:=dJ X r }
def EJ (X r:List Int):List Nat:=
 (if (iR r).K=2 then ((dJ X r).take (bp (r.getD 1 0).toNat)).map Int.toNat else [])++(if r.getD 7 0=0 then [] else [(r.getD 7 0).toNat])
def ni (X r:List Int):Prop:=
 zT X r/\r.getD 1 0<=832/\((iR r).K=2->pJ X (dJ X r) (r.getD 1 0).toNat)/\(iR r).F=1/\cm (oC X r)/\iq (oC X r) (dJ X r) (r.getD 7 0)=r
theorem Gz{r:List Int}(h:In64 X)(U:In64 r)(z:r.length=8)(V:zT X r):∀k,0<=(dJ X r).getD k 0/\(dJ X r).getD k 0<256:=by
 intro k;by_cases J:k<13
 ·refine⟨?_,V.2.1 k J⟩
  unfold dJ;by_cases W:k<5
  ·simp only[aj]
   rw[ba (by simp[z];omega),bU,aB W,b8];have :=(U (2+k)).1;rwa[aj] at this
  ·simp only[aj]
   rw[aR (by simp[z];omega)];split
   ·rw[bj]
    split<;>simp
   ·have :((r.drop 2).take 5).length=5:=by simp[z]
    rw[this];have G:=kH X (1080+8*(r.getD 7 0).toNat) (k-5) (by omega);rw[aj,aj] at G;rw[<-aj,<-aj,aj,aj] at *;rw[G];have :=(h (1080+8*(r.getD 7 0).toNat+(k-5))).1;rwa[aj] at this
 ·rw[aj,aP (by rw[wH z];omega)]
  simp
theorem QD{y:Int}(h:0<=y/\y<18446744073709551616):(y<=832↔0<=wrap64 y/\wrap64 y<=832)/\(y<=832->wrap64 y=y):=by
 unfold wrap64;omega
def mK (w:World) (X:List Int) (i:Int) (e:Ending) (w':World):Prop:=
 ∃n v g own h z ok,e= .returned (.tuple #[aM n v,h,.bool ok])/\n.B.length=13/\bD w' v g n.E/\w.heap.size<=g/\l9 w' h z own/\w.heap.size<=z/\
  (ok=true->(0<=i/\i<32)/\ni X (fS X i)/\n=oC X (fS X i)/\own=EJ X (fS X i))/\
  (ok=false->¬((0<=i/\i<32)/\ni X (fS X i))/\n=cg/\own=[])/\ay [] w w'
theorem mK.no{w':World}{i:Int}(h:¬((0<=i/\i<32)/\ni X (fS X i)))(z:ay [] w w'):mK w X i (.returned (.tuple #[aM cg (.slice none 0 0),(),false])) w':=
 ⟨cg,_,w.heap.size,[],_,w.heap.size,false,rfl,rfl,bD.nil _ _,aH _,l9.nil _ _,aH _,λh=>(by cases h),λ_=>⟨h,rfl,rfl⟩,z⟩
theorem QE (z:bh w g (aM cg (.slice none 0 0)) 111):
  ∃w',(storeVar 111 g (.agg (aM cg (.slice none 0 0)))).run prog w= .ok () w'/\(loadVar 111 g).run prog w'= .ok (.agg (aM cg (.slice none 0 0))) w'/\ay [g] w w':=by
 obtain⟨w',G,h,J⟩:=bH (P:= prog) (ty:= 111) (cs:=na cg (.slice none 0 0)) (by rw[gM];exact iZ) z rfl (kY rfl);exact⟨w',G,b9 (n:=cg) (v:= .slice none 0 0) h rfl,J⟩
theorem abt{gp:Nat}(h:eK w b gp B ps)(cM:In64 (az B ps))(i:Int):
  Calls prog 171 #[b,i] w (mK w (az B ps) i):=by
 obtain⟨HS,uV⟩:=hh2 h cM;have cI:=bh.new w (aM cg (.slice none 0 0)) 111;have fI:Hid (ay [] w (w.alloc (.cells (aM cg (.slice none 0 0)) 111))):=(ay.refl _ _).alloc _;have qa:=ar cI;have rG:=dz;have HI:=ar (kC i);clear h cM cI;have lU:Hid (∀z:World,bh z w.heap.size (aM cg (.slice none 0 0)) 111->∃w',(storeVar 111 w.heap.size (.agg (aM cg (.slice none 0 0)))).run prog z= .ok () w'/\(loadVar 111 w.heap.size).run prog w'= .ok (.agg (aM cg (.slice none 0 0))) w'/\ay [w.heap.size] z w'):=λz hb=>QE hb
 obtain⟨ZI,aX⟩:∃ZI,aM cg (.slice none 0 0)=ZI:=⟨_,rfl⟩;rw[aX] at lU qa fI;have ed:∀w:World,(zeroValue 111).run prog w= .ok (.agg ZI) w:=λw=>by rw[<-aX];exact rG w
 have ax:=ar aX;clear rG aX;by_cases jG:i<0\/32<=i
 ·have aK:gF i= -1:=by unfold gF;rw[aB jG]
  rw[aK] at HI;obtain⟨w1,cz,ot,av⟩:=lU.out _ qa.out;obtain⟨dQ,mY,jK⟩:=hh3 cz ot (fI.out.trans av (by simp));have HN:Hid (¬((0<=i/\i<32)/\ni (az B ps) (fS (az B ps) i))):=λh=>by have :=h.1;omega
  clear cz ot av aK jG;go_in;go_wp2_with fail;refine C' (HI.out _) ?_;go_wp2_with(with_reducible refine gS 111 dQ.out ?_);refine aI (cH results171 rfl mY.out rfl rfl) rfl ?_;have :=mK.no HN.out jK.out;rw[ax.out] at this;exact this
 ·have aK:gF i=((824+8*i.toNat:Nat):Int):=by unfold gF;rw[aA jG];omega
  rw[aK] at HI;obtain⟨r,hr⟩:∃r,r=fS (az B ps) i:=⟨_,rfl⟩;have xK:r.length=8:=by rw[hr];exact iG _ _
  have xC:In64 r:=λj=>by
   rw[hr];unfold fS;by_cases hj:j<8
   ·rw[kH _ _ _ hj];exact uV.out _
   ·rw[aj,aP (by rw[iG];omega)]
    simp
  have nu:Hid (Calls prog 141 #[b,((824+8*i.toNat:Nat):Int)] (w.alloc (.cells ZI 111)) λe w'=>e=(aY r).toArray/\ay [] (w.alloc (.cells ZI 111)) w'):=by
   rw[hr];exact pI (HS.out.keep fI.out (by simp) (by simp)) (824+8*i.toNat) (by omega)
  have j6:Hid (¬ni (az B ps) r->¬((0<=i/\i<32)/\ni (az B ps) (fS (az B ps) i))):=λh hh=>h (by rw[hr];exact hh.2)
  have HR:=ar hr;have dW:¬((824+8*i.toNat:Nat):Int)<0:=by omega
  generalize ((824+8*i.toNat:Nat):Int)=p at *;have eF:=lj;have WR:=pD;clear aK hr;go_in;go_wp2_with fail;refine C' (HI.out _) ?_;go_wp2_with fail;refine C' (HI.out _) ?_;go_wp2_with fail;refine Rr nu.out λw1 av=> ?_;obtain⟨w2,UQ,Mh,bo⟩:=bH (P:= prog) (ty:= 195) (cs:=aY r) (by rw[bB,xK];exact jc) (bh.new w1 (aY (List.replicate 8 0)).toArray 195) (by simp[bB,xK]) (fh _);have bQ:=(qa.out.keep av (by simp)).lt;have ac:ay [] w w2:=((fI.out.trans' av).alloc (.cells (aY (List.replicate 8 0)).toArray 195)).trans bo (by intro x J;rw[au] at J;omega);have cF:=((qa.out.keep av (by simp)).alloc (.cells (aY (List.replicate 8 0)).toArray 195)).keep bo (by rw[au];omega);obtain⟨b8,cx,UR,fx,cN,Qj,zC⟩:=hh7 UQ (fM Mh xK) (CJ r xK (xC 0) (xC 1) w2) ac cF Mh xC;have Gm:=ar xK;clear UQ Mh bo av ac cF HI nu qa fI xC xK;go_wp2_with(with_reducible first|refine gS 195 b8.out ?_|refine gL 195 cx.out ?_);refine Rr UR.out λw5 kR=> ?_;obtain⟨wn,cv,XQ,jW⟩:=bH (P:= prog) (ty:= 111) (cs:=na (iR r) (.slice none 0 0)) (by rw[gM];exact iZ) (bh.new w5 ZI 111) (by have hz:=ax.out;rw[<-hz];rfl) (kY rfl);have d8:w1.heap.size<w5.heap.size:=bS Qj.out.lt kR.size;have aV:ay [] w2 wn:=(kR.alloc (.cells ZI 111)).trans jW (by intro x J;rw[au] at J;have :=kR.size;omega);obtain⟨bl,cJ,bw,bn⟩:=hh4 (Qj.out.keep aV (by simp)) (cN.out.keep aV (by simp)) (fx.out.trans' aV) cv;have Yd:Hid (bh wn w5.heap.size (aM (iR r) (.slice none 0 0)) 111):=XQ;have e6:(Value.agg (na (iR r) (.slice none 0 0)).toArray)= .agg (aM (iR r) (.slice none 0 0)):=rfl;rw[e6] at bn;obtain⟨cY,IZ⟩:=hh2 (fM bl.out Gm.out) (Lc (HS.out.keep bw.out (by simp) (by simp)) uV.out r Gm.out zC.out);clear cv XQ jW aV kR Qj cN fx UR cx b8 e6;go_wp2_with(with_reducible first|refine gS 111 bn.out ?_|refine gL 195 cY.out ?_);refine IZ.out.mono ?_;rintro e w3 ⟨la,W,ok,rfl,UT,UU,ba,bb⟩;obtain⟨w6,cG,b6,bX⟩:=bH (P:= prog) (ty:= 109) (cs:=zs la) (by rw[eO,ba];exact mb) (bh.new w3 (zs (List.replicate 13 0)).toArray 109) (by simp[eO,ba]) (nC _);have eG:w5.heap.size<w3.heap.size:=bS Yd.out.lt bb.size;have Ye:ay [] wn w6:=(bb.alloc (.cells (zs (List.replicate 13 0)).toArray 109)).trans bX (by intro x J;rw[au] at J;have :=bb.size;omega);obtain⟨dw,bq,Nv,bv,tX,aR,eD⟩:=hh7 (bl.out.keep Ye (by simp)) (cJ.out.keep Ye (by simp)) (Yd.out.keep Ye (by simp)) b6 (bw.out.trans' Ye) cG ba;have eu:w.heap.size<w1.heap.size:=bQ;clear cG b6 bX Ye bb ba IZ bn cY bl cJ Yd bw bQ;cases ok
  ·have HN:=ar (j6.out λh=>UU rfl h.1)
   obtain⟨w9,Gl,Nk,kR⟩:=lU.out w6 bq.out;obtain⟨EF,Uo,qR⟩:=hh3 Gl Nk (tX.out.trans kR (by simp));clear Gl Nk kR UT UU;generalize (zs la).toArray=cu at *;go_wp2_with(with_reducible first|refine gS 109 aR.out ?_|refine gS 111 EF.out ?_);refine aI (cH results171 rfl Uo.out rfl rfl) rfl ?_;have :=mK.no HN.out qR.out;rw[ax.out] at this;exact this
  ·obtain⟨uH,rfl,rfl⟩:=UT rfl
   have IZ:=ar uH;clear UT UU uH;have cA:=zC.out 1;obtain⟨af,Um⟩:=QD cA;obtain⟨sv,bf⟩:∃sv,sv=wrap64 (r.getD 1 0):=⟨_,rfl⟩;rw[<-bf] at af Um;have bz:w6.cell? ⟨w5.heap.size,3,none⟩=some (.int .i64 sv):=by rw[Nv.out.cell,bf];rfl
   have cB:=ar bf;clear bf;by_cases aO:sv<0\/832<sv
   ·have HN:=ar (j6.out λh=>by have :=af.1 h.2.1;omega)
    obtain⟨w9,Gl,Nk,kR⟩:=lU.out w6 bq.out;obtain⟨EF,Uo,qR⟩:=hh3 Gl Nk (tX.out.trans kR (by simp));clear Gl Nk kR af Um cA;generalize (zs (dJ (az B ps) r)).toArray=cu,r.getD 7 0=W at *;rcases aO with aO|aO
    ·go_wp2_with(with_reducible first|refine gS 109 aR.out ?_|refine gS 111 EF.out ?_)
     refine aI (cH results171 rfl Uo.out rfl rfl) rfl ?_;have :=mK.no HN.out qR.out;rw[ax.out] at this;exact this
    ·have dh:¬sv<0:=by omega
     go_wp2_with(with_reducible first|refine gS 109 aR.out ?_|refine gS 111 EF.out ?_);refine aI (cH results171 rfl Uo.out rfl rfl) rfl ?_;have :=mK.no HN.out qR.out;rw[ax.out] at this;exact this
   ·have cd:r.getD 1 0<=832:=af.2 (by omega)
    have bG:=Um cd;have dv:Hid (wrap64 (r.getD 1 0)=r.getD 1 0):=by show _=_;rw[<-cB.out];exact bG
    have dh:¬r.getD 1 0<0:=by omega
    have ez:¬832<r.getD 1 0:=by omega
    rw[bG] at bz;clear af Um bG cB;have ey:¬832<r.getD 1 0:=by omega
    generalize cU:r.getD 1 0=r1 at *;have Yf:=ar cU;generalize bW:r.getD 7 0=W at *;have aW:=ar bW;clear cU bW cd;have cK:w6.cell? ⟨w5.heap.size,1,none⟩=some (.int .i64 (iR r).K):=by rw[Nv.out.cell];rfl
    have cS:=bz;clear bz;have uo:=ar (wH (X:=az B ps) Gm.out);have QF:Hid (∀k,0<=(dJ (az B ps) r).getD k 0/\(dJ (az B ps) r).getD k 0<256):=Gz uV.out zC.out Gm.out IZ.out;have cp:Hid (∀z,ay [] w6 z->(loadVar 109 w3.heap.size).run prog z= .ok (.agg (zs (dJ (az B ps) r)).toArray) z):=λz U=>
     fA (off:=0) (bv.out.keep U (by simp)) uo.out (λk U=>by rw[bc,aF,gK (by rw[uo.out];exact U)])
    have ck:(0<=i/\i<32):=by omega
    have dG:=ar ck;clear ck jG;have dY:w5.heap.size<w6.heap.size:=Nv.out.lt
    go_upto_if 45 with(with_reducible refine gS 109 aR.out ?_)
    go_cut [11,12] (λM8 s12 z=>∃(n:bT) (v:Value) (g:Nat) (own:List Nat) (EC:Bool) (G:Nat),M8= .bool EC/\Hid (z.ownsRow G 3 1 s12 own.length (dK own)/\w6.heap.size<=G/\G<=z.heap.size/\(n.E.length≠0->g<G)/\w.heap.size<g/\own.length<=13/\bh z w5.heap.size (aM n v) 111/\n.B.length=13/\bD z v g n.E/\v.oneCell'=true/\zO n/\(∀k,k<n.E.length->(eX n.E k).size<=9223372036854775807)/\ay [w5.heap.size] w6 z/\
     (EC=true->n=oC (az B ps) r/\own=(if (iR r).K=2 then ((dJ (az B ps) r).take (bp r1.toNat)).map Int.toNat else [])/\((iR r).K=2->pJ (az B ps) (dJ (az B ps) r) r1.toNat))/\(EC=false->¬ni (az B ps) r)))
    case first=>
     have eo:=zC.out 0;have JW:Hid (zO { iR r with B:=dJ (az B ps) r }):=by
      have h3:=Yf.out;refine⟨?_,?_,?_,?_⟩
      ·show 0<=r.getD 0 0%256/\r.getD 0 0%256<256;omega
      ·show 0<=r.getD 0 0/256%256/\r.getD 0 0/256%256<256;omega
      ·show 0<=r.getD 0 0/65536%65536/\r.getD 0 0/65536%65536<65536;omega
      ·show 0<=wrap64 (r.getD 1 0)/\wrap64 (r.getD 1 0)<9223372036854775808;rw[h3,dv.out];omega
     by_cases ac:(iR r).K=2
     ·have ek:((iR r).K==2)=true:=beq_iff_eq.2 ac
      obtain⟨m,hm⟩:∃m:Nat,r1=(m:Int):=⟨r1.toNat,by omega⟩;have Us:r1.toNat=m:=by omega
      rw[hm] at cS;obtain⟨Gf,I0,bk⟩:=hh3 (Le (HS.out.keep tX.out (by simp) (by simp)) uV.out (dJ (az B ps) r) uo.out QF.out m (by omega)) (cp.out w6 (ay.refl _ _)) Us;have bP:=λc hc z=>MU w3.heap.size c hc z
      obtain⟨i0,hi,bF,bM,bA⟩:=dc Tryz.info_int;have Yg:=ar hi;clear hm Us hi;have aD:=ar ac;generalize cL:(iR r).K=kk at cK ek;have CS:=ar cL;clear cL ac;go_wp2_with(with_reducible refine gL 109 I0.out ?_);refine Gf.out.mono ?_;rintro e w7 ⟨v,E,aQ,g,rfl,hE,hg,SL,Mm,yl⟩;have cD:E.length<=24:=by
       cases aQ
       ·rw[(Mm rfl).2];simp
       ·obtain⟨h1,h2⟩:=SL rfl
        rw[h2,qw];exact h1.1
      have zE:bp E.length<=13:=by unfold bp;omega
      obtain⟨a,cap,rfl,dV,dS,-⟩:=hE.open;have GA:=Nv.out.keep yl (by simp);have dZ:w7.cell? ⟨w5.heap.size,17,none⟩=some (.slice none 0 0):=by rw[GA.cell];exact Ak _ rfl
      have eH:w7.frozen? ⟨w5.heap.size,17,none⟩=false:=GA.frozen 17;have Yh:=Lj (u:= .slice a E.length cap) (E:=E) GA rfl;obtain⟨dC,cw⟩:=hh2 (b9 Yh rfl) (sU { iR r with E:=E } a cap rfl (by show E.length<=100000;omega));have bY:bD (w7.setCell ⟨w5.heap.size,17,none⟩ (.slice a E.length cap)) (.slice a E.length cap) g E:=hE.keep ((ay.refl [w5.heap.size] w7).setCell (p:=⟨w5.heap.size,17,none⟩) (by simp) _) (λ_=>by rw[au];omega);have uR:ay [w5.heap.size] w6 (w7.setCell ⟨w5.heap.size,17,none⟩ (.slice a E.length cap)):=(yl.mono (by simp)).setCell (.inl (by simp)) _;obtain⟨dn,Yi,X5,HG,MO,WQ,JO⟩:=hh7 bY uR Yh hg SL Mm cD;have dm:=ar (bv.out.keep uR (by rw[au];omega));have ej:=bP (bp E.length) zE;have dB:Hid (bp E.length<=13):=zE;unfold maxLen at dS;clear hE hg SL Mm yl GA Yh bY uR bP cD zE Gf I0;have dM:Hid (∀z,Calls prog 192 #[.agg (aM { iR r with E:=E } (.slice a E.length cap))] z λe w'=>e=((bp E.length:Nat):Int)/\ay [] z w'):=cw.out;have cR:Hid (E.length=E.length):=rfl;clear cw cR;go_wp2_with(with_reducible refine gL 111 dC.out ?_);refine Rr (dM.out _) λw9 PG=> ?_;obtain⟨dg,cT,XW,aS⟩:=hh4 (dm.out.keep PG (by simp)) (dn.out.keep PG (by simp)) (X5.out.keep PG (by simp)) (Yi.out.trans PG (by simp));clear PG;generalize cE:bp E.length=c at *;have UW:=ar cE;clear cE;have GC:=dB.out;have hi:=Yg.out;go_wp2_with(at_builtin;refine eU _ rfl _ _ 141 rfl w9.heap.size 3 i0 (.int .i64 0) 1 8 underlying141 hi bF bM bA rfl (by decide) (.slice none 0 0) 0 [] rfl ⟨rfl,.inl ⟨rfl,rfl⟩⟩ ⟨w3.heap.size,0,none⟩ c 13 (zs ((dJ (az B ps) r).take c)) rfl ?c1 ?c2 (nC _) (by unfold maxLen;omega) (by omega) (aH _) ?_);case c1=>rw[eO,aJ,uo.out];omega
      case c2=>
       intro j u hu;rw[add_plain,bc,dg.out.cell,aF];have hj:j<c:=by
        have :=(List.getElem?_eq_some_iff.1 hu).1;rw[eO,aJ] at this;omega
       rw[gK (by rw[uo.out];omega)];rw[gK (by rw[aJ,uo.out];omega)] at hu;rw[<-hu];simp[hj]
      intro v' aC aa V _;have Nw:ay [] w9 aC:=ay.of_grown V (by simp[Value.ownBlock]);have cf:g<w9.heap.size\/E.length=0:=by
       obtain⟨a2,c2,-,-,-,h4⟩:=cT.out;by_cases h0:E.length=0
       ·exact .inr h0
       ·exact .inl (h4 h0).1
      have QG:Hid (∃(n:bT) (v:Value) (g:Nat) (own:List Nat) (EC:Bool) (G:Nat),Value.bool aQ= .bool EC/\Hid (aC.ownsRow G 3 1 v' own.length (dK own)/\w6.heap.size<=G/\G<=aC.heap.size/\(n.E.length≠0->g<G)/\w.heap.size<g/\own.length<=13/\bh aC w5.heap.size (aM n v) 111/\n.B.length=13/\bD aC v g n.E/\v.oneCell'=true/\zO n/\(∀k,k<n.E.length->(eX n.E k).size<=9223372036854775807)/\ay [w5.heap.size] w6 aC/\
       (EC=true->n=oC (az B ps) r/\own=(if (iR r).K=2 then ((dJ (az B ps) r).take (bp r1.toNat)).map Int.toNat else [])/\((iR r).K=2->pJ (az B ps) (dJ (az B ps) r) r1.toNat))/\(EC=false->¬ni (az B ps) r))):=by
       have cy:(((dJ (az B ps) r).take c).map Int.toNat).length=c:=by rw[bZ,aJ,uo.out];omega
       have dD:dK (((dJ (az B ps) r).take c).map Int.toNat)=zs ((dJ (az B ps) r).take c):=adR λk=>by
        by_cases U:k<c
        ·have :=(QF.out k).1
         simp only[aj,bU,aB U] at this ⊢;exact this
        ·rw[aj,bU,aA U]
         simp
       refine⟨{ iR r with E:=E },.slice a E.length cap,g,((dJ (az B ps) r).take c).map Int.toNat,aQ,w9.heap.size,rfl,?_,aS.out.size,Nw.size,λh=>cf.resolve_right h,by have :=HG.out;have :=tX.out.size;omega,by rw[cy];exact GC,XW.out.keep Nw (by simp),rfl,cT.out.keep Nw (by simp),rfl,⟨JW.out.f,JW.out.k,JW.out.l,JW.out.s⟩,?_,aS.out.trans Nw (by simp),λh=> ?_,λh hr=> ?_⟩
       ·rw[cy,dD]
        exact aa
       ·intro k U
        cases aZ:aQ
        ·have h2:=(WQ.out aZ).2
         have ak:k<E.length:=U;rw[h2] at ak;simp at ak
        ·have h2:=(MO.out aZ).2
         have ak:k<E.length:=U;show(eX E k).size<=_;rw[h2,qw] at ak;rw[h2,(CG _ _ _ _ ak).1];have :=CH (Bk (az B ps) (dJ (az B ps) r) k);omega
       ·obtain⟨h1,h2⟩:=MO.out h
        rw[bk.out];refine⟨?_,?_,λ_=>h1⟩
        ·unfold oC
         rw[aB aD.out,Yf.out,bk.out,<-h2]
        ·rw[aB aD.out,<-UW.out,h2,qw]
       ·have h2:=hr.2.2.1 aD.out
        rw[Yf.out,bk.out] at h2;exact(WQ.out h).1 h2
      clear aa V Nw cf hi;go_wp2_with fail;go_meet;case rel=>exact QG.out
     ·have ek:((iR r).K==2)=false:=cP.2 ac
      obtain⟨w7,ct,GA,yl⟩:=SH (l:=dJ (az B ps) r) Nv.out rfl uo.out;obtain⟨I0,dI⟩:=hh2 (cp.out w6 (ay.refl _ _)) ct;have QG:Hid (∃(n:bT) (v:Value) (g:Nat) (own:List Nat) (EC:Bool) (G:Nat),Value.bool true= .bool EC/\Hid (w7.ownsRow G 3 1 (.slice none 0 0) own.length (dK own)/\w6.heap.size<=G/\G<=w7.heap.size/\(n.E.length≠0->g<G)/\w.heap.size<g/\own.length<=13/\bh w7 w5.heap.size (aM n v) 111/\n.B.length=13/\bD w7 v g n.E/\v.oneCell'=true/\zO n/\(∀k,k<n.E.length->(eX n.E k).size<=9223372036854775807)/\ay [w5.heap.size] w6 w7/\
       (EC=true->n=oC (az B ps) r/\own=(if (iR r).K=2 then ((dJ (az B ps) r).take (bp r1.toNat)).map Int.toNat else [])/\((iR r).K=2->pJ (az B ps) (dJ (az B ps) r) r1.toNat))/\(EC=false->¬ni (az B ps) r))):=by
       refine⟨{ iR r with B:=dJ (az B ps) r },.slice none 0 0,w6.heap.size,[],true,w6.heap.size,rfl,⟨rfl,.inl ⟨rfl,rfl⟩⟩,aH _,yl.size,λh=>absurd rfl h,by omega,by simp,GA,uo.out,bD.nil _ _,rfl,JW.out,λk U=>absurd U (by show ¬k<0;omega),yl,λ_=>⟨?_,by rw[aA ac],λh=>absurd h ac⟩,λh=>(by cases h)⟩;unfold oC;rw[aA ac]
      clear ct GA yl;generalize (zs (dJ (az B ps) r)).toArray=cu,(iR r).K=kk at *;go_wp2_with(with_reducible first|refine gL 109 I0.out ?_|refine gS 109 dI.out ?_);go_meet;case rel=>exact QG.out
    case rest=>
     obtain⟨n,v,g,own,EC,G,rfl,HC⟩:=hcut;obtain⟨bg,d7,eB,dA,dR,rU,DN,Yj,hE,cO,cX,cQ,ae,UT,UU⟩:=HC.out;obtain⟨i0,hi,bF,bM,bA⟩:=dc Tryz.info_int;have Yg:=ar hi;have bV:=zC.out 7;rw[aW.out] at bV;have eA:W<256:=by have :=IZ.out.1;rw[aW.out] at this;exact this
     obtain⟨Bl,HE,aD,bJ,df,dN,dE⟩:=hh7 DN hE ae bg cO cX cQ;obtain⟨b7,dx,PE⟩:=hh3 UT UU Yj;clear HC bg DN hE ae UT UU hi cO cX cQ Yj
     go_upto_if 63 with fail
     go_cut [12] (λs12 z=>∃(ga:Nat),Hid (l9 z s12 ga (own++(if W=0 then [] else [W.toNat]))/\w.heap.size<ga/\bh z w5.heap.size (aM n v) 111/\bD z v g n.E/\ay [w5.heap.size] w6 z))
     case first=>
      by_cases aT:W=0
      ·have e0:(W != 0)=false:=by rw[aT];rfl
       have QG:Hid (∃(ga:Nat),Hid (l9 wc u12 ga (own++(if W=0 then [] else [W.toNat]))/\w.heap.size<ga/\bh wc w5.heap.size (aM n v) 111/\bD wc v g n.E/\ay [w5.heap.size] w6 wc)):=by
        obtain⟨ga,ho,xp⟩:=l9.of_row bJ.out;rw[aB aT,br];exact⟨ga,ho,by have :=tX.out.size;omega,Bl.out,HE.out,aD.out⟩
       go_wp2_with fail;go_meet;case rel=>exact QG.out
      ·have e0:(W != 0)=true:=bne_iff_ne.2 aT
       have hi:=Yg.out;go_wp2_with(at_builtin;refine eU _ rfl _ _ 141 rfl G 3 i0 (.int .i64 0) 1 8 underlying141 hi bF bM bA rfl (by decide) u12 own.length (dK own) rfl (bJ.out.alloc _) ⟨wc.heap.size,0,none⟩ 1 1 [.int .i64 W] rfl rfl ?c1 ?c2 (by unfold maxLen;omega) (by omega) (by simp;omega) ?_);case c1=>exact lI _ [_] _ _ rfl
       case c2=>simp[Value.oneCell']
       intro v' w8 aa V bN;have QG:Hid (∃(ga:Nat),Hid (l9 w8 v' ga (own++(if W=0 then [] else [W.toNat]))/\w.heap.size<ga/\bh w8 w5.heap.size (aM n v) 111/\bD w8 v g n.E/\ay [w5.heap.size] w6 w8)):=by
        have e1:dK (own++[W.toNat])=dK own++[.int .i64 W]:=by
         rw[uk]
         congr 1
         simp[dK];omega
        have aN:=aa;rw[<-e1,show own.length+1=(own++[W.toNat]).length by simp] at aN;obtain⟨ga,ho,xp⟩:=l9.of_row aN;rw[aA aT];have aG:∀k,u12.ownBlock=some k->G<=k:=dP bJ.out;have uN:ay [w5.heap.size] w6 w8:=(aD.out.alloc (.cells #[W] 3)).trans (ay.of_grown (l:=(u12.ownBlock).toList) V (λk U=> .inl (by rw[U];simp))) (λx J=> .inr (by
         cases hub:u12.ownBlock with
         |none=>rw[hub] at J;simp at J
         |some y=>
          rw[hub] at J;simp at J;have :=aG y hub;omega))
        refine⟨ga,ho,by have :=tX.out.size;omega,?_,?_,uN⟩
        ·exact(V.block _ (Bl.out.alloc _).lt (λe=>by have :=aG _ e.symm;omega)).trans (Bl.out.alloc _)
        ·refine(HE.out.keep ((ay.refl [] wc).alloc _) (by simp)).keep (ay.of_grown (l:=(u12.ownBlock).toList) V (λk U=> .inl (by rw[U];simp))) λh0 hm=> ?_
         cases hub:u12.ownBlock with
         |none=>rw[hub] at hm;simp at hm
         |some y=>
          rw[hub] at hm;simp at hm;have :=aG y hub;have :=dA h0;omega
       clear aa V bN hi;go_wp2_with fail;go_meet;case rel=>exact QG.out
     case rest=>
      obtain⟨ga,HD⟩:=hcut;obtain⟨EK,xp,DN,hE,ae⟩:=HD.out;have ei:w.heap.size<w5.heap.size:=by omega
      have cC:=ar (bq.out.keep ae (by rw[au];omega));have cV:Hid (ay [] w wc):=tX.out.trans ae (by intro x J;rw[au] at J;omega);have bO:=dw.out.keep ae (by rw[au];omega);have cr:=bv.out.keep ae (by rw[au];omega);have dF:Hid (∀z,ay [] wc z->(loadVar 3 w5.heap.size).run prog z= .ok (.int .i64 n.F) z):=λz U=>FW (off:=0) underlying3 (DN.keep U (by simp)) rfl
      have IA:Hid (∀z,ay [] wc z->(loadVar 111 w5.heap.size).run prog z= .ok (.agg (aM n v)) z):=λz U=>b9 (DN.keep U (by simp)) PE.out
      have dH:Hid (∀z,ay [] wc z->(loadVar 109 w3.heap.size).run prog z= .ok (.agg (zs (dJ (az B ps) r)).toArray) z):=λz U=>
       fA (off:=0) (cr.keep U (by simp)) uo.out (λk U=>by rw[bc,aF,gK (by rw[uo.out];exact U)])
      have dt:Hid (∀z,ay [] wc z->(loadVar 195 w1.heap.size).run prog z= .ok (.agg (aY r).toArray) z):=λz U=>fM (bO.keep U (by simp)) Gm.out
      have Bu:Hid (∀z,ay [] wc z->Calls prog 96 #[aM n v] z λe w'=>e=(decide (cm n))/\ay [] z w'):=λz U=>oz n v g PE.out z (hE.keep U (by simp)) dE.out
      have JL:Hid (∀z,Calls prog 193 #[aM n v,(zs (dJ (az B ps) r)).toArray,W] z λe w'=>e=(aY (iq n (dJ (az B ps) r) W)).toArray/\ay [] z w'):=λz=>
       DU n v PE.out dN.out _ uo.out (λk=>by have :=QF.out k;omega) W ⟨bV.1,by omega⟩ z
      have cW:(iq n (dJ (az B ps) r) W).length=8:=by simp[iq,uo.out]
      have bt:=ar (λz=>MR (a:=iq n (dJ (az B ps) r) W) (b:=r) cW Gm.out z);have d9:=xX;have Yk:Hid (EC=true->(ni (az B ps) r↔n.F=1/\cm n/\iq n (dJ (az B ps) r) W=r)):=λh=>by
       obtain⟨h1,-,h3⟩:=b7.out h;have hF:n.F=(iR r).F:=by
        rw[h1];unfold oC;split<;>rfl
       unfold ni;rw[<-h1,hF,aW.out,Yf.out];exact⟨λh=>h.2.2.2,λh=>⟨IZ.out,by omega,h3,h⟩⟩
      have ml:Hid (∀z,ay [] wc z->EC=true->ni (az B ps) r->∃w',(storeVar 111 w.heap.size (.agg (aM n v))).run prog z= .ok () w'/\(loadVar 111 w.heap.size).run prog w'= .ok (.agg (aM n v)) w'/\mK w (az B ps) i (.returned (.tuple #[aM n v,u12,true])) w'):=λz U aZ bI=>by
       obtain⟨w',h1,h2,h3⟩:=bH (P:= prog) (ty:= 111) (cs:=na n v) (by rw[gM,PE.out];exact iZ) (cC.out.keep U (by simp)) (by have hz:=ax.out;rw[<-hz,gM,PE.out];rfl) (kY df.out);obtain⟨e1,e2,-⟩:=b7.out aZ;have ak:ay [] w w':=(cV.out.trans' U).trans h3 (by intro x J;rw[au] at J;omega);refine⟨w',h1,b9 h2 PE.out,n,v,g,own++(if W=0 then [] else [W.toNat]),u12,ga,true,rfl,PE.out,?_,Nat.le_of_lt dR,?_,Nat.le_of_lt xp,λ_=>⟨dG.out,?_,?_,?_⟩,λh=>(by cases h),ak⟩
       ·refine(hE.keep U (by simp)).keep h3 λh0=> ?_
        rw[au];omega
       ·refine(EK.keep U (by simp)).keep h3 ?_
        rw[au];omega
       ·rw[<-HR.out];exact bI
       ·rw[<-HR.out];exact e1
       ·rw[<-HR.out,e2]
        unfold EJ;rw[aW.out,Yf.out]
      clear HD EK xp DN hE ae bO cr cW;obtain⟨tR,bE⟩:∃t,decide (cm n)=t:=⟨_,rfl⟩;rw[bE] at Bu;obtain⟨tW,bL⟩:∃t,decide (iq n (dJ (az B ps) r) W=r)=t:=⟨_,rfl⟩;rw[bL] at bt;have dX:=bt.out;obtain⟨cj,cn⟩:=hh2 bE bL;clear bE bL bt;generalize (aY (iq n (dJ (az B ps) r) W)).toArray=ZW,(zs (dJ (az B ps) r)).toArray=ZA,(aY r).toArray=ZR,aM n v=ZN,hf:n.F=f at *;have Ny:=ar hf;clear hf;have cZ:Hid (¬(EC=true/\f=1/\tR=true/\tW=true)->¬((0<=i/\i<32)/\ni (az B ps) (fS (az B ps) i))):=λh=>j6.out λhr=>by
       cases ad9:EC
       ·exact dx.out ad9 hr
       ·obtain⟨h1,h2,h3⟩:=(Yk.out ad9).1 hr
        refine h ⟨ad9,h1,?_,?_⟩
        ·rw[<-cj.out];exact bu h2
        ·rw[<-cn.out];exact bu h3
      have dO:((EC=true/\tR=true/\tW=true)/\f=1)\/EC=false\/(EC=true/\(f != 1)=true)\/((EC=true/\tR=false)/\f=1)\/(EC=true/\tR=true/\tW=false)/\f=1:=by cases EC<;>cases tR<;>cases tW<;>by_cases h:f=1<;>simp[h]
      rcases dO with ⟨⟨rfl,rfl,rfl⟩,rfl⟩|rfl|⟨rfl,bj⟩|⟨⟨rfl,rfl⟩,rfl⟩|⟨⟨rfl,rfl,rfl⟩,rfl⟩
      have dL:Hid (ni (az B ps) r):=(Yk.out rfl).2 ⟨rfl,of_decide_eq_true cj.out,of_decide_eq_true cn.out⟩;all_goals
       go_wp2_with fail;refine jy (S:=λz=>ay [] wc z) ((ay.refl _ _).drew) ?_;repeat (
        (first
        |(refine aU.cons _ (bR.load rfl 3 (.tmp 71) rfl _ rfl λz J=>dF.out z J) ?_)
        |(refine aU.cons (.agg ZN) (bR.load rfl 111 (.tmp 8) rfl _ rfl λz J=>IA.out z J) ?_)
        |(refine aU.cons (.agg ZA) (bR.load rfl 109 (.tmp 9) rfl _ rfl λz J=>dH.out z J) ?_)
        |(refine aU.cons (.agg ZR) (bR.load rfl 195 (.tmp 7) rfl _ rfl λz J=>dt.out z J) ?_)
        |(refine aU.cons (.bool true) (bR.call rfl 96 #[ZN] ?he ?h) ?_;(case he=>(intro wz;go_simp));(case h=>exact λz J=>(Bu.out z J).mono λe w' he=>⟨he.1,J.trans' he.2⟩))
        |(refine aU.cons (.bool false) (bR.call rfl 96 #[ZN] ?he ?h) ?_;(case he=>(intro wz;go_simp));(case h=>exact λz J=>(Bu.out z J).mono λe w' he=>⟨he.1,J.trans' he.2⟩))
        |(refine aU.cons (.agg ZW) (bR.call rfl 193 #[ZN,ZA,W] ?he ?h) ?_;(case he=>(intro wz;go_simp));(case h=>exact λz J=>(JL.out z).mono λe w' he=>⟨he.1,J.trans' he.2⟩))
        |(refine aU.cons undef (bR.off rfl) ?_)
        |(refine aU.cons (.bool true) (bR.val rfl ?h) ?_;(case h=>(intro z J;clear J;first|(go_simp;done)|(go_simp;simp;done)|(go_simp;simp[bj];done))))
        |(refine aU.cons (.bool false) (bR.val rfl ?h) ?_;(case h=>(intro z J;clear J;first|(go_simp;done)|(go_simp;simp;done)|(go_simp;simp[bj];done))))
        |(refine aU.cons ?_ (bR.val rfl ?h) ?_;(case h=>(intro z J;clear J;go_simp;rfl))));simp only[Act.put,ag,ah,ai])
       refine aU.done λwz J=> ?_
       have EG:=ar J;clear J
      ·obtain⟨w9,Yl,Ym,aL⟩:=ml.out wz EG.out trivial dL.out
       obtain⟨bC,bK,di,dU⟩:=hh4 Yl Ym aL (IA.out wz EG.out);clear Yl Ym aL;go_wp2_with(with_reducible first|refine gL 111 dU.out ?_|refine gS 111 bC.out ?_);exact aI (cH results171 rfl bK.out rfl rfl) rfl di.out
      all_goals
       have HN:=ar (cZ.out λh=>by first|(simp at h;done)|simp[h.2.1] at bj);obtain⟨w9,Yl,Ym,PG⟩:=lU.out wz (cC.out.keep EG.out (by simp));obtain⟨bC,bK,aS⟩:=hh3 Yl Ym ((cV.out.trans' EG.out).trans PG (by intro x J;rw[au] at J;omega));clear Yl Ym PG;go_wp2_with(with_reducible refine gS 111 bC.out ?_);refine aI (cH results171 rfl bK.out rfl rfl) rfl ?_;have :=mK.no HN.out aS.out;rw[ax.out] at this;exact this
def ownRow (n:bT) (own:List Nat) (m:Nat):List Int:=if m<bp n.E.length then jn n.E m else (dX n own).drop 5
structure GD (X:List Int) (q:Nat) (n:bT) (own:List Nat):Prop where
 row:dZ X q=iq n (dX n own) ((fo n own:Nat):Int)
 own:∀m,m<own.length->dZ X (1080+8*own.getD m 0)=ownRow n own m
theorem jH{l:List Nat}(h:k<l.length):l.getD k 0∈l:=by
 rw[aj,aD h];exact bG _
theorem getD_inj{l:List Nat}(W:l.Nodup){j k:Nat}(J:j<l.length)(G:k<l.length)(h:l.getD j 0=l.getD k 0):j=k:=by
 rw[aj,aj,aD J,aD G] at h;have U:=df.1 W;rcases Nat.lt_trichotomy j k with z|V|z
 ·exact absurd h (U j k J G z)
 ·exact V
 ·exact absurd h.symm (U k j G J z)
theorem Yn (z:X.length=3128)(p:Nat)(l:List Int)(j:Nat):∀k,p+k<=3128->(az X (jT p l k)).getD j 0=if p<=j/\j<p+k then l.getD (j-p) 0 else X.getD j 0:=by
 intro k;induction k with
 |zero=>intro _;rw[aA];rfl
 |succ k ih=>
  intro G;rw[Ao,bz,oJ,aG,AY,ct,z,ih (by omega)];by_cases e:p+k=j
  ·subst e
   rw[aB ⟨rfl,by omega⟩,aB ⟨by omega,by omega⟩,dD]
  ·rw[aA]
   by_cases h:p<=j/\j<p+k
   ·rw[aB h,aB ⟨h.1,by omega⟩]
   ·rw[aA h,aA]
theorem SM (z:X.length=3128)(p:Nat)(h:p+8<=3128)(l:List Int)(j:Nat):(az X (jT p l 8)).getD j 0=if p<=j/\j<p+8 then l.getD (j-p) 0 else X.getD j 0:=Yn z p l j 8 h
theorem Nz{p:Nat}(G:l.length=8)(h:∀j,j<8->X.getD (p+j) 0=l.getD j 0):dZ X p=l:=
 DK (by rw[iG,G]) λk z=>by
  rw[iG] at z;rw[kH _ _ _ z,h k z]
theorem qU (G:X.length=3128)(p:Nat)(z:p+8<=3128){l:List Int}(h:l.length=8):dZ (az X (jT p l 8)) p=l:=
 Nz h λj J=>by rw[SM G p z,aB ⟨by omega,by omega⟩,dD]
theorem qV (J:X.length=3128)(p z:Nat)(G:p+8<=3128){l:List Int}(h:z+8<=p\/p+8<=z):dZ (az X (jT p l 8)) z=dZ X z:=
 Nz (iG _ _) λj U=>by rw[SM J p G,aA,kH _ _ _ U]
theorem QH (h:l.length=13)(x:Int):(iq n l x).length=8:=by simp[iq,h]
theorem sA (z:bp n.E.length<=own.length){k:Nat}(h:k<bp n.E.length):(dX n own).getD k 0=((own.getD k 0:Nat):Int):=by rw[vC z,aB h]
theorem NA (G:X.length=3128){n:bT}{own:List Nat}(ho:bp n.E.length<=own.length)(U:own.Nodup)(z:∀c∈own,c≠0/\c<256):∀k,k<=bp n.E.length->∀m,m<k->dZ (az X (tj n.E (dX n own) k)) (1080+8*own.getD m 0)=jn n.E m:=by
 intro k;induction k with
 |zero=>intro _ m z;omega
 |succ k ih=>
  intro hk m W;have V:=z _ (jH (show k<own.length by omega));have J:=z _ (jH (show m<own.length by omega));rw[Aq,bz,sA ho (by omega),aG];by_cases e:m=k
  ·subst e
   exact qU (by rw[ct,G]) _ (by omega) (mW _ _ _)
  ·have :own.getD m 0≠own.getD k 0:=λh=>e (getD_inj U (by omega) (by omega) h)
   rw[qV (by rw[ct,G]) _ _ (by omega) (by omega)];exact ih (by omega) m (by omega)
theorem Yo (G:X.length=3128)(i:Nat)(hi:i<32){n:bT}{own:List Nat}(hB:n.B.length=13)(hc:bp n.E.length<=6)(ho:bp n.E.length<=own.length)(Mm:own.length<=bp n.E.length+1)(W:own.Nodup)(U:∀c∈own,c≠0/\c<256):
  GD (az X (wJ i n own)) (824+8*i) n own:=by
 have J:=vB hB (by omega) ho;unfold wJ;rw[bz,bz];refine⟨qU (by rw[ct,ct,G]) _ (by omega) (QH J _),λm V=> ?_⟩;have aa:=U _ (jH V);rw[qV (by rw[ct,ct,G]) _ _ (by omega) (by omega)];unfold ownRow qx;by_cases z:m<bp n.E.length
 ·rw[aB z]
  split
  ·rename_i hlt
   have ac:=U _ (jH hlt);have :own.getD m 0≠own.getD (bp n.E.length) 0:=λh=>by have :=getD_inj W V hlt h;omega
   have su:fo n own=own.getD (bp n.E.length) 0:=by unfold fo;rw[aB hlt]
   rw[su,qV (by rw[ct,G]) _ _ (by omega) (by omega)];exact NA G ho W U _ (aH _) m z
  ·exact NA G ho W U _ (aH _) m z
 ·obtain rfl:m=bp n.E.length:=by omega
  rw[aA z,aB V];have su:fo n own=own.getD (bp n.E.length) 0:=by unfold fo;rw[aB V]
  rw[su];exact qU (by rw[ct,G]) _ (by omega) (by rw[bM,J])
theorem GF:∀(l:List Nat) (X:List Int),(∀c∈l,c≠0/\c<256)->p∈dh X l->(816<=p.1.toNat/\p.1.toNat<820)\/(1080<=p.1.toNat/\(p.1.toNat-1080)/8∈l):=by
 intro l;induction l with
 |nil=>intro X _ h;simp[dh] at h
 |cons b l ih=>
  intro X G h;obtain⟨U,W⟩:=G b (by simp);have z:p∈(eI X b true++gW b)++dh (az X (eI X b true++gW b)) l:=h;rw[aT,aT] at z;rcases z with(z|z)|z
  ·left
   unfold eI at z;rw[aA,au] at z;subst z;show 816<=Int.toNat ((_:Nat):Int)/\Int.toNat ((_:Nat):Int)<820;rw[aG];omega
  ·right
   obtain⟨j,V,rfl⟩:=xS z;show 1080<=Int.toNat ((_:Nat):Int)/\(Int.toNat ((_:Nat):Int)-1080)/8∈_;rw[aG];refine⟨by omega,?_⟩;rw[show(1080+b*8+j-1080)/8=b by omega];simp
  ·rcases ih _ (λc J=>G c (by simp[J])) z with z|z
   ·exact .inl z
   ·exact .inr ⟨z.1,by simp[z.2]⟩
theorem mg (h:p∈jT q l k):∃j,j<k/\p.1.toNat=q+j/\p.2=l.getD j 0:=by
 unfold jT at h;obtain⟨j,z,rfl⟩:=bF.1 h;exact⟨j,by simpa using z,aG _,rfl⟩
theorem tq (V:bp n.E.length<=own.length)(h:p∈wJ i n own):(1080<=p.1.toNat/\(p.1.toNat-1080)/8∈own/\∃m j,j<8/\p.2=(ownRow n own m).getD j 0)\/(824+8*i<=p.1.toNat/\p.1.toNat<832+8*i/\∃j,j<8/\p.2=(iq n (dX n own) ((fo n own:Nat):Int)).getD j 0):=by
 unfold wJ at h;rw[aT,aT] at h;rcases h with h|h|h
 ·left
  unfold tj at h;obtain⟨k,U,h⟩:=List.mem_flatMap.1 h;rw[bW] at U;obtain⟨j,J,z,G⟩:=mg h;rw[sA V U,aG] at z;refine⟨by omega,?_,k,j,J,by rw[G,ownRow,aB U]⟩;rw[z,show(1080+8*own.getD k 0+j-1080)/8=own.getD k 0 by omega];exact jH (by omega)
 ·left
  unfold qx at h;split at h
  ·rename_i hlt
   obtain⟨j,J,z,G⟩:=mg h;have W:fo n own=own.getD (bp n.E.length) 0:=by unfold fo;rw[aB hlt]
   rw[W] at z;refine⟨by omega,?_,bp n.E.length,j,J,by rw[G,ownRow,aA (Nat.lt_irrefl _)]⟩;rw[z,show(1080+8*own.getD (bp n.E.length) 0+j-1080)/8=own.getD (bp n.E.length) 0 by omega];exact jH hlt
  ·simp at h
 ·right
  obtain⟨j,J,z,G⟩:=mg h;exact⟨by omega,by omega,j,J,G⟩
theorem UX (W:bp n.E.length<=own.length)(U:∀c∈own,c≠0/\c<256){k:Nat}(hk:820<=k)(J:¬(1080<=k/\(k-1080)/8∈own))(V:¬(824+8*i<=k/\k<832+8*i)):(az X (pO X i n own)).getD k 0=X.getD k 0:=by
 refine dW _ _ _ λp z G=> ?_
 unfold pO at z;rw[aT] at z;rcases z with z|z
 ·rcases GF _ _ U z with h|h
  ·omega
  ·rw[G] at h;exact J h
 ·rcases tq W z with h|h
  ·rw[G] at h;exact J ⟨h.1,h.2.1⟩
  ·rw[G] at h;exact V ⟨h.1,h.2.1⟩
theorem NC (s:ByteArray):kZ (bl s)<18446744073709551616:=by
 unfold kZ;split
 ·rename_i h
  exact W7 (oO h).2 (Bg s)
 ·omega
theorem UY (h:∀k,k<E.length->0<=jq E k/\jq E k<18446744073709551616)(k j:Nat):0<=(jn E k).getD j 0/\(jn E k).getD j 0<18446744073709551616:=by
 by_cases z:j<8
 ·unfold jn
  rw[qq _ _ _ _ z];split
  ·unfold K9
   split
   ·have :=NC (eX E (4*k+j/2));omega
   ·exact h _ (by omega)
  ·omega
 ·rw[aj,aP (by rw[jn,mW];omega)]
  simp
theorem aec (J:In64 X)(hX:X.length=3128){i:Nat}{n:bT}{own:List Nat}(hB:n.B.length=13)(G:cm n)(ho:bp n.E.length<=own.length)(W:∀c∈own,c≠0/\c<256):In64 (az X (pO X i n own)):=by
 have V:=jQ G;have z:=vB (own:=own) hB (by omega) ho;have wI:=CN G hB ho W;have hT:=uq G;unfold pO;rw[bz];refine(nQ own X J hX W).1.put λp hp=> ?_
 rcases tq ho hp with ⟨-,-,m,j,U,h⟩|⟨-,-,j,U,h⟩
 ·rw[h]
  unfold ownRow;split
  ·refine UY (λk hk=> ?_) m j
   have :=((V.2.2 (by omega)).2.2.2.2 k hk).2.1;omega
  ·rw[aj,b8,<-aj]
   have :=wI (5+j);omega
 ·rw[h]
  unfold iq;have su:fo n own<256:=by
   unfold fo;split
   ·exact(W _ (jH (by assumption))).2
   ·omega
  obtain⟨t1,t2,t3,t4⟩:=hT
  match j,U with
  |0,_=>show 0<=po n/\po n<_;unfold po;omega
  |1,_=>show 0<=n.S/\n.S<_;omega
  |j+2,U=>
   show 0<=((dX n own).take 5++[((fo n own:Nat):Int)]).getD j 0/\((dX n own).take 5++[((fo n own:Nat):Int)]).getD j 0<_;rw[aj,iA];split
   ·rename_i h5
    rw[aJ,z] at h5;rw[bU,aB,<-aj];have :=wI j;omega
   ·rename_i h5
    rw[aJ,z] at h5;rw[aJ,z,show j-min 5 13=0 by omega];show 0<=((fo n own:Nat):Int)/\((fo n own:Nat):Int)<_;omega
theorem ND (G:cm n)(l:List Int)(x:Int):iR (iq n l x)=⟨n.F,n.K,n.L,n.S,List.replicate 13 0,[]⟩:=by
 obtain⟨hF,W,z⟩:=G;have V:n.K=1\/n.K=2:=z.imp (·.1) (·.1);have hS:0<=n.S/\n.S<=832:=by
  rcases z with ⟨_,h⟩|⟨_,h⟩
  ·exact h.1
  ·have h1:=h.1
   have h2:=h.2.1;omega
 have U:(iq n l x).getD 0 0=n.F+256*n.K+65536*n.L:=rfl;have J:(iq n l x).getD 1 0=n.S:=rfl;unfold iR;rw[U,J,show(n.F+256*n.K+65536*n.L)%256=n.F by omega,show(n.F+256*n.K+65536*n.L)/256%256=n.K by omega,show(n.F+256*n.K+65536*n.L)/65536%65536=n.L by omega,show wrap64 n.S=n.S by unfold wrap64;omega]
theorem Yp (h:l.length=13)(x:Int):(iq n l x).getD 7 0=x:=by
 show(l.take 5++[x]).getD 5 0=x;rw[aj,aR (by rw[aJ,h];omega),aJ,h];rfl
theorem Yq (h:l.length=13)(x:Int):((iq n l x).drop 2).take 5=l.take 5:=by
 show(l.take 5++[x]).take 5=_;rw[fH (by rw[aJ,h];omega),List.take_take];rfl
theorem wM (n:bT):bp n.E.length<=eY n/\eY n<=bp n.E.length+1:=by unfold eY;split<;>omega
theorem UZ (G:c<=own.length)(z:own.length<=c+1):own.take c++(if c<own.length then [own.getD c 0] else [])=own:=by
 split
 ·rename_i h
  have :own.drop c=[own.getD c 0]:=by
   rw[fF h,dx (by omega),aj,aD h];rfl
  rw[<-this,dn]
 ·rw[br,aW (by omega)]
theorem U0 (h:bp n.E.length<=own.length):((dX n own).take (bp n.E.length)).map Int.toNat=own.take (bp n.E.length):=by
 unfold dX;rw[fH (by rw[bZ,aJ];omega),aW (by rw[bZ,aJ];omega),List.map_map]
 conv=>rhs;rw[<-List.map_id (List.take (bp n.E.length) own)]
 exact dM λa _=>aG a
theorem CU (hB:n.B.length=13)(hR:cm n)(hF:n.F=1)(ho:own.length=eY n)(hm:∀c∈own,c≠0/\c<256)(h:GD X q n own):
  ni X (dZ X q)/\oC X (dZ X q)=n/\EJ X (dZ X q)=own:=by
 have au:=jQ hR;have av:=wM n;have Nn:bp n.E.length<=own.length:=by omega
 have U:=vB (own:=own) hB (by omega) Nn;have wI:=CN hR hB Nn hm;have QI:=ND hR (dX n own) ((fo n own:Nat):Int);have g1:(iq n (dX n own) ((fo n own:Nat):Int)).getD 1 0=n.S:=rfl;have g7:=Yp (n:=n) U ((fo n own:Nat):Int);have g5:=Yq (n:=n) U ((fo n own:Nat):Int);have hK:n.K=1\/n.K=2:=hR.2.2.imp (·.1) (·.1);have Yr:n.K=1->n.E=[]/\bp n.E.length=0:=λz=>by
  rcases hR.2.2 with h|h
  ·have :=h.2.2.1
   exact⟨List.length_eq_zero_iff.1 this,by unfold bp;omega⟩
  ·have :=h.1;omega
 have NF:n.K=2->pn n:=λz=>by
  rcases hR.2.2 with h|h
  ·have :=h.1;omega
  ·exact h.2
 have ax:fo n own<256:=by
  unfold fo;split
  ·exact(hm _ (jH (by assumption))).2
  ·omega
 -- the list, or none
 have G:(bp n.E.length<own.length/\fo n own=own.getD (bp n.E.length) 0/\fo n own≠0/\(dX n own).drop 5≠List.replicate 8 0)\/(bp n.E.length=own.length/\fo n own=0/\(dX n own).drop 5=List.replicate 8 0):=by
  by_cases hc:bp n.E.length<own.length
  ·left
   have W:fo n own=own.getD (bp n.E.length) 0:=by unfold fo;rw[aB hc]
   refine⟨hc,W,by rw[W];exact(hm _ (jH hc)).1,λhz=> ?_⟩;have h5:5<bp n.E.length\/n.B.drop 5≠List.replicate 8 0:=by
    rcases Classical.em (5<bp n.E.length\/n.B.drop 5≠List.replicate 8 0) with h|h
    ·exact h
    ·have :eY n=bp n.E.length:=by unfold eY;rw[aA h]
     omega
   by_cases h6:5<bp n.E.length
   ·have e:=sA Nn h6
    have e2:((dX n own).drop 5).getD 0 0=(0:Int):=by rw[hz];rfl
    rw[aj,b8,<-aj,e] at e2;have :=(hm _ (jH (show 5<own.length by omega))).1;omega
   ·have h7:=h5.resolve_left h6
    rcases hK with z|z
    ·have ac:=(Yr z).2
     apply h7;rw[<-hz];unfold dX;rw[ac];rfl
    ·apply h7
     rw[(NF z).2.2.1];rfl
  ·right
   have ai:bp n.E.length=own.length:=by omega
   have W:fo n own=0:=by unfold fo;rw[aA hc]
   have h5:¬(5<bp n.E.length\/n.B.drop 5≠List.replicate 8 0):=λh=>by
    have :eY n=bp n.E.length+1:=by unfold eY;rw[aB h]
    omega
   have h6:n.B.drop 5=List.replicate 8 0:=Classical.not_not.1 λh=>h5 (.inr h)
   refine⟨ai,W,DK (by rw[bM,U];rfl) λk z=> ?_⟩;rw[<-h6,aj,b8,<-aj,vC Nn,aA,aj,aj,b8]
 have uH:dJ X (iq n (dX n own) ((fo n own:Nat):Int))=dX n own:=by
  unfold dJ;rw[g5,g7]
  conv=>rhs;rw[<-dn 5 (dX n own)]
  congr 1
  rcases G with ⟨hc,W,h0,-⟩|⟨hc,W,h0⟩
  ·rw[aA,aG,W,h.own _ hc,ownRow,aA (Nat.lt_irrefl _)]
  ·rw[aB,h0]
 have Yt:n.K=2->n.S.toNat=n.E.length/\pJ X (dX n own) n.E.length/\sV X (dX n own) n.E.length=n.E:=λz=>by
  have hd:=NF z;have aa:∀e,e<n.E.length->X.getD (x9 (dX n own) e) 0=((kZ (bl (eX n.E e)):Nat):Int)/\X.getD (x9 (dX n own) e+1) 0=jq n.E e/\kN (kZ (bl (eX n.E e)))=some (bl (eX n.E e)):=λe he=>by
   have ag:e/4<bp n.E.length:=by unfold bp;omega
   have V:=h.own (e/4) (by omega);rw[ownRow,aB ag] at V;have af:x9 (dX n own) e=1080+8*own.getD (e/4) 0+2*(e%4):=by unfold x9;rw[sA Nn ag,aG]
   have r0:(dZ X (1080+8*own.getD (e/4) 0)).getD (2*(e%4)) 0=(jn n.E (e/4)).getD (2*(e%4)) 0:=by rw[V]
   have r1:(dZ X (1080+8*own.getD (e/4) 0)).getD (2*(e%4)+1) 0=(jn n.E (e/4)).getD (2*(e%4)+1) 0:=by rw[V]
   rw[kH _ _ _ (by omega)] at r0 r1;unfold jn at r0 r1;rw[qq _ _ _ _ (by omega),aB,K9,aB,show 4*(e/4)+2*(e%4)/2=e by omega] at r0;rw[qq _ _ _ _ (by omega),aB,K9,aA,show 4*(e/4)+(2*(e%4)+1)/2=e by omega] at r1;have hg:=(hd.2.2.2 e he).1;refine⟨by rw[af,r0],by rw[af,Nat.add_assoc,r1],?_⟩;unfold kZ;rw[aB hg];exact oP hg (Bg _)
  have hE:sV X (dX n own) n.E.length=n.E:=Xw (qw _ _ _) λe he=>by
   rw[qw] at he;obtain⟨h1,h2,h3⟩:=aa e he;obtain⟨e1,e2⟩:=CG X (dX n own) n.E.length e he;rw[e1,e2];unfold Bk zB;rw[h1,h2,aG,h3];exact⟨EY _,rfl⟩
  refine⟨by rw[hd.2.1,aG],⟨hd.1,?_,λk z=> ?_⟩,hE⟩
  ·refine DK (by rw[U,nR U (by omega)]) λk _=> ?_
   rw[qo U (by omega)];split
   ·rfl
   ·rw[vC Nn,aA (by assumption),hd.2.2.1,aj,bj]
    split<;>rfl
  ·have ae:k<own.length:=by omega
   have JN:=hm _ (jH ae);refine⟨by rw[sA Nn z];omega,λj hj=> ?_,?_⟩
   ·obtain⟨h1,h2,h3⟩:=aa (4*k+j) (by omega)
    unfold Bk zB;rw[h1,h2,aG,h3];have :=(hd.2.2.2 (4*k+j) (by omega)).2.1;exact⟨rfl,by omega⟩
   ·rw[hE,sA Nn z,aG]
    have :=h.own k ae;rw[ownRow,aB z] at this;exact this.symm
 rw[h.row];have J:oC X (iq n (dX n own) ((fo n own:Nat):Int))=n:=by
  unfold oC;rw[uH,QI,g1];obtain⟨F,K,L,S,B,E⟩:=n;rcases hK with z|z
  ·have hb:=Yr z
   rw[aA (show ¬K=2 by have :K=1:=z;omega)];show bT.mk F K L S _ []=bT.mk F K L S B E;have he:E=[]:=hb.1;have ac:bp E.length=0:=hb.2;rw[he]
   congr 1
   unfold dX;have ak:bp ([]:List (ByteArray×Int)).length=0:=by decide
   show(own.take (bp ([]:List (ByteArray×Int)).length)).map _++B.drop (bp ([]:List (ByteArray×Int)).length)=B;rw[ak];rfl
  ·obtain⟨e1,e2,e3⟩:=Yt z
   have ar:S.toNat=E.length:=e1;rw[aB (show K=2 from z)];show bT.mk F K L S (List.replicate 13 0) (sV X _ S.toNat)=bT.mk F K L S B E;have hb:B=List.replicate 13 0:=(NF z).2.2.1;rw[ar,hb]
   congr 1
   rw[<-hb];exact e3
 refine⟨⟨⟨by rw[g7];omega,λk _=>by rw[uH];exact(wI k).2,?_⟩,?_,λz=> ?_,by rw[QI];exact hF,by rw[J];exact hR,by rw[J,uH,g7]⟩,J,?_⟩
 ·rw[g7,uH]
  rcases G with ⟨_,_,_,h0⟩|⟨_,h0,_⟩
  ·exact .inr h0
  ·exact .inl (by omega)
 ·rw[g1]
  rcases hK with z|z
  ·rcases hR.2.2 with h|h
   ·exact h.2.1.2
   ·have :=h.1;omega
  ·have :=(NF z).2.1;omega
 ·rw[QI] at z
  obtain⟨e1,e2,e3⟩:=Yt z;rw[uH,g1,e1];exact e2
 ·unfold EJ
  rw[uH,QI,g1,g7];have ah:(if ((fo n own:Nat):Int)=0 then [] else [((fo n own:Nat):Int).toNat])=if bp n.E.length<own.length then [own.getD (bp n.E.length) 0] else []:=by
   rcases G with ⟨hc,W,h0,-⟩|⟨hc,W,-⟩
   ·rw[aA,aB hc,aG,W]
   ·rw[aB,aA]
  rw[ah];have h1:(if (bT.mk n.F n.K n.L n.S (List.replicate 13 0) []).K=2 then ((dX n own).take (bp n.S.toNat)).map Int.toNat else [])=own.take (bp n.E.length):=by
   rcases hK with z|z
   ·rw[aA (show ¬n.K=2 by omega),(Yr z).2]
    rfl
   ·rw[aB (show n.K=2 from z),(Yt z).1,U0 Nn]
  rw[h1];exact UZ Nn (by omega)
theorem o6:∀a:List UInt8,Op.bytesLess a a=false
 | []=>rfl
 |a::x=>by
  have h:¬a<a:=by rw[gZ];omega
  simp[Op.bytesLess,o6 x,h]
theorem tu:∀a b:List UInt8,Op.bytesLess a b=false->a≠b->Op.bytesLess b a=true
 | [],[],_,h=>absurd rfl h
 |_::_,[],_,_=>rfl
 | [],_::_,h,_=>by simp[Op.bytesLess] at h
 |a::x,b::y,h,hne=>by
  simp only[Op.bytesLess,Bool.or_eq_false_iff,Bool.and_eq_false_iff,decide_eq_false_iff_not,cP] at h;simp only[Op.bytesLess,Bool.or_eq_true,gj,decide_eq_true_eq,beq_iff_eq];by_cases e:a=b
  ·subst e
   refine .inr ⟨rfl,tu x y ?_ (λz=>hne (by rw[z]))⟩;exact h.2.resolve_left λJ=>J rfl
  ·left
   have G:=h.1;rw[gZ] at G ⊢;have :a.toNat≠b.toNat:=λh=>e (UInt8.toNat_inj.1 h)
   omega
theorem oL:∀a b c:List UInt8,Op.bytesLess a b=true->Op.bytesLess b c=true->Op.bytesLess a c=true
 |_,_,[],_,h=>by simp[Op.bytesLess] at h
 | [],_,_::_,_,_=>rfl
 |_::_,[],_::_,h,_=>by simp[Op.bytesLess] at h
 |a::x,b::y,c::z,J,G=>by
  simp only[Op.bytesLess,Bool.or_eq_true,gj,decide_eq_true_eq,beq_iff_eq] at J G ⊢;rw[gZ] at *;rcases J with J|⟨rfl,J⟩
  ·rcases G with G|⟨rfl,G⟩
   ·left;omega
   ·left;exact J
  ·rcases G with G|⟨rfl,G⟩
   ·left;exact G
   ·exact .inr ⟨rfl,oL x y z J G⟩
theorem GG (h:∀k,k<E.length->0<k->leB (eX E k) (eX E (k-1))=false):∀k j,j<k->k<E.length->Op.bytesLess (eX E j).toList (eX E k).toList=true:=by
 intro k;induction k with
 |zero=>intro j U;omega
 |succ k ih=>
  intro j U J;have z:=h (k+1) J (by omega);unfold leB at z;rw[Bool.or_eq_false_iff,ib] at z;have G:Op.bytesLess (eX E k).toList (eX E (k+1)).toList=true:=tu _ _ z.1 (by simpa using z.2);by_cases e:j=k
  ·subst e;exact G
  ·exact oL _ _ _ (ih j (by omega) (by omega)) G
theorem NG (h:∀k,k<E.length->0<k->leB (eX E k) (eX E (k-1))=false){j k:Nat}(G:j<k)(z:k<E.length):eX E j≠eX E k:=λe=>by
 have :=GG h k j G z;rw[e,o6] at this;cases this
theorem NH{l:List Nat}(h:iy l=true):72057594037927936<=kZ l:=by
 unfold kZ;rw[aB h,rK];have :=(oO h).1;omega
theorem CV (k:Nat):(l.drop 5).getD k 0=l.getD (5+k) 0:=by
 rw[aj,b8,aj]
theorem QJ (h:k<c)(z:c<=l.length):((l.take c).map Int.toNat).getD k 0=(l.getD k 0).toNat:=by
 rw[aj,bJ,bU,aB h,aj,aD (by omega)];rfl
theorem U1 (aK:In64 X){q:Nat}(h:ni X (dZ X q)):
  cm (oC X (dZ X q))/\(oC X (dZ X q)).F=1/\(oC X (dZ X q)).B.length=13/\(EJ X (dZ X q)).length=eY (oC X (dZ X q))/\(∀c∈EJ X (dZ X q),c≠0/\c<256)/\(EJ X (dZ X q)).Nodup/\GD X q (oC X (dZ X q)) (EJ X (dZ X q)):=by
 obtain⟨ah,hS,aU,hF,hR,ar⟩:=h;have xK:=iG X q;have xC:In64 (dZ X q):=λj=>by
  by_cases hj:j<8
  ·rw[kH _ _ _ hj];exact aK _
  ·rw[aj,aP (by rw[xK];omega)]
   simp
 have wI:=Gz aK xC xK ah;have ac:=wH (X:=X) xK;have Ua:dJ X (dZ X q)=((dZ X q).drop 2).take 5++(if (dZ X q).getD 7 0=0 then List.replicate 8 0 else dZ X (1080+8*((dZ X q).getD 7 0).toNat)):=rfl;have W:(dJ X (dZ X q)).drop 5=if (dZ X q).getD 7 0=0 then List.replicate 8 0 else dZ X (1080+8*((dZ X q).getD 7 0).toNat):=by
  rw[Ua,List.drop_append_of_le_length (by simp[xK]),dx (by simp[xK])];rfl
 have aW:=ah.1;have aM:=(xC 7).1;have aH:=ah.2.2;clear Ua ah;have EK:oC X (dZ X q)=if (iR (dZ X q)).K=2 then { iR (dZ X q) with E:=sV X (dJ X (dZ X q)) ((dZ X q).getD 1 0).toNat } else { iR (dZ X q) with B:=dJ X (dZ X q) }:=rfl
 have aa:EJ X (dZ X q)=(if (iR (dZ X q)).K=2 then ((dJ X (dZ X q)).take (bp ((dZ X q).getD 1 0).toNat)).map Int.toNat else [])++(if (dZ X q).getD 7 0=0 then [] else [((dZ X q).getD 7 0).toNat]):=rfl;have aV:(iR (dZ X q)).B=List.replicate 13 0:=rfl;have aT:(iR (dZ X q)).E=[]:=rfl;generalize hn:oC X (dZ X q)=n,bh:EJ X (dZ X q)=own,bf:dJ X (dZ X q)=l,aZ:(dZ X q).getD 7 0=V,bc:((dZ X q).getD 1 0).toNat=m at *;generalize aF:dZ X q=r at *;have aQ:bp ([]:List (ByteArray×Int)).length=0:=by decide
 by_cases hK:(iR r).K=2
 · -- a directory
  rw[aB hK] at EK aa;obtain⟨bg,aO,ax⟩:=aU hK;have ak:n.E=sV X l m:=by rw[EK]
  have GH:n.E.length=m:=by rw[ak,qw]
  have Yj:n.B=List.replicate 13 0:=by rw[EK];exact aV
  have bk:n.K=2:=by rw[EK];exact hK
  have aX:bp m<=6:=by unfold bp;omega
  have aI:∀k,bp m<=k->l.getD k 0=0:=λk J=>by
   rw[aO,qo ac (by omega),aA]
  have NF:pn n:=by
   rcases hR.2.2 with h|h
   ·have :=h.1;omega
   ·exact h.2
  have ai:((l.take (bp m)).map Int.toNat).length=bp m:=by rw[bZ,aJ,ac];omega
  have G:own.length=bp m+(if V=0 then 0 else 1):=by
   rw[aa,aC,ai];split<;>rfl
  have ag:∀k,k<bp m->own.getD k 0=(l.getD k 0).toNat:=λk J=>by
   rw[aa,aj,ba (by rw[ai];exact J),<-aj,QJ J (by rw[ac];omega)]
  have SN:V≠0->own.getD (bp m) 0=V.toNat:=λz=>by
   rw[aa,aj,aR (by rw[ai];omega),ai,jg,aA z];rfl
  have su:fo n own=V.toNat:=by
   unfold fo;rw[GH];by_cases z:V=0
   ·rw[aA (by rw[G,aB z];omega),z];rfl
   ·rw[aB (by rw[G,aA z];omega),SN z]
  have U:dX n own=l:=by
   have Nn:bp n.E.length<=own.length:=by rw[GH,G];omega
   refine DK (by rw[vB (by rw[Yj];rfl) (by rw[GH];omega) Nn,ac]) λk _=> ?_
   rw[vC Nn,GH];split
   ·rename_i J
    rw[ag k J,jF (wI k).1]
   ·rename_i J
    rw[aI k (by omega),Yj,aj,bj];split<;>rfl
  have az:V≠0↔5<bp m:=by
   constructor
   ·intro z
    have h1:=aH.resolve_left z;rcases dE 5 (bp m) with h|h
    ·exact h
    ·refine absurd (DK (by rw[bM,ac];rfl) λk _=> ?_) h1
     rw[CV,aI _ (by omega),aj,bj];split<;>rfl
   ·intro h5 z
    rw[aB z] at W;have h1:=(ax 5 h5).1;have h2:(l.drop 5).getD 0 0=0:=by rw[W];rfl
    rw[CV] at h2;exact h1 h2
  have vz:eY n=own.length:=by
   unfold eY;rw[GH,G];by_cases z:V=0
   ·rw[aA ?_,aB z]
    ·rfl
    ·intro h
     rcases h with h|h
     ·exact az.2 h z
     ·exact h (by rw[Yj];rfl)
   ·rw[aB (.inl (az.1 z)),aA z]
  have aL:∀c∈own,c≠0/\c<256:=λc hc=>by
   obtain⟨k,J,rfl⟩:=bY hc;have e:own[k]=own.getD k 0:=by rw[aj,aD J];rfl
   rw[e];by_cases af:k<bp m
   ·rw[ag k af]
    have :=(ax k af).1;have :=wI k;omega
   ·rw[G] at J
    split at J
    ·omega
    ·rename_i z
     rw[show k=bp m by omega,SN z];omega
  have ae:∀k,k<bp m->dZ X (1080+8*own.getD k 0)=jn n.E k:=λk J=>by
   rw[ag k J,ak];exact(ax k J).2.2.symm
  have ay:V≠0->dZ X (1080+8*V.toNat)=l.drop 5:=λz=>by rw[W,aA z]
  have ya:∀k,k<bp m->(jn n.E k).getD 0 0=((kZ (bl (eX n.E (4*k))):Nat):Int)/\4*k<n.E.length:=λk J=>by
   have aY:4*k<m:=by unfold bp at J;omega
   refine⟨?_,by omega⟩;unfold jn;rw[qq _ _ _ _ (by omega),aB,K9,aB];rfl
  have av:=λk J (z:0<k)=>(NF.2.2.2 k J).2.2 z
  refine⟨hR,by rw[EK];exact hF,by rw[Yj];rfl,vz.symm,aL,?_,?_⟩
  ·rw[List.nodup_iff_pairwise_ne,df]
   intro i j hi hj bb e;have ei:own[i]=own.getD i 0:=by rw[aj,aD hi];rfl
   have ej:own[j]=own.getD j 0:=by rw[aj,aD hj];rfl
   rw[ei,ej] at e;have aG:i<bp m:=by rw[G] at hj;split at hj<;>omega
   obtain⟨f1,f2⟩:=ya i aG;have b1:=ae i aG;have g1:=(NF.2.2.2 (4*i) f2).1;by_cases QK:j<bp m
   ·obtain⟨f3,f4⟩:=ya j QK
    have b2:=ae j QK;rw[e,b2] at b1;rw[b1,f1] at f3;have g2:=(NF.2.2.2 (4*j) f4).1;have hw:kZ (bl (eX n.E (4*i)))=kZ (bl (eX n.E (4*j))):=by omega
    unfold kZ at hw;rw[aB g1,aB g2] at hw;have n1:=oP g1 (Bg _);have n2:=oP g2 (Bg _);rw[hw,n2] at n1;exact NG av (show 4*i<4*j by omega) f4 (KY (Option.some.inj n1)).symm
   ·have z:V≠0:=λz=>by rw[G,aB z] at hj;omega
    have aN:j=bp m:=by rw[G,aA z] at hj;omega
    rw[aN,SN z] at e;rw[e,ay z] at b1;have :=NH g1;rw[<-b1,CV] at f1;have :=wI (5+0);omega
  ·refine⟨by rw[U,su,jF aM,ar,aF],λk J=> ?_⟩
   unfold ownRow;rw[GH,U];split
   ·rename_i af
    exact ae k af
   ·rename_i af
    have z:V≠0:=λz=>by rw[G,aB z] at J;omega
    have aS:k=bp m:=by rw[G,aA z] at J;omega
    rw[aS,SN z,ay z]
 · -- a file
  rw[aA hK] at EK aa;have ak:n.E=[]:=by rw[EK];exact aT
  have GH:bp n.E.length=0:=by rw[ak];exact aQ
  have Yj:n.B=l:=by rw[EK]
  have G:own=if V=0 then [] else [V.toNat]:=by rw[aa,bQ]
  have U:dX n own=l:=by
   unfold dX;rw[GH,Yj];rfl
  have su:fo n own=V.toNat:=by
   unfold fo;rw[GH];by_cases z:V=0
   ·rw[G,aB z,aA (by simp),z];rfl
   ·rw[G,aA z,aB (by simp)];rfl
  refine⟨hR,by rw[EK];exact hF,by rw[Yj,ac],?_,?_,?_,?_⟩
  ·unfold eY
   rw[GH,Yj];by_cases z:V=0
   ·rw[aB z] at W
    rw[G,aB z,aA ?_]
    ·rfl
    ·intro h
     rcases h with h|h
     ·omega
     ·exact h W
   ·rw[G,aA z,aB (.inr (aH.resolve_left z))]
    rfl
  ·rw[G]
   split
   ·simp
   ·rename_i z
    intro c hc;rw[au] at hc;omega
  ·rw[G]
   split<;>simp
  ·refine⟨by rw[U,su,jF aM,ar,aF],λk J=> ?_⟩
   unfold ownRow;rw[GH,U,aA];have z:V≠0:=λz=>by rw[G,aB z] at J;simp at J
   rw[G,aA z] at J ⊢;obtain rfl:k=0:=by simpa using J
   show dZ X (1080+8*V.toNat)=_;rw[W,aA z]
def wN (w:World) (b z:Nat) (B:List Int) (ps:List (Int×Int)) (i:Int) (n:bT) (e:Ending) (w':World):Prop:=
 ∃r qs h,e=(r:Int)/\(h=z\/(w.heap.size<=h/\h<w'.heap.size))/\eK w' b h B (ps++qs)/\ay [b,z] w w'/\qs.length<=200/\
  ((r=1/\¬IW i n/\qs=[])\/(r=7/\IW i n/\(aZ (az B ps)).length<eY n/\qs=[])\/
   (r=0/\IW i n/\eY n<=(aZ (az B ps)).length/\qs=pO (az B ps) i.toNat n ((aZ (az B ps)).take (eY n))))
theorem qy:∀c∈(aZ X).take m,c≠0/\c<256:=λc h=>by
 have :=kx.1 (bO h);exact⟨this.2.1,this.1⟩
theorem sB:((aZ X).take m).Nodup:=List.Sublist.nodup (List.take_sublist _ _) (rS X 256)
theorem uw (h:m<=(aZ X).length):((aZ X).take m).length=m:=by rw[aJ,cQ h]
theorem U2 (z:bp n.E.length<=6)(h:∀c∈own,c≠0/\c<256)(G:own.length<=7):(pO X i n own).length<=200:=by
 unfold pO wJ qx;rw[aC,aC,aC,qj _ _ h,yX,oY];split
 ·rw[oY];omega
 ·simp only[cC];omega
theorem abz{J:Nat}(h:eK w b J B ps)(U:In64 (az B ps))(hT:lD w)(Ew:J<w.heap.size)(aa:ps.length<=800000)(i:Int)(n:bT)(v:Value)(g:Nat)(V:n.B.length=13)(W:bD w v g n.E)
  (hN:∀k,k<n.E.length->(eX n.E k).size<=9223372036854775807) (ae:n.E.length≠0->g≠b/\g≠J):
  Calls prog 172 #[b,i,aM n v] w (wN w b J B ps i n):=by
 by_cases z:IW i n
 ·by_cases hn:eY n<=(aZ (az B ps)).length
  ·refine(adT h U hT Ew aa i n v g V W hN z ae hn).mono λe w' G=> ?_
   obtain⟨G,gI,h1,h2,h3⟩:=G;have ac:=jQ z.2.2;have af:=wM n;exact⟨0,_,gI,G,h1,h2,h3,U2 ac.2.1 qy (by rw[uw hn];omega),.inr (.inr ⟨rfl,z,hn,rfl⟩)⟩
  ·refine(UL h U i n v g V W hN z (by omega)).mono λe w' G=> ?_
   exact⟨7,[],J,G.1,.inl rfl,by rw[br];exact h.keep G.2 (by simp) (by simp),G.2.mono (by simp),by simp,.inr (.inl ⟨rfl,z,by omega,rfl⟩)⟩
 ·refine(abp i n v g V W hN z).mono λe w' G=> ?_
  exact⟨1,[],J,G.1,.inl rfl,by rw[br];exact h.keep G.2 (by simp) (by simp),G.2.mono (by simp),by simp,.inl ⟨rfl,z,rfl⟩⟩
theorem CW{h:Array Value}(G:bh w g h 111)(J:h.size=18)(z:n.B.length=13){v:Value}(U:v.oneCell'=true):
  ∃w',(storeVar 111 g (.agg (aM n v))).run prog w= .ok () w'/\bh w' g (aM n v) 111/\ay [g] w w':=
 bH (P:= prog) (ty:= 111) (cs:=na n v) (by rw[gM,z];exact iZ) G (by rw[J,gM,z]) (kY U)
theorem yY{v:Value}(h:bD w v g E):v.oneCell'=true:=by
 obtain⟨a,cap,rfl,-⟩:=h;rfl
theorem Yu (G:In64 X)(J:X.length=3128){i:Int}{n:bT}(U:n.B.length=13)(h:IW i n)(hn:eY n<=(aZ X).length):
  GD (az X (pO X i.toNat n ((aZ X).take (eY n)))) (824+8*i.toNat) n ((aZ X).take (eY n))/\In64 (az X (pO X i.toNat n ((aZ X).take (eY n))))/\
  (∀k,820<=k->¬(824+8*i.toNat<=k/\k<824+8*i.toNat+8)->¬(1080<=k/\(k-1080)/8∈(aZ X).take (eY n))->(az X (pO X i.toNat n ((aZ X).take (eY n)))).getD k 0=X.getD k 0):=by
 have z:=jQ h.2.2;have W:=wM n;have aa:=uw hn;have hi:=h.1;refine⟨?_,aec G J U h.2.2 (by omega) qy,λk V h1 h2=>UX (by omega) qy V h2 (by omega)⟩;unfold pO;rw[bz];exact Yo (by rw[ct,J]) _ (by omega) U z.2.1 (by omega) (by omega) sB qy
end Go.Proofs.YtepbpdipenedhaaGreatDoor
