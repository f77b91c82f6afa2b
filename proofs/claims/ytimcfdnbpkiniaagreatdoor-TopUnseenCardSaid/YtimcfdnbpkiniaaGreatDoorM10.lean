/- Lemmas. -/
import Derived.Test.YtimcfdnbpkiniaaGreatDoorM09
set_option maxHeartbeats 8000000
set_option maxRecDepth 100000
namespace Go.Proofs.YtimcfdnbpkiniaaGreatDoor
open Go.Proofs.Tryz
open Go.RowKit
variable{B X l:List Int}{w:World}{b c g i k m q:Nat}{ps:List (Int×Int)}{n:bS}{own:List Nat}{p:Int×Int}{E:List (ByteArray×Int)}
def fS (X:List Int) (i:Int):List Int:=eu X (824+8*i.toNat)
def nY (X r:List Int):bS:=
 if (iK r).K=2 then { iK r with E:=sQ X (dI X r) (r.getD 1 0).toNat } else { iK r with B:=dI X r }
def EG (X r:List Int):List Nat:=
 (if (iK r).K=2 then ((dI X r).take (bj (r.getD 1 0).toNat)).map Int.toNat else [])++(if r.getD 7 0=0 then [] else [(r.getD 7 0).toNat])
def mU (X r:List Int):Prop:=
 zI X r/\r.getD 1 0<=832/\((iK r).K=2->pq X (dI X r) (r.getD 1 0).toNat)/\(iK r).F=1/\cm (nY X r)/\ic (nY X r) (dI X r) (r.getD 7 0)=r
theorem Gn{r:List Int}(h:In64 X)(V:In64 r)(z:r.length=8)(W:zI X r):∀k,0<=(dI X r).getD k 0/\(dI X r).getD k 0<256:=by
 intro k;by_cases J:k<13
 ·refine⟨?_,W.2.1 k J⟩
  unfold dI;by_cases U:k<5
  ·simp only[aj]
   rw[bh (by simp[z];omega),bU,aB U,cj];have :=(V (2+k)).1;rwa[aj] at this
  ·simp only[aj]
   rw[aT (by simp[z];omega)];split
   ·grind
   ·have :((r.drop 2).take 5).length=5:=by simp[z]
    rw[this];have G:=kx X (1080+8*(r.getD 7 0).toNat) (k-5) (by omega);rw[aj,aj] at G;rw[<-aj,<-aj,aj,aj] at *;rw[G];have :=(h (1080+8*(r.getD 7 0).toNat+(k-5))).1;rwa[aj] at this
 grind [wj]
theorem QB{y:Int}(h:0<=y/\y<18446744073709551616):(y<=832↔0<=wrap64 y/\wrap64 y<=832)/\(y<=832->wrap64 y=y):=by
 unfold wrap64;omega
def mB (w:World) (X:List Int) (i:Int) (e:Ending) (w':World):Prop:=
 ∃n v g own h z ok,e= .returned (.tuple #[aL n v,h,.bool ok])/\n.B.length=13/\bD w' v g n.E/\w.heap.size<=g/\lQ w' h z own/\w.heap.size<=z/\
  (ok=true->(0<=i/\i<32)/\mU X (fS X i)/\n=nY X (fS X i)/\own=EG X (fS X i))/\
  (ok=false->¬((0<=i/\i<32)/\mU X (fS X i))/\n=bY/\own=[])/\ay [] w w'
theorem mB.no{w':World}{i:Int}(h:¬((0<=i/\i<32)/\mU X (fS X i)))(z:ay [] w w'):mB w X i (.returned (.tuple #[aL bY (.slice none 0 0),(),false])) w':=
 ⟨bY,_,w.heap.size,[],_,w.heap.size,false,rfl,rfl,bD.nil _ _,aI _,lQ.nil _ _,aI _,λh=>(by cases h),λ_=>⟨h,rfl,rfl⟩,z⟩
theorem QC (z:bc w g (aL bY (.slice none 0 0)) 75):
  ∃w',(storeVar 75 g (.agg (aL bY (.slice none 0 0)))).run prog w= .ok () w'/\(loadVar 75 g).run prog w'= .ok (.agg (aL bY (.slice none 0 0))) w'/\ay [g] w w':=by
 obtain⟨w',h,G,J⟩:=bE (P:= prog) (ty:= 75) (cs:=mQ bY (.slice none 0 0)) (by rw[gJ];exact iV) z rfl (kR rfl);exact⟨w',h,bZ (n:=bY) (v:= .slice none 0 0) G rfl,J⟩
theorem abL{gp:Nat}(h:eN w b gp B ps)(cp:In64 (az B ps))(i:Int):
  Calls prog 149 #[b,i] w (mB w (az B ps) i):=by
 obtain⟨HS,uM⟩:=hh2 h cp;have bX:=bc.new w (aL bY (.slice none 0 0)) 75;have fG:Hid (ay [] w (w.alloc (.cells (aL bY (.slice none 0 0)) 75))):=(ay.refl _ _).alloc _;have pO:=ar bX;have rq:=dC;have HI:=ar (km i);clear h cp bX;have lJ:Hid (∀z:World,bc z w.heap.size (aL bY (.slice none 0 0)) 75->∃w',(storeVar 75 w.heap.size (.agg (aL bY (.slice none 0 0)))).run prog z= .ok () w'/\(loadVar 75 w.heap.size).run prog w'= .ok (.agg (aL bY (.slice none 0 0))) w'/\ay [w.heap.size] z w'):=λz hb=>QC hb
 obtain⟨ZI,aT⟩:∃ZI,aL bY (.slice none 0 0)=ZI:=⟨_,rfl⟩;rw[aT] at lJ pO fG;have ez:∀w:World,(zeroValue 75).run prog w= .ok (.agg ZI) w:=λw=>by rw[<-aT];exact rq w
 have ax:=ar aT;clear rq aT;by_cases jr:i<0\/32<=i
 ·have aM:gA i= -1:=by unfold gA;rw[aB jr]
  rw[aM] at HI;obtain⟨w1,bT,pN,ak⟩:=lJ.out _ pO.out;obtain⟨dG,mO,jv⟩:=hh3 bT pN (fG.out.trans ak);have HN:Hid (¬((0<=i/\i<32)/\mU (az B ps) (fS (az B ps) i))):=λh=>by have :=h.1;omega
  clear bT pN ak aM jr;go_in;go_wp2_with fail;refine C' (HI.out _) ?_;go_wp2_with(with_reducible refine gS 75 dG.out ?_);refine aH (cJ results149 rfl mO.out rfl rfl) rfl ?_;have :=mB.no HN.out jv.out;rw[ax.out] at this;exact this
 ·have aM:gA i=((824+8*i.toNat:Nat):Int):=by unfold gA;rw[aA jr];omega
  rw[aM] at HI;obtain⟨r,hr⟩:∃r,r=fS (az B ps) i:=⟨_,rfl⟩;have wm:r.length=8:=by rw[hr];exact iy _ _
  have xq:In64 r:=λj=>by
   rw[hr];unfold fS;by_cases hj:j<8
   ·rw[kx _ _ _ hj];exact uM.out _
   ·rw[aj,aZ (by rw[iy];omega)]
    simp
  have mZ:Hid (Calls prog 62 #[b,((824+8*i.toNat:Nat):Int)] (w.alloc (.cells ZI 75)) λe w'=>e=(aX r).toArray/\ay [] (w.alloc (.cells ZI 75)) w'):=by
   rw[hr];exact po (HS.out.keep fG.out) (824+8*i.toNat) (by omega)
  have jT:Hid (¬mU (az B ps) r->¬((0<=i/\i<32)/\mU (az B ps) (fS (az B ps) i))):=λh hh=>h (by rw[hr];exact hh.2)
  have HR:=ar hr;have dX:¬((824+8*i.toNat:Nat):Int)<0:=by omega
  generalize ((824+8*i.toNat:Nat):Int)=p at *;have eD:=kV;have WV:=pd;clear aM hr;go_in;go_wp2_with fail;refine C' (HI.out _) ?_;go_wp2_with fail;refine C' (HI.out _) ?_;go_wp2_with fail;refine Rr mZ.out λw1 ak=> ?_;obtain⟨w2,UM,L6,bL⟩:=bE (P:= prog) (ty:= 132) (cs:=aX r) (by rw[bA,wm];exact iZ) (bc.new w1 (aX (List.replicate 8 0)).toArray 132) (by simp[bA,wm]) (fk _);have bO:=(pO.out.keep ak).lt;have ac:ay [] w w2:=((fG.out.trans' ak).alloc (.cells (aX (List.replicate 8 0)).toArray 132)).trans bL (by intro x J;rw[au] at J;omega);have cj:=((pO.out.keep ak).alloc (.cells (aX (List.replicate 8 0)).toArray 132)).keep bL (by rw[au];omega);obtain⟨cu,cy,UN,fC,cP,Qg,zu⟩:=hh7 UM (fN L6 wm) (CD r wm (xq 0) (xq 1) w2) ac cj L6 xq;have BU:=ar wm;clear UM L6 bL ak ac cj HI mZ pO fG xq wm;go_wp2_with(with_reducible first|refine gS 132 cu.out ?_|refine gL 132 cy.out ?_);refine Rr UN.out λw5 kr=> ?_;obtain⟨wn,cn,XZ,jE⟩:=bE (P:= prog) (ty:= 75) (cs:=mQ (iK r) (.slice none 0 0)) (by rw[gJ];exact iV) (bc.new w5 ZI 75) (by have hz:=ax.out;rw[<-hz];rfl) (kR rfl);have d9:w1.heap.size<w5.heap.size:=bQ Qg.out.lt kr.size;have aO:ay [] w2 wn:=(kr.alloc (.cells ZI 75)).trans jE (by intro x J;rw[au] at J;have :=kr.size;omega);obtain⟨bM,bN,bo,bB⟩:=hh4 (Qg.out.keep aO) (cP.out.keep aO) (fC.out.trans' aO) cn;have Ym:Hid (bc wn w5.heap.size (aL (iK r) (.slice none 0 0)) 75):=XZ;have e6:(Value.agg (mQ (iK r) (.slice none 0 0)).toArray)= .agg (aL (iK r) (.slice none 0 0)):=rfl;rw[e6] at bB;obtain⟨cx,IJ⟩:=hh2 (fN bM.out BU.out) (K0 (HS.out.keep bo.out) uM.out r BU.out zu.out);clear cn XZ jE aO kr Qg cP fC UN cy cu e6;go_wp2_with(with_reducible first|refine gS 75 bB.out ?_|refine gL 132 cx.out ?_);refine IJ.out.mono ?_;rintro e w3 ⟨la,W,ok,rfl,UO,UQ,bb,aW⟩;obtain⟨w6,cA,Yn,cU⟩:=bE (P:= prog) (ty:= 73) (cs:=zs la) (by rw[eT,bb];exact lS) (bc.new w3 (zs (List.replicate 13 0)).toArray 73) (by simp[eT,bb]) (nt _);have eo:w5.heap.size<w3.heap.size:=bQ Ym.out.lt aW.size;have Yo:ay [] wn w6:=(aW.alloc (.cells (zs (List.replicate 13 0)).toArray 73)).trans cU (by intro x J;rw[au] at J;have :=aW.size;omega);obtain⟨dK,bt,Nn,bI,rX,aU,eF⟩:=hh7 (bM.out.keep Yo) (bN.out.keep Yo) (Ym.out.keep Yo) Yn (bo.out.trans' Yo) cA bb;have dY:w.heap.size<w1.heap.size:=bO;clear cA Yn cU Yo aW bb IJ bB cx bM bN Ym bo bO;cases ok
  ·have HN:=ar (jT.out λh=>UQ rfl h.1)
   obtain⟨w9,Gb,Nc,kr⟩:=lJ.out w6 bt.out;obtain⟨EC,Ul,pU⟩:=hh3 Gb Nc (rX.out.trans kr);clear Gb Nc kr UO UQ;generalize (zs la).toArray=cV at *;go_wp2_with(with_reducible first|refine gS 73 aU.out ?_|refine gS 75 EC.out ?_);refine aH (cJ results149 rfl Ul.out rfl rfl) rfl ?_;have :=mB.no HN.out pU.out;rw[ax.out] at this;exact this
  ·obtain⟨uC,rfl,rfl⟩:=UO rfl
   have IJ:=ar uC;clear UO UQ uC;have b9:=zu.out 1;obtain⟨ae,Uj⟩:=QB b9;obtain⟨sv,aP⟩:∃sv,sv=wrap64 (r.getD 1 0):=⟨_,rfl⟩;rw[<-aP] at ae Uj;have bl:w6.cell? ⟨w5.heap.size,3,none⟩=some (.int .i64 sv):=by rw[Nn.out.cell,aP];rfl
   have cQ:=ar aP;clear aP;by_cases aK:sv<0\/832<sv
   ·have HN:=ar (jT.out λh=>by have :=ae.1 h.2.1;omega)
    obtain⟨w9,Gb,Nc,kr⟩:=lJ.out w6 bt.out;obtain⟨EC,Ul,pU⟩:=hh3 Gb Nc (rX.out.trans kr);clear Gb Nc kr ae Uj b9;generalize (zs (dI (az B ps) r)).toArray=cV,r.getD 7 0=W at *;rcases aK with aK|aK
    ·go_wp2_with(with_reducible first|refine gS 73 aU.out ?_|refine gS 75 EC.out ?_)
     refine aH (cJ results149 rfl Ul.out rfl rfl) rfl ?_;have :=mB.no HN.out pU.out;rw[ax.out] at this;exact this
    ·have dx:¬sv<0:=by omega
     go_wp2_with(with_reducible first|refine gS 73 aU.out ?_|refine gS 75 EC.out ?_);refine aH (cJ results149 rfl Ul.out rfl rfl) rfl ?_;have :=mB.no HN.out pU.out;rw[ax.out] at this;exact this
   ·have cD:r.getD 1 0<=832:=ae.2 (by omega)
    have bw:=Uj cD;have dM:Hid (wrap64 (r.getD 1 0)=r.getD 1 0):=by show _=_;rw[<-cQ.out];exact bw
    have dx:¬r.getD 1 0<0:=by omega
    have ey:¬832<r.getD 1 0:=by omega
    rw[bw] at bl;clear ae Uj bw cQ;have ed:¬832<r.getD 1 0:=by omega
    generalize b6:r.getD 1 0=r1 at *;have Yp:=ar b6;generalize cO:r.getD 7 0=W at *;have aR:=ar cO;clear b6 cO cD;have cK:w6.cell? ⟨w5.heap.size,1,none⟩=some (.int .i64 (iK r).K):=by rw[Nn.out.cell];rfl
    have cS:=bl;clear bl;have ui:=ar (wj (X:=az B ps) BU.out);have QD:Hid (∀k,0<=(dI (az B ps) r).getD k 0/\(dI (az B ps) r).getD k 0<256):=Gn uM.out zu.out BU.out IJ.out;have cM:Hid (∀z,ay [] w6 z->(loadVar 73 w3.heap.size).run prog z= .ok (.agg (zs (dI (az B ps) r)).toArray) z):=λz U=>
     fy (off:=0) (bI.out.keep U) ui.out (λk U=>by rw[bp,aG,gI (by rw[ui.out];exact U)])
    have cv:(0<=i/\i<32):=by omega
    have dt:=ar cv;clear cv jr;have dV:w5.heap.size<w6.heap.size:=Nn.out.lt
    go_upto_if 45 with(with_reducible refine gS 73 aU.out ?_)
    go_cut [11,12] (λQh s12 z=>∃(n:bS) (v:Value) (g:Nat) (own:List Nat) (Ez:Bool) (G:Nat),Qh= .bool Ez/\Hid (z.ownsRow G 3 1 s12 own.length (dJ own)/\w6.heap.size<=G/\G<=z.heap.size/\(n.E.length≠0->g<G)/\w.heap.size<g/\own.length<=13/\bc z w5.heap.size (aL n v) 75/\n.B.length=13/\bD z v g n.E/\v.oneCell'=true/\zD n/\(∀k,k<n.E.length->(eY n.E k).size<=9223372036854775807)/\ay [w5.heap.size] w6 z/\
     (Ez=true->n=nY (az B ps) r/\own=(if (iK r).K=2 then ((dI (az B ps) r).take (bj r1.toNat)).map Int.toNat else [])/\((iK r).K=2->pq (az B ps) (dI (az B ps) r) r1.toNat))/\(Ez=false->¬mU (az B ps) r)))
    case first=>
     have d7:=zu.out 0;have JN:Hid (zD { iK r with B:=dI (az B ps) r }):=by
      have h3:=Yp.out;refine⟨?_,?_,?_,?_⟩
      ·show 0<=r.getD 0 0%256/\r.getD 0 0%256<256;omega
      ·show 0<=r.getD 0 0/256%256/\r.getD 0 0/256%256<256;omega
      ·show 0<=r.getD 0 0/65536%65536/\r.getD 0 0/65536%65536<65536;omega
      ·show 0<=wrap64 (r.getD 1 0)/\wrap64 (r.getD 1 0)<9223372036854775808;rw[h3,dM.out];omega
     by_cases ac:(iK r).K=2
     ·have ek:((iK r).K==2)=true:=beq_iff_eq.2 ac
      obtain⟨m,hm⟩:∃m:Nat,r1=(m:Int):=⟨r1.toNat,by omega⟩;have Uo:r1.toNat=m:=by omega
      rw[hm] at cS;obtain⟨F5,D5,bn⟩:=hh3 (K4 (HS.out.keep rX.out) uM.out (dI (az B ps) r) ui.out QD.out m (by omega)) (cM.out w6 (ay.refl _ _)) Uo;have cL:=λc hc z=>MO w3.heap.size c hc z
      obtain⟨i0,hi,bk,bK,bC⟩:=df Tryz.info_int;have Yq:=ar hi;clear hm Uo hi;have aC:=ar ac;generalize bV:(iK r).K=kk at cK ek;have CK:=ar bV;clear bV ac;go_wp2_with(with_reducible refine gL 73 D5.out ?_);refine F5.out.mono ?_;rintro e w7 ⟨v,E,ba,g,rfl,hE,hg,SK,Mb,xZ⟩;have bW:E.length<=24:=by
       cases ba
       ·rw[(Mb rfl).2];simp
       ·obtain⟨h1,h2⟩:=SK rfl
        rw[h2,qj];exact h1.1
      have Bo:bj E.length<=13:=by unfold bj;omega
      obtain⟨a,cap,rfl,dS,di,-⟩:=hE.open;have Gp:=Nn.out.keep xZ;have ej:w7.cell? ⟨w5.heap.size,17,none⟩=some (.slice none 0 0):=by rw[Gp.cell];exact Aa _ rfl
      have eA:w7.frozen? ⟨w5.heap.size,17,none⟩=false:=Gp.frozen 17;have Yr:=La (u:= .slice a E.length cap) (E:=E) Gp rfl;obtain⟨dR,cB⟩:=hh2 (bZ Yr rfl) (sP { iK r with E:=E } a cap rfl (by show E.length<=100000;omega));have ct:bD (w7.setCell ⟨w5.heap.size,17,none⟩ (.slice a E.length cap)) (.slice a E.length cap) g E:=hE.keep ((ay.refl [w5.heap.size] w7).setCell (p:=⟨w5.heap.size,17,none⟩) (by simp) _) (λ_=>by rw[au];omega);have rM:ay [w5.heap.size] w6 (w7.setCell ⟨w5.heap.size,17,none⟩ (.slice a E.length cap)):=(xZ.mono).setCell (.inl (by simp)) _;obtain⟨dE,PB,Qy,HG,MI,WU,JD⟩:=hh7 ct rM Yr hg SK Mb bW;have dc:=ar (bI.out.keep rM (by rw[au];omega));have d8:=cL (bj E.length) Bo;have dP:Hid (bj E.length<=13):=Bo;unfold maxLen at di;clear hE hg SK Mb xZ Gp Yr ct rM cL bW Bo F5 D5;have dQ:Hid (∀z,Calls prog 179 #[.agg (aL { iK r with E:=E } (.slice a E.length cap))] z λe w'=>e=((bj E.length:Nat):Int)/\ay [] z w'):=cB.out;have cE:Hid (E.length=E.length):=rfl;clear cB cE;go_wp2_with(with_reducible refine gL 75 dR.out ?_);refine Rr (dQ.out _) λw9 IK=> ?_;obtain⟨dz,cI,X7,aY⟩:=hh4 (dc.out.keep IK) (dE.out.keep IK) (Qy.out.keep IK) (PB.out.trans IK);clear IK;generalize bR:bj E.length=c at *;have UR:=ar bR;clear bR;have Gq:=dP.out;have hi:=Yq.out;go_wp2_with(at_builtin;refine eO _ rfl _ _ 76 rfl w9.heap.size 3 i0 (.int .i64 0) 1 8 underlying76 hi bk bK bC rfl (by decide) (.slice none 0 0) 0 [] rfl ⟨rfl,.inl ⟨rfl,rfl⟩⟩ ⟨w3.heap.size,0,none⟩ c 13 (zs ((dI (az B ps) r).take c)) rfl ?c1 ?c2 (nt _) (by unfold maxLen;omega) (by omega) (aI _) ?_);case c1=>rw[eT,aJ,ui.out];omega
      case c2=>
       intro j u hu;rw[add_plain,bp,dz.out.cell,aG];have hj:j<c:=by
        have :=(List.getElem?_eq_some_iff.1 hu).1;rw[eT,aJ] at this;omega
       rw[gI (by rw[ui.out];omega)];rw[gI (by rw[aJ,ui.out];omega)] at hu;rw[<-hu];simp[hj]
      intro v' WX aa V _;have Gr:ay [] w9 WX:=ay.of_grown V (by simp[Value.ownBlock]);have cG:g<w9.heap.size\/E.length=0:=by
       obtain⟨a2,c2,-,-,-,h4⟩:=cI.out;by_cases h0:E.length=0
       ·exact .inr h0
       ·exact .inl (h4 h0).1
      have QE:Hid (∃(n:bS) (v:Value) (g:Nat) (own:List Nat) (Ez:Bool) (G:Nat),Value.bool ba= .bool Ez/\Hid (WX.ownsRow G 3 1 v' own.length (dJ own)/\w6.heap.size<=G/\G<=WX.heap.size/\(n.E.length≠0->g<G)/\w.heap.size<g/\own.length<=13/\bc WX w5.heap.size (aL n v) 75/\n.B.length=13/\bD WX v g n.E/\v.oneCell'=true/\zD n/\(∀k,k<n.E.length->(eY n.E k).size<=9223372036854775807)/\ay [w5.heap.size] w6 WX/\
       (Ez=true->n=nY (az B ps) r/\own=(if (iK r).K=2 then ((dI (az B ps) r).take (bj r1.toNat)).map Int.toNat else [])/\((iK r).K=2->pq (az B ps) (dI (az B ps) r) r1.toNat))/\(Ez=false->¬mU (az B ps) r))):=by
       have cH:(((dI (az B ps) r).take c).map Int.toNat).length=c:=by rw[b7,aJ,ui.out];omega
       have dF:dJ (((dI (az B ps) r).take c).map Int.toNat)=zs ((dI (az B ps) r).take c):=aeb λk=>by
        by_cases U:k<c
        ·have :=(QD.out k).1
         simp only[aj,bU,aB U] at this ⊢;exact this
        ·rw[aj,bU,aA U]
         simp
       refine⟨{ iK r with E:=E },.slice a E.length cap,g,((dI (az B ps) r).take c).map Int.toNat,ba,w9.heap.size,rfl,?_,aY.out.size,Gr.size,λh=>cG.resolve_right h,by have :=HG.out;have :=rX.out.size;omega,by rw[cH];exact Gq,X7.out.keep Gr,rfl,cI.out.keep Gr,rfl,⟨JN.out.f,JN.out.k,JN.out.l,JN.out.s⟩,?_,aY.out.trans Gr,λh=> ?_,λh hr=> ?_⟩
       ·rw[cH,dF]
        exact aa
       ·intro k U
        cases aQ:ba
        ·have h2:=(WU.out aQ).2
         have av:k<E.length:=U;rw[h2] at av;simp at av
        ·have h2:=(MI.out aQ).2
         have av:k<E.length:=U;show(eY E k).size<=_;rw[h2,qj] at av;rw[h2,(Cz _ _ _ _ av).1];have :=CA (Bd (az B ps) (dI (az B ps) r) k);omega
       ·obtain⟨h1,h2⟩:=MI.out h
        rw[bn.out];refine⟨?_,?_,λ_=>h1⟩
        ·unfold nY
         rw[aB aC.out,Yp.out,bn.out,<-h2]
        ·rw[aB aC.out,<-UR.out,h2,qj]
       ·have h2:=hr.2.2.1 aC.out
        rw[Yp.out,bn.out] at h2;exact(WU.out h).1 h2
      clear aa V Gr cG hi;go_wp2_with fail;go_meet;case rel=>exact QE.out
     ·have ek:((iK r).K==2)=false:=cg.2 ac
      obtain⟨w7,cN,Gp,xZ⟩:=SG (l:=dI (az B ps) r) Nn.out rfl ui.out;obtain⟨D5,cZ⟩:=hh2 (cM.out w6 (ay.refl _ _)) cN;have QE:Hid (∃(n:bS) (v:Value) (g:Nat) (own:List Nat) (Ez:Bool) (G:Nat),Value.bool true= .bool Ez/\Hid (w7.ownsRow G 3 1 (.slice none 0 0) own.length (dJ own)/\w6.heap.size<=G/\G<=w7.heap.size/\(n.E.length≠0->g<G)/\w.heap.size<g/\own.length<=13/\bc w7 w5.heap.size (aL n v) 75/\n.B.length=13/\bD w7 v g n.E/\v.oneCell'=true/\zD n/\(∀k,k<n.E.length->(eY n.E k).size<=9223372036854775807)/\ay [w5.heap.size] w6 w7/\
       (Ez=true->n=nY (az B ps) r/\own=(if (iK r).K=2 then ((dI (az B ps) r).take (bj r1.toNat)).map Int.toNat else [])/\((iK r).K=2->pq (az B ps) (dI (az B ps) r) r1.toNat))/\(Ez=false->¬mU (az B ps) r))):=by
       refine⟨{ iK r with B:=dI (az B ps) r },.slice none 0 0,w6.heap.size,[],true,w6.heap.size,rfl,⟨rfl,.inl ⟨rfl,rfl⟩⟩,aI _,xZ.size,λh=>absurd rfl h,by omega,by simp,Gp,ui.out,bD.nil _ _,rfl,JN.out,λk U=>absurd U (by show ¬k<0;omega),xZ,λ_=>⟨?_,by rw[aA ac],λh=>absurd h ac⟩,λh=>(by cases h)⟩;unfold nY;rw[aA ac]
      clear cN Gp xZ;generalize (zs (dI (az B ps) r)).toArray=cV,(iK r).K=kk at *;go_wp2_with(with_reducible first|refine gL 73 D5.out ?_|refine gS 73 cZ.out ?_);go_meet;case rel=>exact QE.out
    case rest=>
     obtain⟨n,v,g,own,Ez,G,rfl,HC⟩:=hcut;obtain⟨bf,ei,dU,dh,dB,rQ,DL,Yt,hE,ck,cf,bP,af,UO,UQ⟩:=HC.out;obtain⟨i0,hi,bk,bK,bC⟩:=df Tryz.info_int;have Yq:=ar hi;have cz:=zu.out 7;rw[aR.out] at cz;have eu:W<256:=by have :=IJ.out.1;rw[aR.out] at this;exact this
     obtain⟨Be,HE,aC,bJ,dw,dg,dL⟩:=hh7 DL hE af bf ck cf bP;obtain⟨cd,cX,Pz⟩:=hh3 UO UQ Yt;clear HC bf DL hE af UO UQ hi ck cf bP Yt
     go_upto_if 63 with fail
     go_cut [12] (λs12 z=>∃(ga:Nat),Hid (lQ z s12 ga (own++(if W=0 then [] else [W.toNat]))/\w.heap.size<ga/\bc z w5.heap.size (aL n v) 75/\bD z v g n.E/\ay [w5.heap.size] w6 z))
     case first=>
      by_cases aV:W=0
      ·have e0:(W != 0)=false:=by rw[aV];rfl
       have QE:Hid (∃(ga:Nat),Hid (lQ wc u12 ga (own++(if W=0 then [] else [W.toNat]))/\w.heap.size<ga/\bc wc w5.heap.size (aL n v) 75/\bD wc v g n.E/\ay [w5.heap.size] w6 wc)):=by
        obtain⟨ga,ho,xe⟩:=lQ.of_row bJ.out;rw[aB aV,bz];exact⟨ga,ho,by have :=rX.out.size;omega,Be.out,HE.out,aC.out⟩
       go_wp2_with fail;go_meet;case rel=>exact QE.out
      ·have e0:(W != 0)=true:=bne_iff_ne.2 aV
       have hi:=Yq.out;go_wp2_with(at_builtin;refine eO _ rfl _ _ 76 rfl G 3 i0 (.int .i64 0) 1 8 underlying76 hi bk bK bC rfl (by decide) u12 own.length (dJ own) rfl (bJ.out.alloc _) ⟨wc.heap.size,0,none⟩ 1 1 [.int .i64 W] rfl rfl ?c1 ?c2 (by unfold maxLen;omega) (by omega) (by simp;omega) ?_);case c1=>exact lu _ [_] _ _ rfl
       case c2=>simp[Value.oneCell']
       intro v' w8 aa V cW;have QE:Hid (∃(ga:Nat),Hid (lQ w8 v' ga (own++(if W=0 then [] else [W.toNat]))/\w.heap.size<ga/\bc w8 w5.heap.size (aL n v) 75/\bD w8 v g n.E/\ay [w5.heap.size] w6 w8)):=by
        have e1:dJ (own++[W.toNat])=dJ own++[.int .i64 W]:=by
         rw[uh]
         congr 1
         simp[dJ];omega
        have aD:=aa;rw[<-e1,show own.length+1=(own++[W.toNat]).length by simp] at aD;obtain⟨ga,ho,xe⟩:=lQ.of_row aD;rw[aA aV];have aN:∀k,u12.ownBlock=some k->G<=k:=dO bJ.out;have tV:ay [w5.heap.size] w6 w8:=(aC.out.alloc (.cells #[W] 3)).trans (ay.of_grown (l:=(u12.ownBlock).toList) V (λk U=> .inl (by rw[U];simp))) (λx J=> .inr (by
         cases hub:u12.ownBlock with
         |none=>rw[hub] at J;simp at J
         |some y=>
          rw[hub] at J;simp at J;have :=aN y hub;omega))
        refine⟨ga,ho,by have :=rX.out.size;omega,?_,?_,tV⟩
        ·exact(V.block _ (Be.out.alloc _).lt (λe=>by have :=aN _ e.symm;omega)).trans (Be.out.alloc _)
        ·refine(HE.out.keep ((ay.refl [] wc).alloc _)).keep (ay.of_grown (l:=(u12.ownBlock).toList) V (λk U=> .inl (by rw[U];simp))) λh0 hm=> ?_
         cases hub:u12.ownBlock with
         |none=>rw[hub] at hm;simp at hm
         |some y=>
          rw[hub] at hm;simp at hm;have :=aN y hub;have :=dh h0;omega
       clear aa V cW hi;go_wp2_with fail;go_meet;case rel=>exact QE.out
     case rest=>
      obtain⟨ga,HD⟩:=hcut;obtain⟨BV,xe,DL,hE,af⟩:=HD.out;have eB:w.heap.size<w5.heap.size:=by omega
      have cF:=ar (bt.out.keep af (by rw[au];omega));have cT:Hid (ay [] w wc):=rX.out.trans af (by intro x J;rw[au] at J;omega);have cR:=dK.out.keep af (by rw[au];omega);have cw:=bI.out.keep af (by rw[au];omega);have dH:Hid (∀z,ay [] wc z->(loadVar 3 w5.heap.size).run prog z= .ok (.int .i64 n.F) z):=λz U=>FL (off:=0) underlying3 (DL.keep U) rfl
      have Ih:Hid (∀z,ay [] wc z->(loadVar 75 w5.heap.size).run prog z= .ok (.agg (aL n v)) z):=λz U=>bZ (DL.keep U) Pz.out
      have dm:Hid (∀z,ay [] wc z->(loadVar 73 w3.heap.size).run prog z= .ok (.agg (zs (dI (az B ps) r)).toArray) z):=λz U=>
       fy (off:=0) (cw.keep U) ui.out (λk U=>by rw[bp,aG,gI (by rw[ui.out];exact U)])
      have dn:Hid (∀z,ay [] wc z->(loadVar 132 w1.heap.size).run prog z= .ok (.agg (aX r).toArray) z):=λz U=>fN (cR.keep U) BU.out
      have xX:Hid (∀z,ay [] wc z->Calls prog 101 #[aL n v] z λe w'=>e=(decide (cm n))/\ay [] z w'):=λz U=>nX n v g Pz.out z (hE.keep U) dL.out
      have MT:Hid (∀z,Calls prog 180 #[aL n v,(zs (dI (az B ps) r)).toArray,W] z λe w'=>e=(aX (ic n (dI (az B ps) r) W)).toArray/\ay [] z w'):=λz=>
       DU n v Pz.out dg.out _ ui.out (λk=>by have :=QD.out k;omega) W ⟨cz.1,by omega⟩ z
      have cC:(ic n (dI (az B ps) r) W).length=8:=by simp[ic,ui.out]
      have bu:=ar (λz=>ML (a:=ic n (dI (az B ps) r) W) (b:=r) cC BU.out z);have dW:=xK;have Yu:Hid (Ez=true->(mU (az B ps) r↔n.F=1/\cm n/\ic n (dI (az B ps) r) W=r)):=λh=>by
       obtain⟨h1,-,h3⟩:=cd.out h;have hF:n.F=(iK r).F:=by
        rw[h1];unfold nY;split<;>rfl
       unfold mU;rw[<-h1,hF,aR.out,Yp.out];exact⟨λh=>h.2.2.2,λh=>⟨IJ.out,by omega,h3,h⟩⟩
      have mi:Hid (∀z,ay [] wc z->Ez=true->mU (az B ps) r->∃w',(storeVar 75 w.heap.size (.agg (aL n v))).run prog z= .ok () w'/\(loadVar 75 w.heap.size).run prog w'= .ok (.agg (aL n v)) w'/\mB w (az B ps) i (.returned (.tuple #[aL n v,u12,true])) w'):=λz U aQ bh=>by
       obtain⟨w',h1,h2,h3⟩:=bE (P:= prog) (ty:= 75) (cs:=mQ n v) (by rw[gJ,Pz.out];exact iV) (cF.out.keep U) (by have hz:=ax.out;rw[<-hz,gJ,Pz.out];rfl) (kR dw.out);obtain⟨e1,e2,-⟩:=cd.out aQ;have av:ay [] w w':=(cT.out.trans' U).trans h3 (by intro x J;rw[au] at J;omega);refine⟨w',h1,bZ h2 Pz.out,n,v,g,own++(if W=0 then [] else [W.toNat]),u12,ga,true,rfl,Pz.out,?_,Nat.le_of_lt dB,?_,Nat.le_of_lt xe,λ_=>⟨dt.out,?_,?_,?_⟩,λh=>(by cases h),av⟩
       ·refine(hE.keep U).keep h3 λh0=> ?_
        rw[au];omega
       ·refine(BV.keep U).keep h3 ?_
        rw[au];omega
       ·rw[<-HR.out];exact bh
       ·rw[<-HR.out];exact e1
       ·rw[<-HR.out,e2]
        unfold EG;rw[aR.out,Yp.out]
      clear HD BV xe DL hE af cR cw cC;obtain⟨tR,bv⟩:∃t,decide (cm n)=t:=⟨_,rfl⟩;rw[bv] at xX;obtain⟨tW,br⟩:∃t,decide (ic n (dI (az B ps) r) W=r)=t:=⟨_,rfl⟩;rw[br] at bu;have dZ:=bu.out;obtain⟨cr,XY⟩:=hh2 bv br;clear bv br bu;generalize (aX (ic n (dI (az B ps) r) W)).toArray=ZW,(zs (dI (az B ps) r)).toArray=ZA,(aX r).toArray=ZR,aL n v=ZN,hf:n.F=f at *;have Np:=ar hf;clear hf;have dD:Hid (¬(Ez=true/\f=1/\tR=true/\tW=true)->¬((0<=i/\i<32)/\mU (az B ps) (fS (az B ps) i))):=λh=>jT.out λhr=>by
       cases aes:Ez
       ·exact cX.out aes hr
       ·obtain⟨h1,h2,h3⟩:=(Yu.out aes).1 hr
        refine h ⟨aes,h1,?_,?_⟩
        ·rw[<-cr.out];exact bq h2
        ·rw[<-XY.out];exact bq h3
      have dA:((Ez=true/\tR=true/\tW=true)/\f=1)\/Ez=false\/(Ez=true/\(f != 1)=true)\/((Ez=true/\tR=false)/\f=1)\/(Ez=true/\tR=true/\tW=false)/\f=1:=by cases Ez<;>cases tR<;>cases tW<;>by_cases h:f=1<;>simp[h]
      rcases dA with ⟨⟨rfl,rfl,rfl⟩,rfl⟩|rfl|⟨rfl,bF⟩|⟨⟨rfl,rfl⟩,rfl⟩|⟨⟨rfl,rfl,rfl⟩,rfl⟩
      have cY:Hid (mU (az B ps) r):=(Yu.out rfl).2 ⟨rfl,of_decide_eq_true cr.out,of_decide_eq_true XY.out⟩;all_goals
       go_wp2_with fail;refine iW (S:=λz=>ay [] wc z) ((ay.refl _ _).drew) ?_;repeat ((first
        |(refine aS.cons _ (bG.load rfl 3 (.tmp 71) rfl _ rfl λz J=>dH.out z J) ?_)
        |(refine aS.cons (.agg ZN) (bG.load rfl 75 (.tmp 8) rfl _ rfl λz J=>Ih.out z J) ?_)
        |(refine aS.cons (.agg ZA) (bG.load rfl 73 (.tmp 9) rfl _ rfl λz J=>dm.out z J) ?_)
        |(refine aS.cons (.agg ZR) (bG.load rfl 132 (.tmp 7) rfl _ rfl λz J=>dn.out z J) ?_)
        |(refine aS.cons (.bool true) (bG.call rfl 101 #[ZN] ?he ?h) ?_;(case he=>(intro wz;go_simp));(case h=>exact λz J=>(xX.out z J).mono λe w' he=>⟨he.1,J.trans' he.2⟩))
        |(refine aS.cons (.bool false) (bG.call rfl 101 #[ZN] ?he ?h) ?_;(case he=>(intro wz;go_simp));(case h=>exact λz J=>(xX.out z J).mono λe w' he=>⟨he.1,J.trans' he.2⟩))
        |(refine aS.cons (.agg ZW) (bG.call rfl 180 #[ZN,ZA,W] ?he ?h) ?_;(case he=>(intro wz;go_simp));(case h=>exact λz J=>(MT.out z).mono λe w' he=>⟨he.1,J.trans' he.2⟩))
        |(refine aS.cons undef (bG.off rfl) ?_)
        |(refine aS.cons (.bool true) (bG.val rfl ?h) ?_;(case h=>(intro z J;clear J;first|(go_simp;done)|(go_simp;simp;done)|(go_simp;simp[bF];done))))
        |(refine aS.cons (.bool false) (bG.val rfl ?h) ?_;(case h=>(intro z J;clear J;first|(go_simp;done)|(go_simp;simp;done)|(go_simp;simp[bF];done))))
        |(refine aS.cons ?_ (bG.val rfl ?h) ?_;(case h=>(intro z J;clear J;go_simp;rfl))));simp only[Act.put,ag,ah,ai])
       refine aS.done λwz J=> ?_
       have ED:=ar J;clear J
      ·obtain⟨w9,Yv,Yw,aF⟩:=mi.out wz ED.out trivial cY.out
       obtain⟨bg,bH,dN,dv⟩:=hh4 Yv Yw aF (Ih.out wz ED.out);clear Yv Yw aF;go_wp2_with(with_reducible first|refine gL 75 dv.out ?_|refine gS 75 bg.out ?_);exact aH (cJ results149 rfl bH.out rfl rfl) rfl dN.out
      all_goals
       have HN:=ar (dD.out λh=>by first|(simp at h;done)|simp[h.2.1] at bF);obtain⟨w9,Yv,Yw,IK⟩:=lJ.out wz (cF.out.keep ED.out);obtain⟨bg,bH,aY⟩:=hh3 Yv Yw ((cT.out.trans' ED.out).trans IK (by intro x J;rw[au] at J;omega));clear Yv Yw IK;go_wp2_with(with_reducible refine gS 75 bg.out ?_);refine aH (cJ results149 rfl bH.out rfl rfl) rfl ?_;have :=mB.no HN.out aY.out;rw[ax.out] at this;exact this
def ownRow (n:bS) (own:List Nat) (m:Nat):List Int:=if m<bj n.E.length then jf n.E m else (dY n own).drop 5
structure Gs (X:List Int) (q:Nat) (n:bS) (own:List Nat):Prop where
 row:eu X q=ic n (dY n own) ((fp n own:Nat):Int)
 own:∀m,m<own.length->eu X (1080+8*own.getD m 0)=ownRow n own m
theorem jA{l:List Nat}(h:k<l.length):l.getD k 0∈l:=by
 rw[aj,aD h];exact bM _
theorem getD_inj{l:List Nat}(W:l.Nodup){j k:Nat}(G:j<l.length)(J:k<l.length)(h:l.getD j 0=l.getD k 0):j=k:=by
 rw[aj,aj,aD G,aD J] at h;have U:=dh.1 W;rcases Nat.lt_trichotomy j k with z|V|z
 ·exact absurd h (U j k G J z)
 ·exact V
 ·exact absurd h.symm (U k j J G z)
theorem Yx (z:X.length=3128)(p:Nat)(l:List Int)(j:Nat):∀k,p+k<=3128->(az X (jM p l k)).getD j 0=if p<=j/\j<p+k then l.getD (j-p) 0 else X.getD j 0:=by
 intro k;induction k with
 |zero=>intro _;rw[aA];rfl
 |succ k ih=>
  intro G;rw[Ad,br,oh,aF,AP,cy,z,ih (by omega)];by_cases e:p+k=j
  ·subst e
   rw[aB ⟨rfl,by omega⟩,aB ⟨by omega,by omega⟩,dS]
  ·rw[aA]
   by_cases h:p<=j/\j<p+k
   ·rw[aB h,aB ⟨h.1,by omega⟩]
   ·rw[aA h,aA]
theorem SL (z:X.length=3128)(p:Nat)(h:p+8<=3128)(l:List Int)(j:Nat):(az X (jM p l 8)).getD j 0=if p<=j/\j<p+8 then l.getD (j-p) 0 else X.getD j 0:=Yx z p l j 8 h
theorem Nq{p:Nat}(G:l.length=8)(h:∀j,j<8->X.getD (p+j) 0=l.getD j 0):eu X p=l:=
 DJ (by rw[iy,G]) λk z=>by
  rw[iy] at z;rw[kx _ _ _ z,h k z]
theorem qO (z:X.length=3128)(p:Nat)(h:p+8<=3128){l:List Int}(G:l.length=8):eu (az X (jM p l 8)) p=l:=
 Nq G λj J=>by rw[SL z p h,aB ⟨by omega,by omega⟩,dS]
theorem qP (U:X.length=3128)(p z:Nat)(G:p+8<=3128){l:List Int}(h:z+8<=p\/p+8<=z):eu (az X (jM p l 8)) z=eu X z:=
 Nq (iy _ _) λj J=>by rw[SL U p G,aA,kx _ _ _ J]
theorem QF (h:l.length=13)(x:Int):(ic n l x).length=8:=by simp[ic,h]
theorem sk (z:bj n.E.length<=own.length){k:Nat}(h:k<bj n.E.length):(dY n own).getD k 0=((own.getD k 0:Nat):Int):=by rw[uZ z,aB h]
theorem Nr (G:X.length=3128){n:bS}{own:List Nat}(ho:bj n.E.length<=own.length)(J:own.Nodup)(z:∀c∈own,c≠0/\c<256):∀k,k<=bj n.E.length->∀m,m<k->eu (az X (sW n.E (dY n own) k)) (1080+8*own.getD m 0)=jf n.E m:=by
 intro k;induction k with
 |zero=>intro _ m z;omega
 |succ k ih=>
  intro hk m W;have V:=z _ (jA (show k<own.length by omega));have U:=z _ (jA (show m<own.length by omega));rw[Af,br,sk ho (by omega),aF];by_cases e:m=k
  ·subst e
   exact qO (by rw[cy,G]) _ (by omega) (mL _ _ _)
  ·have :own.getD m 0≠own.getD k 0:=λh=>e (getD_inj J (by omega) (by omega) h)
   rw[qP (by rw[cy,G]) _ _ (by omega) (by omega)];exact ih (by omega) m (by omega)
theorem Yy (G:X.length=3128)(i:Nat)(hi:i<32){n:bS}{own:List Nat}(hB:n.B.length=13)(hc:bj n.E.length<=6)(ho:bj n.E.length<=own.length)(Mb:own.length<=bj n.E.length+1)(W:own.Nodup)(V:∀c∈own,c≠0/\c<256):
  Gs (az X (wu i n own)) (824+8*i) n own:=by
 have J:=uY hB (by omega) ho;unfold wu;rw[br,br];refine⟨qO (by rw[cy,cy,G]) _ (by omega) (QF J _),λm U=> ?_⟩;have ac:=V _ (jA U);rw[qP (by rw[cy,cy,G]) _ _ (by omega) (by omega)];unfold ownRow ql;by_cases z:m<bj n.E.length
 ·rw[aB z]
  split
  ·rename_i hlt
   have aa:=V _ (jA hlt);have :own.getD m 0≠own.getD (bj n.E.length) 0:=λh=>by have :=getD_inj W U hlt h;omega
   have uR:fp n own=own.getD (bj n.E.length) 0:=by unfold fp;rw[aB hlt]
   rw[uR,qP (by rw[cy,G]) _ _ (by omega) (by omega)];exact Nr G ho W V _ (aI _) m z
  ·exact Nr G ho W V _ (aI _) m z
 ·obtain rfl:m=bj n.E.length:=by omega
  rw[aA z,aB U];have uR:fp n own=own.getD (bj n.E.length) 0:=by unfold fp;rw[aB U]
  rw[uR];exact qO (by rw[cy,G]) _ (by omega) (by rw[bV,J])
theorem Gt:∀(l:List Nat) (X:List Int),(∀c∈l,c≠0/\c<256)->p∈dt X l->(816<=p.1.toNat/\p.1.toNat<820)\/(1080<=p.1.toNat/\(p.1.toNat-1080)/8∈l):=by
 intro l;induction l with
 |nil=>intro X _ h;simp[dt] at h
 |cons b l ih=>
  intro X G h;obtain⟨W,U⟩:=G b (by simp);have z:p∈(eK X b true++gX b)++dt (az X (eK X b true++gX b)) l:=h;rw[aR,aR] at z;rcases z with(z|z)|z
  ·left
   unfold eK at z;rw[aA,au] at z;subst z;show 816<=Int.toNat ((_:Nat):Int)/\Int.toNat ((_:Nat):Int)<820;rw[aF];omega
  ·right
   obtain⟨j,V,rfl⟩:=xG z;show 1080<=Int.toNat ((_:Nat):Int)/\(Int.toNat ((_:Nat):Int)-1080)/8∈_;rw[aF];refine⟨by omega,?_⟩;rw[show(1080+b*8+j-1080)/8=b by omega];simp
  ·rcases ih _ (λc J=>G c (by simp[J])) z with z|z
   ·exact .inl z
   ·exact .inr ⟨z.1,by simp[z.2]⟩
theorem lU (h:p∈jM q l k):∃j,j<k/\p.1.toNat=q+j/\p.2=l.getD j 0:=by
 unfold jM at h;obtain⟨j,z,rfl⟩:=bH.1 h;exact⟨j,by simpa using z,aF _,rfl⟩
theorem sX (W:bj n.E.length<=own.length)(h:p∈wu i n own):(1080<=p.1.toNat/\(p.1.toNat-1080)/8∈own/\∃m j,j<8/\p.2=(ownRow n own m).getD j 0)\/(824+8*i<=p.1.toNat/\p.1.toNat<832+8*i/\∃j,j<8/\p.2=(ic n (dY n own) ((fp n own:Nat):Int)).getD j 0):=by
 unfold wu at h;rw[aR,aR] at h;rcases h with h|h|h
 ·left
  unfold sW at h;obtain⟨k,U,h⟩:=List.mem_flatMap.1 h;rw[cu] at U;obtain⟨j,G,z,J⟩:=lU h;rw[sk W U,aF] at z;refine⟨by omega,?_,k,j,G,by rw[J,ownRow,aB U]⟩;rw[z,show(1080+8*own.getD k 0+j-1080)/8=own.getD k 0 by omega];exact jA (by omega)
 ·left
  unfold ql at h;split at h
  ·rename_i hlt
   obtain⟨j,G,z,J⟩:=lU h;have V:fp n own=own.getD (bj n.E.length) 0:=by unfold fp;rw[aB hlt]
   rw[V] at z;refine⟨by omega,?_,bj n.E.length,j,G,by rw[J,ownRow,aA (Nat.lt_irrefl _)]⟩;rw[z,show(1080+8*own.getD (bj n.E.length) 0+j-1080)/8=own.getD (bj n.E.length) 0 by omega];exact jA hlt
  ·simp at h
 ·right
  obtain⟨j,G,z,J⟩:=lU h;exact⟨by omega,by omega,j,G,J⟩
theorem UT (U:bj n.E.length<=own.length)(W:∀c∈own,c≠0/\c<256){k:Nat}(hk:820<=k)(J:¬(1080<=k/\(k-1080)/8∈own))(V:¬(824+8*i<=k/\k<832+8*i)):(az X (pD X i n own)).getD k 0=X.getD k 0:=by
 refine dX _ _ _ λp z G=> ?_
 unfold pD at z;rw[aR] at z;rcases z with z|z
 ·rcases Gt _ _ W z with h|h
  ·omega
  ·rw[G] at h;exact J h
 ·rcases sX U z with h|h
  ·rw[G] at h;exact J ⟨h.1,h.2.1⟩
  ·rw[G] at h;exact V ⟨h.1,h.2.1⟩
theorem Ns (s:ByteArray):kS (bl s)<18446744073709551616:=by
 unfold kS;split
 ·rename_i h
  exact Xc (oz h).2 (A9 s)
 ·omega
theorem UU (z:∀k,k<E.length->0<=jq E k/\jq E k<18446744073709551616)(k j:Nat):0<=(jf E k).getD j 0/\(jf E k).getD j 0<18446744073709551616:=by
 by_cases h:j<8
 ·unfold jf
  rw[qg _ _ _ _ h];split
  ·unfold KX
   split
   ·have :=Ns (eY E (4*k+j/2));omega
   ·exact z _ (by omega)
  ·omega
 ·rw[aj,aZ (by rw[jf,mL];omega)]
  simp
theorem aev (U:In64 X)(hX:X.length=3128){i:Nat}{n:bS}{own:List Nat}(hB:n.B.length=13)(W:cm n)(G:bj n.E.length<=own.length)(V:∀c∈own,c≠0/\c<256):In64 (az X (pD X i n own)):=by
 have aa:=jJ W;have z:=uY (own:=own) hB (by omega) G;have wq:=CG W hB G V;have hT:=uj W;unfold pD;rw[br];refine(nH own X U hX V).1.put λp hp=> ?_
 rcases sX G hp with ⟨-,-,m,j,J,h⟩|⟨-,-,j,J,h⟩
 ·rw[h]
  unfold ownRow;split
  ·refine UU (λk hk=> ?_) m j
   have :=((aa.2.2 (by omega)).2.2.2.2 k hk).2.1;omega
  ·rw[aj,cj,<-aj]
   have :=wq (5+j);omega
 ·rw[h]
  unfold ic;have uR:fp n own<256:=by
   unfold fp;split
   ·exact(V _ (jA (by assumption))).2
   ·omega
  obtain⟨t1,t2,t3,t4⟩:=hT
  match j,J with
  |0,_=>show 0<=oX n/\oX n<_;unfold oX;omega
  |1,_=>show 0<=n.S/\n.S<_;omega
  |j+2,J=>
   show 0<=((dY n own).take 5++[((fp n own:Nat):Int)]).getD j 0/\((dY n own).take 5++[((fp n own:Nat):Int)]).getD j 0<_;rw[aj,jb];split
   ·rename_i h5
    rw[aJ,z] at h5;rw[bU,aB,<-aj];have :=wq j;omega
   ·rename_i h5
    rw[aJ,z] at h5;rw[aJ,z,show j-min 5 13=0 by omega];show 0<=((fp n own:Nat):Int)/\((fp n own:Nat):Int)<_;omega
theorem Nt (U:cm n)(l:List Int)(x:Int):iK (ic n l x)=⟨n.F,n.K,n.L,n.S,List.replicate 13 0,[]⟩:=by
 obtain⟨hF,W,z⟩:=U;have V:n.K=1\/n.K=2:=z.imp (·.1) (·.1);have hS:0<=n.S/\n.S<=832:=by
  rcases z with ⟨_,h⟩|⟨_,h⟩
  ·exact h.1
  ·have h1:=h.1
   have h2:=h.2.1;omega
 have G:(ic n l x).getD 0 0=n.F+256*n.K+65536*n.L:=rfl;have J:(ic n l x).getD 1 0=n.S:=rfl;unfold iK;rw[G,J,show(n.F+256*n.K+65536*n.L)%256=n.F by omega,show(n.F+256*n.K+65536*n.L)/256%256=n.K by omega,show(n.F+256*n.K+65536*n.L)/65536%65536=n.L by omega,show wrap64 n.S=n.S by unfold wrap64;omega]
theorem Yz (h:l.length=13)(x:Int):(ic n l x).getD 7 0=x:=by
 show(l.take 5++[x]).getD 5 0=x;rw[aj,aT (by rw[aJ,h];omega),aJ,h];rfl
theorem YA (h:l.length=13)(x:Int):((ic n l x).drop 2).take 5=l.take 5:=by
 show(l.take 5++[x]).take 5=_;rw[fI (by rw[aJ,h];omega),List.take_take];rfl
theorem wD (n:bS):bj n.E.length<=eV n/\eV n<=bj n.E.length+1:=by unfold eV;split<;>omega
theorem UW (z:c<=own.length)(G:own.length<=c+1):own.take c++(if c<own.length then [own.getD c 0] else [])=own:=by
 split
 ·rename_i h
  have :own.drop c=[own.getD c 0]:=by
   rw[kz h,dV (by omega),aj,aD h];rfl
  rw[<-this,dx]
 ·rw[bz,aW (by omega)]
theorem UX (h:bj n.E.length<=own.length):((dY n own).take (bj n.E.length)).map Int.toNat=own.take (bj n.E.length):=by
 unfold dY;rw[fI (by rw[b7,aJ];omega),aW (by rw[b7,aJ];omega),List.map_map]
 conv=>rhs;rw[<-List.map_id (List.take (bj n.E.length) own)]
 exact dL λa _=>aF a
theorem CM (hB:n.B.length=13)(hR:cm n)(hF:n.F=1)(ho:own.length=eV n)(hm:∀c∈own,c≠0/\c<256)(h:Gs X q n own):
  mU X (eu X q)/\nY X (eu X q)=n/\EG X (eu X q)=own:=by
 have ax:=jJ hR;have au:=wD n;have Ng:bj n.E.length<=own.length:=by omega
 have U:=uY (own:=own) hB (by omega) Ng;have wq:=CG hR hB Ng hm;have QG:=Nt hR (dY n own) ((fp n own:Nat):Int);have g1:(ic n (dY n own) ((fp n own:Nat):Int)).getD 1 0=n.S:=rfl;have g7:=Yz (n:=n) U ((fp n own:Nat):Int);have g5:=YA (n:=n) U ((fp n own:Nat):Int);have hK:n.K=1\/n.K=2:=hR.2.2.imp (·.1) (·.1);have YB:n.K=1->n.E=[]/\bj n.E.length=0:=λz=>by
  rcases hR.2.2 with h|h
  ·have :=h.2.2.1
   exact⟨List.length_eq_zero_iff.1 this,by unfold bj;omega⟩
  ·have :=h.1;omega
 have Nu:n.K=2->oW n:=λz=>by
  rcases hR.2.2 with h|h
  ·have :=h.1;omega
  ·exact h.2
 have av:fp n own<256:=by
  unfold fp;split
  ·exact(hm _ (jA (by assumption))).2
  ·omega
 -- the list, or none
 have J:(bj n.E.length<own.length/\fp n own=own.getD (bj n.E.length) 0/\fp n own≠0/\(dY n own).drop 5≠List.replicate 8 0)\/(bj n.E.length=own.length/\fp n own=0/\(dY n own).drop 5=List.replicate 8 0):=by
  by_cases hc:bj n.E.length<own.length
  ·left
   have W:fp n own=own.getD (bj n.E.length) 0:=by unfold fp;rw[aB hc]
   refine⟨hc,W,by rw[W];exact(hm _ (jA hc)).1,λhz=> ?_⟩;have h5:5<bj n.E.length\/n.B.drop 5≠List.replicate 8 0:=by
    rcases Classical.em (5<bj n.E.length\/n.B.drop 5≠List.replicate 8 0) with h|h
    ·exact h
    ·have :eV n=bj n.E.length:=by unfold eV;rw[aA h]
     omega
   by_cases h6:5<bj n.E.length
   ·have e:=sk Ng h6
    have e2:((dY n own).drop 5).getD 0 0=(0:Int):=by rw[hz];rfl
    rw[aj,cj,<-aj,e] at e2;have :=(hm _ (jA (show 5<own.length by omega))).1;omega
   ·have h7:=h5.resolve_left h6
    rcases hK with z|z
    ·have af:=(YB z).2
     apply h7;rw[<-hz];unfold dY;rw[af];rfl
    ·apply h7
     rw[(Nu z).2.2.1];rfl
  ·right
   have ak:bj n.E.length=own.length:=by omega
   have W:fp n own=0:=by unfold fp;rw[aA hc]
   have h5:¬(5<bj n.E.length\/n.B.drop 5≠List.replicate 8 0):=λh=>by
    have :eV n=bj n.E.length+1:=by unfold eV;rw[aB h]
    omega
   have h6:n.B.drop 5=List.replicate 8 0:=Classical.not_not.1 λh=>h5 (.inr h)
   refine⟨ak,W,DJ (by rw[bV,U];rfl) λk z=> ?_⟩;rw[<-h6,aj,cj,<-aj,uZ Ng,aA,aj,aj,cj]
 have uC:dI X (ic n (dY n own) ((fp n own:Nat):Int))=dY n own:=by
  unfold dI;rw[g5,g7]
  conv=>rhs;rw[<-dx 5 (dY n own)]
  congr 1
  rcases J with ⟨hc,W,h0,-⟩|⟨hc,W,h0⟩
  ·rw[aA,aF,W,h.own _ hc,ownRow,aA (Nat.lt_irrefl _)]
  ·rw[aB,h0]
 have YC:n.K=2->n.S.toNat=n.E.length/\pq X (dY n own) n.E.length/\sQ X (dY n own) n.E.length=n.E:=λz=>by
  have hd:=Nu z;have aa:∀e,e<n.E.length->X.getD (xO (dY n own) e) 0=((kS (bl (eY n.E e)):Nat):Int)/\X.getD (xO (dY n own) e+1) 0=jq n.E e/\kD (kS (bl (eY n.E e)))=some (bl (eY n.E e)):=λe he=>by
   have ag:e/4<bj n.E.length:=by unfold bj;omega
   have V:=h.own (e/4) (by omega);rw[ownRow,aB ag] at V;have ae:xO (dY n own) e=1080+8*own.getD (e/4) 0+2*(e%4):=by unfold xO;rw[sk Ng ag,aF]
   have r0:(eu X (1080+8*own.getD (e/4) 0)).getD (2*(e%4)) 0=(jf n.E (e/4)).getD (2*(e%4)) 0:=by rw[V]
   have r1:(eu X (1080+8*own.getD (e/4) 0)).getD (2*(e%4)+1) 0=(jf n.E (e/4)).getD (2*(e%4)+1) 0:=by rw[V]
   rw[kx _ _ _ (by omega)] at r0 r1;unfold jf at r0 r1;rw[qg _ _ _ _ (by omega),aB,KX,aB,show 4*(e/4)+2*(e%4)/2=e by omega] at r0;rw[qg _ _ _ _ (by omega),aB,KX,aA,show 4*(e/4)+(2*(e%4)+1)/2=e by omega] at r1;have hg:=(hd.2.2.2 e he).1;refine⟨by rw[ae,r0],by rw[ae,Nat.add_assoc,r1],?_⟩;unfold kS;rw[aB hg];exact oC hg (A9 _)
  have hE:sQ X (dY n own) n.E.length=n.E:=XD (qj _ _ _) λe he=>by
   rw[qj] at he;obtain⟨h1,h2,h3⟩:=aa e he;obtain⟨e1,e2⟩:=Cz X (dY n own) n.E.length e he;rw[e1,e2];unfold Bd zt;rw[h1,h2,aF,h3];exact⟨ER _,rfl⟩
  refine⟨by rw[hd.2.1,aF],⟨hd.1,?_,λk z=> ?_⟩,hE⟩
  ·refine DJ (by rw[U,nI U (by omega)]) λk _=> ?_
   rw[qf U (by omega)];split
   ·rfl
   ·rw[uZ Ng,aA (by assumption),hd.2.2.1,aj,bB]
    split<;>rfl
  ·have ac:k<own.length:=by omega
   have FW:=hm _ (jA ac);refine⟨by rw[sk Ng z];omega,λj hj=> ?_,?_⟩
   ·obtain⟨h1,h2,h3⟩:=aa (4*k+j) (by omega)
    unfold Bd zt;rw[h1,h2,aF,h3];have :=(hd.2.2.2 (4*k+j) (by omega)).2.1;exact⟨rfl,by omega⟩
   ·rw[hE,sk Ng z,aF]
    have :=h.own k ac;rw[ownRow,aB z] at this;exact this.symm
 rw[h.row];have G:nY X (ic n (dY n own) ((fp n own:Nat):Int))=n:=by
  unfold nY;rw[uC,QG,g1];obtain⟨F,K,L,S,B,E⟩:=n;rcases hK with z|z
  ·have hb:=YB z
   rw[aA (show ¬K=2 by have :K=1:=z;omega)];show bS.mk F K L S _ []=bS.mk F K L S B E;have he:E=[]:=hb.1;have af:bj E.length=0:=hb.2;rw[he]
   congr 1
   unfold dY;have ar:bj ([]:List (ByteArray×Int)).length=0:=by decide
   show(own.take (bj ([]:List (ByteArray×Int)).length)).map _++B.drop (bj ([]:List (ByteArray×Int)).length)=B;rw[ar];rfl
  ·obtain⟨e1,e2,e3⟩:=YC z
   have ah:S.toNat=E.length:=e1;rw[aB (show K=2 from z)];show bS.mk F K L S (List.replicate 13 0) (sQ X _ S.toNat)=bS.mk F K L S B E;have hb:B=List.replicate 13 0:=(Nu z).2.2.1;rw[ah,hb]
   congr 1
   rw[<-hb];exact e3
 refine⟨⟨⟨by rw[g7];omega,λk _=>by rw[uC];exact(wq k).2,?_⟩,?_,λz=> ?_,by rw[QG];exact hF,by rw[G];exact hR,by rw[G,uC,g7]⟩,G,?_⟩
 ·rw[g7,uC]
  rcases J with ⟨_,_,_,h0⟩|⟨_,h0,_⟩
  ·exact .inr h0
  ·exact .inl (by omega)
 ·rw[g1]
  rcases hK with z|z
  ·rcases hR.2.2 with h|h
   ·exact h.2.1.2
   ·have :=h.1;omega
  ·have :=(Nu z).2.1;omega
 ·rw[QG] at z
  obtain⟨e1,e2,e3⟩:=YC z;rw[uC,g1,e1];exact e2
 ·unfold EG
  rw[uC,QG,g1,g7];have ai:(if ((fp n own:Nat):Int)=0 then [] else [((fp n own:Nat):Int).toNat])=if bj n.E.length<own.length then [own.getD (bj n.E.length) 0] else []:=by
   rcases J with ⟨hc,W,h0,-⟩|⟨hc,W,-⟩
   ·rw[aA,aB hc,aF,W]
   ·rw[aB,aA]
  rw[ai];have h1:(if (bS.mk n.F n.K n.L n.S (List.replicate 13 0) []).K=2 then ((dY n own).take (bj n.S.toNat)).map Int.toNat else [])=own.take (bj n.E.length):=by
   rcases hK with z|z
   ·rw[aA (show ¬n.K=2 by omega),(YB z).2]
    rfl
   ·rw[aB (show n.K=2 from z),(YC z).1,UX Ng]
  rw[h1];exact UW Ng (by omega)
theorem oM:∀a:List UInt8,Op.bytesLess a a=false
 | []=>rfl
 |a::x=>by
  have h:¬a<a:=by rw[gZ];omega
  simp[Op.bytesLess,oM x,h]
theorem sY:∀a b:List UInt8,Op.bytesLess a b=false->a≠b->Op.bytesLess b a=true
 | [],[],_,h=>absurd rfl h
 |_::_,[],_,_=>rfl
 | [],_::_,h,_=>by simp[Op.bytesLess] at h
 |a::x,b::y,h,hne=>by
  simp only[Op.bytesLess,Bool.or_eq_false_iff,Bool.and_eq_false_iff,decide_eq_false_iff_not,cg] at h;simp only[Op.bytesLess,Bool.or_eq_true,fF,decide_eq_true_eq,beq_iff_eq];by_cases e:a=b
  ·subst e
   refine .inr ⟨rfl,sY x y ?_ (λz=>hne (by rw[z]))⟩;exact h.2.resolve_left λJ=>J rfl
  ·left
   have G:=h.1;rw[gZ] at G ⊢;have :a.toNat≠b.toNat:=λh=>e (UInt8.toNat_inj.1 h)
   omega
theorem ot:∀a b c:List UInt8,Op.bytesLess a b=true->Op.bytesLess b c=true->Op.bytesLess a c=true
 |_,_,[],_,h=>by simp[Op.bytesLess] at h
 | [],_,_::_,_,_=>rfl
 |_::_,[],_::_,h,_=>by simp[Op.bytesLess] at h
 |a::x,b::y,c::z,J,G=>by
  simp only[Op.bytesLess,Bool.or_eq_true,fF,decide_eq_true_eq,beq_iff_eq] at J G ⊢;rw[gZ] at *;rcases J with J|⟨rfl,J⟩
  ·rcases G with G|⟨rfl,G⟩
   ·left;omega
   ·left;exact J
  ·rcases G with G|⟨rfl,G⟩
   ·left;exact G
   ·exact .inr ⟨rfl,ot x y z J G⟩
theorem Gu (h:∀k,k<E.length->0<k->leB (eY E k) (eY E (k-1))=false):∀k j,j<k->k<E.length->Op.bytesLess (eY E j).toList (eY E k).toList=true:=by
 intro k;induction k with
 |zero=>intro j J;omega
 |succ k ih=>
  intro j J U;have z:=h (k+1) U (by omega);unfold leB at z;rw[Bool.or_eq_false_iff,jQ] at z;have G:Op.bytesLess (eY E k).toList (eY E (k+1)).toList=true:=sY _ _ z.1 (by simpa using z.2);by_cases e:j=k
  ·subst e;exact G
  ·exact ot _ _ _ (ih j (by omega) (by omega)) G
theorem Nv (h:∀k,k<E.length->0<k->leB (eY E k) (eY E (k-1))=false){j k:Nat}(z:j<k)(G:k<E.length):eY E j≠eY E k:=λe=>by
 have :=Gu h k j z G;rw[e,oM] at this;cases this
theorem Nw{l:List Nat}(h:ig l=true):72057594037927936<=kS l:=by
 unfold kS;rw[aB h,sH];have :=(oz h).1;omega
theorem CN (k:Nat):(l.drop 5).getD k 0=l.getD (5+k) 0:=by
 rw[aj,cj,aj]
theorem QH (h:k<c)(z:c<=l.length):((l.take c).map Int.toNat).getD k 0=(l.getD k 0).toNat:=by
 rw[aj,bO,bU,aB h,aj,aD (by omega)];rfl
theorem UY (aG:In64 X){q:Nat}(h:mU X (eu X q)):
  cm (nY X (eu X q))/\(nY X (eu X q)).F=1/\(nY X (eu X q)).B.length=13/\(EG X (eu X q)).length=eV (nY X (eu X q))/\(∀c∈EG X (eu X q),c≠0/\c<256)/\(EG X (eu X q)).Nodup/\Gs X q (nY X (eu X q)) (EG X (eu X q)):=by
 obtain⟨ah,hS,aN,hF,hR,ar⟩:=h;have wm:=iy X q;have xq:In64 (eu X q):=λj=>by
  by_cases hj:j<8
  ·rw[kx _ _ _ hj];exact aG _
  ·rw[aj,aZ (by rw[wm];omega)]
   simp
 have wq:=Gn aG xq wm ah;have ac:=wj (X:=X) wm;have WT:dI X (eu X q)=((eu X q).drop 2).take 5++(if (eu X q).getD 7 0=0 then List.replicate 8 0 else eu X (1080+8*((eu X q).getD 7 0).toNat)):=rfl;have W:(dI X (eu X q)).drop 5=if (eu X q).getD 7 0=0 then List.replicate 8 0 else eu X (1080+8*((eu X q).getD 7 0).toNat):=by
  rw[WT,List.drop_append_of_le_length (by simp[wm]),dV (by simp[wm])];rfl
 have aV:=ah.1;have ay:=(xq 7).1;have aI:=ah.2.2;clear WT ah;have BV:nY X (eu X q)=if (iK (eu X q)).K=2 then { iK (eu X q) with E:=sQ X (dI X (eu X q)) ((eu X q).getD 1 0).toNat } else { iK (eu X q) with B:=dI X (eu X q) }:=rfl
 have aa:EG X (eu X q)=(if (iK (eu X q)).K=2 then ((dI X (eu X q)).take (bj ((eu X q).getD 1 0).toNat)).map Int.toNat else [])++(if (eu X q).getD 7 0=0 then [] else [((eu X q).getD 7 0).toNat]):=rfl;have aQ:(iK (eu X q)).B=List.replicate 13 0:=rfl;have aS:(iK (eu X q)).E=[]:=rfl;generalize hn:nY X (eu X q)=n,ba:EG X (eu X q)=own,aW:dI X (eu X q)=l,bg:(eu X q).getD 7 0=V,aY:((eu X q).getD 1 0).toNat=m at *;generalize aK:eu X q=r at *;have aO:bj ([]:List (ByteArray×Int)).length=0:=by decide
 by_cases hK:(iK r).K=2
 · -- a directory
  rw[aB hK] at BV aa;obtain⟨bb,aR,av⟩:=aN hK;have ak:n.E=sQ X l m:=by rw[BV]
  have Gv:n.E.length=m:=by rw[ak,qj]
  have Yt:n.B=List.replicate 13 0:=by rw[BV];exact aQ
  have bc:n.K=2:=by rw[BV];exact hK
  have bf:bj m<=6:=by unfold bj;omega
  have aH:∀k,bj m<=k->l.getD k 0=0:=λk J=>by
   rw[aR,qf ac (by omega),aA]
  have Nu:oW n:=by
   rcases hR.2.2 with h|h
   ·have :=h.1;omega
   ·exact h.2
  have ai:((l.take (bj m)).map Int.toNat).length=bj m:=by rw[b7,aJ,ac];omega
  have G:own.length=bj m+(if V=0 then 0 else 1):=by
   rw[aa,aC,ai];split<;>rfl
  have ae:∀k,k<bj m->own.getD k 0=(l.getD k 0).toNat:=λk J=>by
   rw[aa,aj,bh (by rw[ai];exact J),<-aj,QH J (by rw[ac];omega)]
  have SM:V≠0->own.getD (bj m) 0=V.toNat:=λz=>by
   rw[aa,aj,aT (by rw[ai];omega),ai,ja,aA z];rfl
  have uR:fp n own=V.toNat:=by
   unfold fp;rw[Gv];by_cases z:V=0
   ·rw[aA (by rw[G,aB z];omega),z];rfl
   ·rw[aB (by rw[G,aA z];omega),SM z]
  have U:dY n own=l:=by
   have Ng:bj n.E.length<=own.length:=by rw[Gv,G];omega
   refine DJ (by rw[uY (by rw[Yt];rfl) (by rw[Gv];omega) Ng,ac]) λk _=> ?_
   rw[uZ Ng,Gv];split
   ·rename_i J
    rw[ae k J,jz (wq k).1]
   ·rename_i J
    rw[aH k (by omega),Yt,aj,bB];split<;>rfl
  have aF:V≠0↔5<bj m:=by
   constructor
   ·intro z
    have h1:=aI.resolve_left z;rcases dF 5 (bj m) with h|h
    ·exact h
    ·refine absurd (DJ (by rw[bV,ac];rfl) λk _=> ?_) h1
     rw[CN,aH _ (by omega),aj,bB];split<;>rfl
   ·intro h5 z
    rw[aB z] at W;have h1:=(av 5 h5).1;have h2:(l.drop 5).getD 0 0=0:=by rw[W];rfl
    rw[CN] at h2;exact h1 h2
  have uW:eV n=own.length:=by
   unfold eV;rw[Gv,G];by_cases z:V=0
   ·rw[aA ?_,aB z]
    ·rfl
    ·intro h
     rcases h with h|h
     ·exact aF.2 h z
     ·exact h (by rw[Yt];rfl)
   ·rw[aB (.inl (aF.1 z)),aA z]
  have az:∀c∈own,c≠0/\c<256:=λc hc=>by
   obtain⟨k,J,rfl⟩:=b9 hc;have e:own[k]=own.getD k 0:=by rw[aj,aD J];rfl
   rw[e];by_cases ag:k<bj m
   ·rw[ae k ag]
    have :=(av k ag).1;have :=wq k;omega
   ·rw[G] at J
    split at J
    ·omega
    ·rename_i z
     rw[show k=bj m by omega,SM z];omega
  have af:∀k,k<bj m->eu X (1080+8*own.getD k 0)=jf n.E k:=λk J=>by
   rw[ae k J,ak];exact(av k J).2.2.symm
  have aL:V≠0->eu X (1080+8*V.toNat)=l.drop 5:=λz=>by rw[W,aA z]
  have xP:∀k,k<bj m->(jf n.E k).getD 0 0=((kS (bl (eY n.E (4*k))):Nat):Int)/\4*k<n.E.length:=λk J=>by
   have bk:4*k<m:=by unfold bj at J;omega
   refine⟨?_,by omega⟩;unfold jf;rw[qg _ _ _ _ (by omega),aB,KX,aB];rfl
  have ax:=λk J (z:0<k)=>(Nu.2.2.2 k J).2.2 z
  refine⟨hR,by rw[BV];exact hF,by rw[Yt];rfl,uW.symm,az,?_,?_⟩
  ·rw[List.nodup_iff_pairwise_ne,dh]
   intro i j hi hj aX e;have ei:own[i]=own.getD i 0:=by rw[aj,aD hi];rfl
   have ej:own[j]=own.getD j 0:=by rw[aj,aD hj];rfl
   rw[ei,ej] at e;have aM:i<bj m:=by rw[G] at hj;split at hj<;>omega
   obtain⟨f1,f2⟩:=xP i aM;have b1:=af i aM;have g1:=(Nu.2.2.2 (4*i) f2).1;by_cases QI:j<bj m
   ·obtain⟨f3,f4⟩:=xP j QI
    have b2:=af j QI;rw[e,b2] at b1;rw[b1,f1] at f3;have g2:=(Nu.2.2.2 (4*j) f4).1;have hw:kS (bl (eY n.E (4*i)))=kS (bl (eY n.E (4*j))):=by omega
    unfold kS at hw;rw[aB g1,aB g2] at hw;have n1:=oC g1 (A9 _);have n2:=oC g2 (A9 _);rw[hw,n2] at n1;exact Nv ax (show 4*i<4*j by omega) f4 (KN (Option.some.inj n1)).symm
   ·have z:V≠0:=λz=>by rw[G,aB z] at hj;omega
    have aU:j=bj m:=by rw[G,aA z] at hj;omega
    rw[aU,SM z] at e;rw[e,aL z] at b1;have :=Nw g1;rw[<-b1,CN] at f1;have :=wq (5+0);omega
  ·refine⟨by rw[U,uR,jz ay,ar,aK],λk J=> ?_⟩
   unfold ownRow;rw[Gv,U];split
   ·rename_i ag
    exact af k ag
   ·rename_i ag
    have z:V≠0:=λz=>by rw[G,aB z] at J;omega
    have aP:k=bj m:=by rw[G,aA z] at J;omega
    rw[aP,SM z,aL z]
 · -- a file
  rw[aA hK] at BV aa;have ak:n.E=[]:=by rw[BV];exact aS
  have Gv:bj n.E.length=0:=by rw[ak];exact aO
  have Yt:n.B=l:=by rw[BV]
  have G:own=if V=0 then [] else [V.toNat]:=by rw[aa,bN]
  have U:dY n own=l:=by
   unfold dY;rw[Gv,Yt];rfl
  have uR:fp n own=V.toNat:=by
   unfold fp;rw[Gv];by_cases z:V=0
   ·rw[G,aB z,aA (by simp),z];rfl
   ·rw[G,aA z,aB (by simp)];rfl
  refine⟨hR,by rw[BV];exact hF,by rw[Yt,ac],?_,?_,?_,?_⟩
  ·unfold eV
   rw[Gv,Yt];by_cases z:V=0
   ·rw[aB z] at W
    rw[G,aB z,aA ?_]
    ·rfl
    ·intro h
     rcases h with h|h
     ·omega
     ·exact h W
   ·rw[G,aA z,aB (.inr (aI.resolve_left z))]
    rfl
  ·rw[G]
   split
   ·simp
   ·rename_i z
    intro c hc;rw[au] at hc;omega
  ·rw[G]
   split<;>simp
  ·refine⟨by rw[U,uR,jz ay,ar,aK],λk J=> ?_⟩
   unfold ownRow;rw[Gv,U,aA];have z:V≠0:=λz=>by rw[G,aB z] at J;simp at J
   rw[G,aA z] at J ⊢;obtain rfl:k=0:=by simpa using J
   show eu X (1080+8*V.toNat)=_;rw[W,aA z]
def wE (w:World) (b z:Nat) (B:List Int) (ps:List (Int×Int)) (i:Int) (n:bS) (e:Ending) (w':World):Prop:=
 ∃r qs h,e=(r:Int)/\(h=z\/(w.heap.size<=h/\h<w'.heap.size))/\eN w' b h B (ps++qs)/\ay [b,z] w w'/\qs.length<=200/\
  ((r=1/\¬IG i n/\qs=[])\/(r=7/\IG i n/\(aY (az B ps)).length<eV n/\qs=[])\/
   (r=0/\IG i n/\eV n<=(aY (az B ps)).length/\qs=pD (az B ps) i.toNat n ((aY (az B ps)).take (eV n))))
theorem qm:∀c∈(aY X).take m,c≠0/\c<256:=λc h=>by
 have :=j5.1 (bL h);exact⟨this.2.1,this.1⟩
theorem su:((aY X).take m).Nodup:=List.Sublist.nodup (List.take_sublist _ _) (rO X 256)
theorem uo (h:m<=(aY X).length):((aY X).take m).length=m:=by rw[aJ,cZ h]
theorem UZ (G:bj n.E.length<=6)(h:∀c∈own,c≠0/\c<256)(z:own.length<=7):(pD X i n own).length<=200:=by
 unfold pD wu ql;rw[aC,aC,aC,qb _ _ h,yP,oJ];split
 ·rw[oJ];omega
 ·simp only[cD];omega
theorem abR{J:Nat}(h:eN w b J B ps)(U:In64 (az B ps))(hT:ku w)(Ic:J<w.heap.size)(W:ps.length<=800000)(i:Int)(n:bS)(v:Value)(g:Nat)(hB:n.B.length=13)(hE:bD w v g n.E)
  (hN:∀k,k<n.E.length->(eY n.E k).size<=9223372036854775807) (V:n.E.length≠0->g≠b/\g≠J):
  Calls prog 150 #[b,i,aL n v] w (wE w b J B ps i n):=by
 by_cases z:IG i n
 ·by_cases hn:eV n<=(aY (az B ps)).length
  ·refine(aed h U hT Ic W i n v g hB hE hN z V hn).mono λe w' G=> ?_
   obtain⟨G,gG,h1,h2,h3⟩:=G;have aa:=jJ z.2.2;have ac:=wD n;exact⟨0,_,gG,G,h1,h2,h3,UZ aa.2.1 qm (by rw[uo hn];omega),.inr (.inr ⟨rfl,z,hn,rfl⟩)⟩
  ·refine(UI h U i n v g hB hE hN z (by omega)).mono λe w' G=> ?_
   exact⟨7,[],J,G.1,.inl rfl,by rw[bz];exact h.keep G.2,G.2.mono,by simp,.inr (.inl ⟨rfl,z,by omega,rfl⟩)⟩
 ·refine(abI i n v g hB hE hN z).mono λe w' G=> ?_
  exact⟨1,[],J,G.1,.inl rfl,by rw[bz];exact h.keep G.2,G.2.mono,by simp,.inl ⟨rfl,z,rfl⟩⟩
theorem CO{h:Array Value}(U:bc w g h 75)(J:h.size=18)(z:n.B.length=13){v:Value}(G:v.oneCell'=true):
  ∃w',(storeVar 75 g (.agg (aL n v))).run prog w= .ok () w'/\bc w' g (aL n v) 75/\ay [g] w w':=
 bE (P:= prog) (ty:= 75) (cs:=mQ n v) (by rw[gJ,z];exact iV) U (by rw[J,gJ,z]) (kR G)
theorem yR{v:Value}(h:bD w v g E):v.oneCell'=true:=by
 obtain⟨a,cap,rfl,-⟩:=h;rfl
theorem YD (z:In64 X)(U:X.length=3128){i:Int}{n:bS}(J:n.B.length=13)(h:IG i n)(V:eV n<=(aY X).length):
  Gs (az X (pD X i.toNat n ((aY X).take (eV n)))) (824+8*i.toNat) n ((aY X).take (eV n))/\In64 (az X (pD X i.toNat n ((aY X).take (eV n))))/\
  (∀k,820<=k->¬(824+8*i.toNat<=k/\k<824+8*i.toNat+8)->¬(1080<=k/\(k-1080)/8∈(aY X).take (eV n))->(az X (pD X i.toNat n ((aY X).take (eV n)))).getD k 0=X.getD k 0):=by
 have G:=jJ h.2.2;have aa:=wD n;have ac:=uo V;have hi:=h.1;refine⟨?_,aev z U J h.2.2 (by omega) qm,λk W h1 h2=>UT (by omega) qm W h2 (by omega)⟩;unfold pD;rw[br];exact Yy (by rw[cy,U]) _ (by omega) J G.2.1 (by omega) (by omega) su qm
end Go.Proofs.YtimcfdnbpkiniaaGreatDoor
