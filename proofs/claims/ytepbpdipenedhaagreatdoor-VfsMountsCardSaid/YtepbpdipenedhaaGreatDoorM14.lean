/- Lemmas. -/
import Derived.Test.YtepbpdipenedhaaGreatDoorM13
set_option maxHeartbeats 4000000
set_option maxRecDepth 100000
namespace Go.Proofs.YtepbpdipenedhaaGreatDoor
open Go.Proofs.Tryz
open Go.RowKit
section
variable{w w':World}{B X:List Int}{i r:Int}{e:Ending}{n:bT}{U b gp:Nat}{ps qs:List (Int×Int)}
def Vj (X:List Int) (i:Int) (n:bT) (own:List Nat) (r:Int):Prop:=
 (r=1/\¬(0<=i/\i<32)/\n=cg/\own=[])\/(r=2/\(0<=i/\i<32)/\dR X i/\n=cg/\own=[])\/
  (r=10/\(0<=i/\i<32)/\¬dR X i/\(∀n' h,¬eH X i n' h)/\n=cg/\own=[])\/(r=0/\eH X i n own)
def Ff (w:World) (X:List Int) (i:Int) (e:Ending) (w':World):Prop:=
 ∃n v g own h z r,e= .returned (.tuple #[aM n v,h,(r:Int)])/\n.B.length=13/\bD w' v g n.E/\w.heap.size<=g/\l9 w' h z own/\w.heap.size<=z/\ay [] w w'/\Vj X i n own r
theorem abO{J:World}(G:ay [] (w.alloc (.cells (aM cg (.slice none 0 0)) 111)) J)(h:Vj X i cg [] r):
  ∃w',(storeVar 111 w.heap.size (.agg (aM cg (.slice none 0 0)))).run prog J= .ok () w'/\(loadVar 111 w.heap.size).run prog w'= .ok (.agg (aM cg (.slice none 0 0))) w'/\Ff w X i (.returned (.tuple #[aM cg (.slice none 0 0),(),r])) w':=by
 have z:=bh.new w (aM cg (.slice none 0 0)) 111;obtain⟨w',q1,q2,q3⟩:=bH (P:= prog) (ty:= 111) (cs:=na cg (.slice none 0 0)) iZ (z.keep G (by simp)) rfl (kY rfl);exact⟨w',q1,b9 q2 rfl,cg,_,w.heap.size,[],_,w.heap.size,r,rfl,rfl,bD.nil _ _,aH _,l9.nil _ _,aH _,(((ay.refl [] w).alloc _).trans' G).trans q3 (by intro x U;rw[au] at U;omega),h⟩
def Fg (w:World) (X:List Int) (i f:Int) (e:Ending) (w':World):Prop:=
 ∃n v g own h z ok,e= .returned (.tuple #[aM n v,h,.bool ok])/\n.B.length=13/\bD w' v g n.E/\w.heap.size<=g/\l9 w' h z own/\w.heap.size<=z/\ay [] w w'/\
  (ok=true->eH X i n own)/\(ok=false->n=cg/\own=[]/\∀n' G,eH X i n' G->n'.F≠f)
theorem LA (G:In64 X)(h:mK w X i e w'):Fg w X i 1 e w':=by
 obtain⟨n,v,g,own,va,ga,ok,h1,h2,h3,h4,h5,h6,h7,h8,h9⟩:=h;refine⟨n,v,g,own,va,ga,ok,h1,h2,h3,h4,h5,h6,h9,λU=> ?_,λU=> ?_⟩
 ·obtain⟨J,V,z,a4⟩:=h7 U
  rw[z,a4];exact Ve G J V
 ·obtain⟨J,V,z⟩:=h8 U
  exact⟨V,z,λn' cW W hf=>J ⟨W.rng,(Lt W hf).1⟩⟩
theorem LC (h:sD w X i e w'):Fg w X i 2 e w':=by
 obtain⟨n,v,g,own,va,V,ok,h1,U,W,h4,h5,h6,h9,h7,h8⟩:=h;refine⟨n,v,g,own,va,V,ok,h1,U,W,h4,h5,h6,h9,λJ=> ?_,λJ=> ?_⟩
 ·obtain⟨G,-,z,-,-⟩:=h7 J
  exact Vf U z G
 ·obtain⟨a2,z,G⟩:=h8 J
  exact⟨a2,z,λn' cW hs hf=>G n' cW (Lu hs hf)⟩
theorem y9{h:World}{v va:Value}{g W:Nat}{own:List Nat}(V:ay [] w h)(hB:n.B.length=13)(U:bD h v g n.E)(hO:l9 h va W own)(xp:w.heap.size<=W):
  ∃z,(storeVar 111 h.heap.size (.agg (aM n v))).run prog (h.alloc (.cells (aM cg (.slice none 0 0)) 111))= .ok () z/\(loadVar 111 h.heap.size).run prog z= .ok (.agg (aM n v)) z/\
   bD z v g n.E/\(∃G,l9 z va G own/\w.heap.size<=G)/\ay [] w z/\bh z h.heap.size (aM n v) 111 :=by
 have hb:=bh.new h (aM cg (.slice none 0 0)) 111;obtain⟨z,q1,q2,q3⟩:=CW (n:=n) (v:=v) hb rfl hB (yY U);have eV:ay [h.heap.size] h z:=((ay.refl [h.heap.size] h).alloc _).trans' q3;refine⟨z,q1,b9 q2 hB,U.keep eV (λh0=> ?_),?_,(V.alloc _).trans q3 (by intro x J;rw[au] at J;have :=V.size;omega),q2⟩
 ·exact U.apart (l:=[h.heap.size]) (λx J=>by rw[au] at J;omega) h0
 ·exact hO.away xp eV λx J=>by rw[au] at J;omega
theorem Vk (r:List Int)(w:World):(Instr.field 111 (.agg (aM (iR r) (.slice none 0 0))) 0).run prog w= .ok (.int .i64 (iR r).F) w:=by kernel_rfl
theorem get_at(h:eK w b gp B ps)(aR:In64 (az B ps))(i:Int):
  Calls prog 97 #[b,i] w (Ff w (az B ps) i):=by
 have cJ:ay [] w (w.alloc (.cells (aM cg (.slice none 0 0)) 111)):=(ay.refl _ _).alloc _;obtain⟨HI,HT,vZ,uV⟩:=hh4 (AA i) (kC i) h aR;have V:Hid (∀(wz:World) (r:Int),ay [] (w.alloc (.cells (aM cg (.slice none 0 0)) 111)) wz->Vj (az B ps) i cg [] r->_):=λwz r hk hr=>abO (w:=w) hk hr
 have zX:=ar (Fe (h.keep cJ (by simp) (by simp)) i);have rG:=dz;have CQ:=ar (bh.new w (aM cg (.slice none 0 0)) 111);obtain⟨W,av⟩:∃W,w.alloc (.cells (aM cg (.slice none 0 0)) 111)=W:=⟨_,rfl⟩;rw[av] at V zX CQ cJ;obtain⟨ru,fI⟩:=hh2 av cJ;clear h aR av cJ;generalize aP:az B ps=X at *;have SS:=ar aP;clear aP;generalize ai:aM cg (.slice none 0 0)=Z0 at *;have jt:=ar ai;clear ai;by_cases hi:0<=i/\i<32
 ·rw[bu hi] at HI
  by_cases hf:dR X i
  ·obtain⟨w1,bg⟩:∃w1,w1=W:=⟨_,rfl⟩
   rw[bu (show(0<=i/\i<32)/\dR X i from ⟨hi,hf⟩)] at zX;have U:Hid (∀wz,ay [] W wz->_):=λwz hk=>V.out wz 2 hk (.inr (.inl ⟨rfl,hi,hf,rfl,rfl⟩))
   clear hi hf V CQ HT bg;go_in;go_wp2_with fail;rw[ru.out];refine C' (HI.out _) ?_;go_wp2_with fail;refine Rr zX.out λw2 J=> ?_;obtain⟨w3,q1,q2,q3⟩:=U.out w2 J;obtain⟨HS,HL,HP⟩:=hh3 q1 q2 q3;clear q1 q2 q3 J U zX;go_wp2_with(with_reducible refine gS 111 HS.out ?_);exact aI (cH results97 rfl HL.out rfl rfl) rfl HP.out
  ·rw[aQ (show ¬((0<=i/\i<32)/\dR X i) from λh=>hf h.2)] at zX
   have aC:gF i=((824+8*i.toNat:Nat):Int):=by rw[gF,aA];omega
   rw[aC] at HT;have nu:Hid (∀z,ay [] W z->Calls prog 141 #[b,((824+8*i.toNat:Nat):Int)] z λe w'=>e=(aY (fS X i)).toArray/\ay [] z w'):=λz hk=>by
    have :=pI (vZ.out.keep (fI.out.trans' hk) (by simp) (by simp)) (824+8*i.toNat) (by omega);rw[SS.out] at this;exact this
   have xK:(fS X i).length=8:=iG _ _;have xC:∀k,0<=(fS X i).getD k 0/\(fS X i).getD k 0<18446744073709551616:=CY.row uV.out _;have ag:=ar (λz=>CJ (fS X i) xK (xC 0) (xC 1) z);have hF:(iR (fS X i)).F=(fS X i).getD 0 0%256:=rfl;have bn:=Vk (fS X i);have af:Hid (∀n own,eH X i n own->(iR (fS X i)).F=n.F):=λn own h=>h.format
   have aB:=ar (λz=>Ec (iR (fS X i)).F z);have HO:Hid (∀z,ay [] W z->Calls prog 143 #[tC b i] z (Fg z X i 1)):=λz hk=>by
    have :=Q0 (vZ.out.keep (fI.out.trans' hk) (by simp) (by simp)) (by rw[SS.out];exact uV.out) i;rw[SS.out] at this;exact this.mono λe w'=>LA uV.out
   have HN:Hid (∀z,ay [] W z->Calls prog 145 #[tC b i] z (Fg z X i 2)):=λz hk=>by
    have :=Q4 (vZ.out.keep (fI.out.trans' hk) (by simp) (by simp)) (by rw[SS.out];exact uV.out) i;rw[SS.out] at this;exact this.mono λe w'=>LC
   have Fh:Hid (Z0.size=18):=by rw[<-jt.out];rfl
   obtain⟨aO,Yg⟩:=hh2 hf hi;clear hF xK xC aC hi hf;generalize bk:((824+8*i.toNat:Nat):Int)=pi at *;clear bk;generalize aX:(aY (fS X i)).toArray=R8 at *;clear aX;generalize bb:aM (iR (fS X i)) (.slice none 0 0)=ZT at *;clear bb;generalize (iR (fS X i)).F=f at *;go_in;go_wp2_with fail;rw[ru.out];refine C' (HI.out _) ?_;go_wp2_with fail;refine Rr zX.out λw2 J=> ?_;have fx:=ar J;clear J;go_wp2_with fail;refine C' (HT.out _) ?_;go_wp2_with fail;refine Rr (nu.out _ fx.out) λw3 aS=> ?_;have oI:=ar (fx.out.trans' aS);clear aS fx;go_wp2_with fail;refine Rr (ag.out _) λw4 aF=> ?_;have qb:=ar (oI.out.trans' aF);clear aF oI;go_wp2_with fail;refine(aB.out _).mono ?_;rintro e w5 ⟨kR,fa,fb,aH,aG,rfl,h1,h2⟩;have qR:=ar (qb.out.trans' kR);have aL:=bh.new w5 #[.nilFunc,.nilFunc] 148;obtain⟨w6,q1,q2,q3⟩:=G0 aL aH aG;have Gx:=ar q1;have tX:Hid (ay [] W w6):=(qR.out.alloc _).trans q3 (by intro x hx;rw[au] at hx;have :=qR.out.size;omega);have aK:Hid (w6.cell? w5.heap.size=some fa):=by show _=_;rw[q2.cell];rfl
   clear kR qb aL q1 q2 q3;by_cases G:f=1;rw[bu (show f=1\/f=2 from .inl G)];obtain⟨rfl,rfl⟩:=h1 G;have aj:=HO
   rotate_left
   by_cases aa:f=2;rw[bu (show f=1\/f=2 from .inr aa)];obtain⟨rfl,rfl⟩:=h2 aa;have aj:=HN;have G:=aa
   rotate_left
   ·rw[aQ (show ¬(f=1\/f=2) by omega)]
    have U:Hid (Vj X i cg [] 10):= .inr (.inr (.inl ⟨rfl,Yg.out,aO.out,λn' cW hs=>by
     have :=af.out n' cW hs;have :=hs.right.1;omega,rfl,rfl⟩))
    obtain⟨w7,p1,p2,p3⟩:=V.out w6 10 tX.out U.out;obtain⟨bf,bc,bj⟩:=hh3 p1 p2 p3;clear p1 p2 p3 V HO HN ag nu aB HI HT zX U h1 h2 G aa af;go_wp2_with(with_reducible first|refine gS 148 Gx.out ?_|refine gS 111 bf.out ?_);exact aI (cH results97 rfl bc.out rfl rfl) rfl bj.out
   all_goals
    have c6:=aK.out;clear h1 h2 aK aH aG;go_wp2_with(with_reducible refine gS 148 Gx.out ?_);refine(aj.out w6 tX.out).mono ?_;rintro e w7 ⟨n,v,g,own,va,ga,ok,rfl,hB,hE,hg,hO,xp,yl,SL,Mm⟩;have J3:=ar (tX.out.trans' yl);obtain⟨w8,q1,q2,aD,⟨ba,aN,aV⟩,uR,aZ⟩:=y9 J3.out hB hE hO (by have :=tX.out.size;omega);have Sv:W.heap.size<=g:=by have :=tX.out.size;omega
    rw[jt.out] at q1;obtain⟨aW,I0,Yi,MO,WQ,aJ,Gm⟩:=hh7 q1 q2 uR SL Mm aD aN;obtain⟨X5,aU,aT⟩:=hh3 hB Sv aV;clear yl hE hO hB hg xp q1 q2 aD aN uR aZ Sv aV SL Mm c6 Gx HO HN aj ag nu aB HI HT zX;generalize WR:aM n v=ZN at *;have WW:=ar WR;clear WR;cases ok with
    |false=>
     obtain⟨e1,e2,e3⟩:=WQ.out rfl;obtain⟨w9,p1,p2,p3⟩:=V.out w8 10 Yi.out (.inr (.inr (.inl ⟨rfl,Yg.out,aO.out,λn' cW hs=>e3 n' cW hs ((af.out n' cW hs).symm.trans G),rfl,rfl⟩)));obtain⟨ac,ax,ae⟩:=hh3 p1 p2 p3;clear e1 e2 e3 p1 p2 p3 V MO WQ;go_wp2_with(with_reducible first|refine gS 111 aW.out ?_|refine gS 111 ac.out ?_);exact aI (cH results97 rfl ax.out rfl rfl) rfl ae.out
    |true=>
     obtain⟨w9,p1,p2,p3⟩:=CW (n:=n) (v:=v) (CQ.out.keep Yi.out (by simp)) Fh.out X5.out (yY aJ.out);have ak:=b9 p2 X5.out;have ah:Ff w X i (.returned (.tuple #[aM n v,va,(0:Int)])) w9:=by
      have ai:=fI.out.size;have bl:=CQ.out.lt;refine⟨n,v,g,own,va,ba,0,rfl,X5.out,aJ.out.keep p3 (λh0=> ?_),?_,Gm.out.keep p3 ?_,?_,(fI.out.trans' Yi.out).trans p3 (by intro x hx;rw[au] at hx;omega),.inr (.inr (.inr ⟨rfl,MO.out rfl⟩))⟩
      ·have :=aU.out
       rw[au];omega
      ·have :=aU.out;omega
      ·have :=aT.out
       rw[au];omega
      ·have :=aT.out;omega
     rw[WW.out] at p1 ak ah;obtain⟨ac,ax,ae⟩:=hh3 p1 ak ah;clear p1 p2 p3 ak ah V MO WQ;go_wp2_with(with_reducible first|refine gS 111 aW.out ?_|refine gL 111 I0.out ?_|refine gS 111 ac.out ?_);exact aI (cH results97 rfl ax.out rfl rfl) rfl ae.out
 ·rw[aQ hi] at HI
  obtain⟨w1,q1,q2,q3⟩:=V.out W 1 (ay.refl _ _) (.inl ⟨rfl,hi,rfl,rfl⟩);obtain⟨HS,HL,HP⟩:=hh3 q1 q2 q3;clear q1 q2 q3 hi V zX CQ HT;go_in;go_wp2_with fail;rw[ru.out];refine C' (HI.out _) ?_;go_wp2_with(with_reducible refine gS 111 HS.out ?_);exact aI (cH results97 rfl HL.out rfl rfl) rfl HP.out
def G5 (w:World) (b z:Nat) (B:List Int) (ps:List (Int×Int)) (i:Int) (n:bT) (e:Ending) (w':World):Prop:=
 ∃r qs h,e=(r:Int)/\(h=z\/(w.heap.size<=h/\h<w'.heap.size))/\eK w' b h B (ps++qs)/\ay [b,z] w w'/\qs.length<=600/\
  ((r=7/\(aZ (az B ps)).length<dv n/\qs=[])\/(r=0/\dv n<=(aZ (az B ps)).length/\qs=I4 (az B ps) i.toNat n ((aZ (az B ps)).take (dv n))))
theorem YM (hi:0<=i/\i<32)(hR:cm n)(hF:n.F=1)(h:wN w b U B ps i n e w'):G5 w b U B ps i n e w':=by
 have h1:dv n=eY n:=aA;have h2:∀X own,I4 X i.toNat n own=pO X i.toNat n own:=λX own=>aA
 obtain⟨r,qs,V,a1,a2,W,a4,a5,a6⟩:=h;refine⟨r,qs,V,a1,a2,W,a4,by omega,?_⟩;rw[h1,h2];rcases a6 with ⟨-,c,-⟩|⟨z,-,G,J⟩|⟨z,-,G,J⟩
 ·exact absurd ⟨hi,hF,hR⟩ c
 ·exact .inl ⟨z,G,J⟩
 ·exact .inr ⟨z,G,J⟩
theorem YN (hi:0<=i/\i<32)(hR:cm n)(hF:n.F=2)(h:tv w b U B ps i n e w'):G5 w b U B ps i n e w':=by
 have h1:dv n=eW n:=aB hF;have h2:∀X own,I4 X i.toNat n own=ng X i.toNat n own:=λX own=>aB hF
 obtain⟨r,qs,V,a1,a2,W,a4,a5,a6⟩:=h;refine⟨r,qs,V,a1,a2,W,a4,by omega,?_⟩;rw[h1,h2];rcases a6 with ⟨-,c,-⟩|⟨z,-,G,J⟩|⟨z,-,G,J⟩
 ·exact absurd ⟨hi,hF,hR⟩ c
 ·exact .inl ⟨z,G,J⟩
 ·exact .inr ⟨z,G,J⟩
def YO (X:List Int) (i:Int) (own:List Nat):Prop:=(dR X i/\own=[])\/∃m,eH X i m own
def nV (X:List Int) (i:Int) (n:bT) (r:Int) (qs:List (Int×Int)):Prop:=
 (r=1/\¬((0<=i/\i<32)/\cm n)/\qs=[])\/
 (r=10/\((0<=i/\i<32)/\cm n)/\¬dR X i/\(∀n' h,¬eH X i n' h)/\qs=[])\/
 (∃own,((0<=i/\i<32)/\cm n)/\YO X i own/\((r=7/\(aZ (az X (cj X own))).length<dv n/\qs=[])\/(r=0/\dv n<=(aZ (az X (cj X own))).length/\qs=mi X i.toNat n own)))
def mL (w:World) (b z:Nat) (B:List Int) (ps:List (Int×Int)) (i:Int) (n:bT) (e:Ending) (w':World):Prop:=
 ∃r qs h,e=(r:Int)/\(h=z\/(w.heap.size<=h/\h<w'.heap.size))/\eK w' b h B (ps++qs)/\ay [b,z] w w'/\qs.length<=700/\nV (az B ps) i n r qs
theorem mL.nothing{z:Nat}(h:eK w b z B ps)(G:ay [] w w')(J:nV (az B ps) i n r []):mL w b z B ps i n (.returned r) w':=
 ⟨r,[],z,rfl,.inl rfl,by rw[br];exact h.keep G (by simp) (by simp),G.mono (by simp),by simp,J⟩
theorem sG{G:Nat}(h:eK w b G B ps)(bo:In64 (az B ps))(hT:∀z,ay [b,G] w z->lD z)(Ew:G<w.heap.size)(bj:ps.length<=700000)(i:Int)(n:bT)(v:Value)(g:Nat)(hB:n.B.length=13)(hE:bD w v g n.E)
  (hN:∀k,k<n.E.length->(eX n.E k).size<=9223372036854775807) (ak:n.E.length≠0->g≠b/\g≠G):
  Calls prog 49 #[b,i,aM n v] w (mL w b G B ps i n):=by
 have cJ:ay [] w (w.alloc (.cells (aM n v) 111)):=(ay.refl _ _).alloc _;have rU:=bh.new w (aM n v) 111;obtain⟨HI,Bu⟩:=hh2 (AA i) (λz (V:ay [] w z)=>oz n v g hB z (hE.keep V (by simp)) hN);have j6:Hid (∀(w':World) (r:Int),ay [] w w'->nV (az B ps) i n r []->mL w b G B ps i n (.returned (r:Int)) w'):=λw' r V hr=>mL.nothing h V hr
 have IA:=ar (λz (V:ay [] (w.alloc (.cells (aM n v) 111)) z)=>b9 (rU.keep V (by simp)) hB);obtain⟨J,aR⟩:∃J,w.alloc (.cells (aM n v) 111)=J:=⟨_,rfl⟩;rw[aR] at cJ rU IA;obtain⟨ru,fI,Ur,vZ,uV,HE,HB⟩:=hh7 aR cJ rU h bo hE hB;obtain⟨aS,NW,UO,zM,aP⟩:=hh5 hT hN ak bj Ew;clear h bo aR cJ rU hE hN hT ak bj Ew;by_cases hi:0<=i/\i<32
 ·rw[bu hi] at HI
  by_cases hR:cm n
  ·rw[bu hR] at Bu
   obtain⟨X,hX⟩:∃X,az B ps=X:=⟨_,rfl⟩;have SS:=ar hX;have bS:Hid (X.length=3128):=by show _=_;rw[<-hX];exact vZ.out.raw.lx
   have bL:b<w.heap.size:=vZ.out.raw.lt;have bY:=ar bL;have Va:Hid (In64 X):=by show In64 X;rw[<-hX];exact uV.out
   obtain⟨IM,av⟩:=hh2 (IA.out J (ay.refl _ _)) (Bu.out J fI.out);have ED:Hid (∀z,ay [] J z->Calls prog 97 #[b,i] z (Ff z X i)):=λz V=>by
    have :=get_at (vZ.out.keep (fI.out.trans' V) (by simp) (by simp)) uV.out i;rwa[hX] at this
   have bQ:Hid (∀z,ay [] J z->eK z b G B ps):=λz V=>vZ.out.keep (fI.out.trans' V) (by simp) (by simp)
   have Ml:Hid (∀z,ay [] J z->Calls prog 98 #[b] z λe w'=>e=(ps.length:Int)/\z=w'):=λz V=>
    TQ (vZ.out.keep (fI.out.trans' V) (by simp) (by simp))
   have aN:Hid (∀z va ga own,ay [] J z->Reads z va ga (dK own)->J.heap.size<=ga->own.length<=32->Calls prog 99 #[b,va] z (jU z b G B (ps++cj X own))):=λz va ga own V hr hg hl=>by
    have hz:=fI.out.size;have ac:=aP.out;have :=Lz (vZ.out.keep (fI.out.trans' V) (by simp) (by simp)) uV.out (by have :=V.size;omega) (by have :=zM.out;omega) hr (by omega) (λ_=>by omega);rwa[hX] at this
   have IX:Hid (∀z kX own,ay [b,G] J z->eK z b kX B (ps++cj X own)->kX<z.heap.size->(kX=G\/J.heap.size<=kX)->own.length<=32->∀f:Nat,((n.F=1->f= 144)/\(n.F=2->f= 146))->
     Calls prog f #[tC b i,aM n v] z (G5 z b kX B (ps++cj X own) i n)):=λz kX own V hs ac ak ai f hf=>by
    have aO:ay [b,G] w z:=(fI.out.mono (by simp)).trans' V;have LD:In64 (az B (ps++cj X own)):=by rw[bz,hX];exact(iD own X Va.out bS.out).1
    have aB:(ps++cj X own).length<=800000:=by
     have W:=qA own X;have U:=zM.out;rw[aC];omega
    have bX:=fI.out.size;have aZ:bD z v g n.E:=HE.out.keep aO (λh0=>by
     have :=UO.out h0;simp only[aL,aK,bC,not_or];exact this)
    have bt:n.E.length≠0->g≠b/\g≠kX:=λh0=>by
     have W:=UO.out h0;refine⟨W.1,λU=> ?_⟩;rcases ak with h3|h3
     ·exact W.2 (U.trans h3)
     ·have :=HE.out.apart (l:=[kX]) (λx hx=>by rw[au] at hx;omega) h0
      rw[au] at this;exact this U
    rcases hR.1 with hF|hF
    ·rw[hf.1 hF]
     exact(Vh hs LD (aS.out z aO) ac aB i n v g HB.out aZ NW.out bt).mono λe w'=>YM hi hR hF
    ·rw[hf.2 hF]
     exact(Vi hs LD (aS.out z aO) ac aB i n v g HB.out aZ NW.out bt).mono λe w'=>YN hi hR hF
   have af:Hid (∀z,ay [b,G] J z->z.cell? w.heap.size=some (.int .i64 n.F)/\(loadVar 111 w.heap.size).run prog z= .ok (.agg (aM n v)) z):=λz V=>by
    have hb:=Ur.out.keep V (by have :=aP.out;simp;omega);refine⟨?_,b9 hb HB.out⟩;rw[hb.cell];exact(gG v HB.out).f0
   have aT:=ar (λz=>Ec n.F z);have aG:Hid (n.F=1\/n.F=2):=hR.1;have ax:Hid ((0<=i/\i<32)/\cm n):=⟨hi,hR⟩;have ml:Hid (∀z (lS:Nat) (r:Int) (qs:List (Int×Int)),(lS=G\/(w.heap.size<=lS/\lS<z.heap.size))->eK z b lS B (ps++qs)->ay [b,G] J z->qs.length<=700->nV X i n r qs->mL w b G B ps i n (.returned (r:Int)) z):=λz lS r qs W U h3 h4 h5=>
    ⟨r,qs,lS,rfl,W,U,(fI.out.mono (by simp)).trans' h3,h4,by rw[hX];exact h5⟩
   have rG:=dz;clear hi hR IA Bu hX j6 HE NW UO aS vZ uV;have jt:=ar fI.out.size;have bJ:n.F=n.F:=rfl;clear bJ;generalize bO:aM n v=Z at *;clear bO;generalize hf:n.F=f at *;clear hf;go_in;go_wp2_with fail;rw[ru.out];refine C' (HI.out _) ?_;go_wp2_with((with_reducible show wpList _ _ _ (⟨_,.load 111 (.tmp 5),_,_,_,_⟩::_) _ _);refine eA (by first|rfl|simp[Region.wanted,yielded]) 111 (.tmp 5) rfl _ rfl _ IM.out ?_);refine Rr av.out λw2 ae=> ?_;have fx:=ar ae;clear ae;go_wp2_with fail;refine(ED.out w2 fx.out).mono ?_;rintro e w3 ⟨m,vm,gm,own,va,ga,r,rfl,bc,bF,bM,hO,xp,bp,bk⟩;have nE:ay [] J w3:=fx.out.trans' bp;obtain⟨w4,q1,q2,WV,⟨bN,SV,bb⟩,aW,bU⟩:=y9 nE bc bF hO (by have :=fx.out.size;omega);obtain⟨tZ,bl,bH,qb,aj⟩:=hh5 q1 SV bb aW bk;clear bc bF bM hO xp bp bk q1 q2 WV SV bb aW bU nE fx av IM ED;generalize aM m vm=ZM,aM cg (.slice none 0 0)=ZZ at *;by_cases aA:r=10
   ·subst aA
    have bB:nV X i n 10 []:=by
     rcases aj.out with ⟨h,-⟩|⟨h,-⟩|⟨-,W,U,h3,-⟩|⟨h,-⟩
     ·omega
     ·omega
     ·exact .inr (.inl ⟨rfl,ax.out,U,h3,rfl⟩)
     ·omega
    have HP:Hid (mL w b G B ps i n (.returned (10:Int)) w4):=ml.out w4 G 10 [] (.inl rfl) (by rw[br];exact bQ.out w4 qb.out) (qb.out.mono (by simp)) (by simp) bB;clear bB aj ml af aT IX aN Ml;go_wp2_with(with_reducible refine gS 111 tZ.out ?_);go_ret;exact HP.out
   ·have ai:own.length<=32/\YO X i own:=by
     rcases aj.out with ⟨W,U,-⟩|⟨-,-,U,-,h3⟩|⟨h,-⟩|⟨-,h⟩
     ·exact absurd ax.out.1 U
     ·subst h3;exact⟨by simp,.inl ⟨U,rfl⟩⟩
     ·exact absurd h aA
     ·exact⟨by have W:=h.ownLen;have U:=vH h.right;omega,.inr ⟨m,h⟩⟩
    have bI:(r==10)=false:=by simpa using aA
    obtain⟨ah,aY⟩:=hh2 ai (aN.out w4 va bN own qb.out bl.out.reads bH.out ai.1);clear ai aj aN bl aA;go_wp2_with(with_reducible refine gS 111 tZ.out ?_);refine C' (Ml.out w4 qb.out) ?_;go_wp2_with fail;refine Rr aY.out ?_;rintro w5 ⟨kX,bK,aU,kR⟩;have qR:Hid (ay [b,G] J w5):=(qb.out.mono (by simp)).trans' kR;have rz:=ar aU;have aa:Hid (kX<w5.heap.size/\(kX=G\/J.heap.size<=kX)):=by
     have z4:=qb.out.size;have z5:=kR.size;have :=aP.out;have :=jt.out;exact⟨by omega,by omega⟩
    have bq:=ar (af.out w5 qR.out);have c5:=bq.out.1;clear bK aU kR aY Ml;go_wp2_with fail;refine(aT.out w5).mono ?_;rintro e w6 ⟨jW,fa,fb,ba,aX,rfl,W,U⟩;have bR:∃q:Nat,fb= .func (.func q) #[] #[]/\((f=1->q= 144)/\(f=2->q= 146)):=by
     rcases aG.out with hF|hF
     ·exact⟨_,(W hF).2,λ_=>rfl,λh=>by omega⟩
     ·exact⟨_,(U hF).2,λh=>by omega,λ_=>rfl⟩
    rw[bu aG.out];obtain⟨q,rfl,hq⟩:=bR;have bP:q= 144\/q= 146 :=aG.out.imp (λh=>hq.1 h) λh=>hq.2 h
    have bf:=bh.new w6 #[.nilFunc,.nilFunc] 148;obtain⟨w7,q1,q2,q3⟩:=G0 bf ba aX;have bA:ay [] w6 w7:=((ay.refl [] w6).alloc _).trans q3 (by intro x hx;rw[au] at hx;omega);have Vl:Hid (ay [] w5 w7):=jW.trans' bA;have aJ:=ar q1;have J3:Hid (ay [b,G] J w7):=qR.out.trans' (Vl.out.mono (by simp));have c7:w7.cell? ⟨w6.heap.size,1,none⟩=some (.func (.func q) #[] #[]):=by rw[q2.cell];rfl
    have aI:=ar (af.out w7 J3.out).2;have aH:Hid (eK w7 b kX B (ps++cj X own)):=rz.out.keep Vl.out (by simp) (by simp);have aF:=ar (IX.out w7 kX own J3.out aH.out (by have :=aa.out;have :=Vl.out.size;omega) aa.out.2 ah.out.1 q hq);clear hq c5 jW ba aX W U bf q1 q2 q3 bA IX af aT bq tZ bI;rcases bP with rfl|rfl
    all_goals (
     go_wp2_with(with_reducible first|refine gS 148 aJ.out ?_|refine gL 111 aI.out ?_);refine aF.out.mono ?_;rintro e w8 ⟨r2,bW,lS,rfl,bE,Mj,uR,bn,bw⟩;have hY:az B (ps++cj X own)=az X (cj X own):=by rw[bz,SS.out]
     rw[hY] at bw;have ac:=qA own X;have bv:=ah.out.1;have aD:lS=G\/(w.heap.size<=lS/\lS<w8.heap.size):=by
      have W:=aa.out;have U:=Vl.out.size;have h3:=uR.size;have h4:=jt.out;have h5:=J3.out.size;omega
     have ag:ay [b,G] J w8:=J3.out.trans uR (by
      intro x hx;have W:=aa.out.2;simp only[aL,aK,bC] at hx ⊢;omega)
     rcases bw with ⟨rfl,pq,rfl⟩|⟨rfl,pq,rfl⟩
     ·have bG:((ps++cj X own)++[]).take (DC (ps.length:Int) ((ps++cj X own)++[]).length)=ps:=by
       have bV:ps.length<=((ps++cj X own)++[]).length:=by simp
       have :DC (ps.length:Int) ((ps++cj X own)++[]).length=ps.length:=by have :=Ju (ps.length:Int) ((ps++cj X own)++[]).length;omega
       rw[this,br,List.take_left]
      have DX:Hid (Calls prog 101 #[b,(ps.length:Int)] w8 (ME w8 b lS B ps)):=by
       have :=TP Mj (ps.length:Int);rwa[bG] at this
      have HP:Hid (∀w9,eK w9 b lS B ps->ay [b] w8 w9->mL w b G B ps i n (.returned (7:Int)) w9):=λw9 W U=>
       ml.out w9 lS 7 [] (by have :=U.size;omega) (by rw[br];exact W) (ag.trans U (by intro x hx;rw[au] at hx;left;simp[hx])) (by simp) (.inr (.inr ⟨own,ax.out,ah.out.2,.inl ⟨rfl,pq,rfl⟩⟩))
      clear hY ac bv aD ag pq bG Mj uR bE bn aF ml aI aH aJ c7 J3 Vl rz qR aa;go_wp2_with fail;refine Rr DX.out ?_;rintro w9 ⟨bg,PG⟩;have BC:=ar (HP.out w9 bg PG);clear bg PG HP DX;go_wp2_with fail;go_ret;exact BC.out
     ·have HP:Hid (mL w b G B ps i n (.returned (0:Int)) w8):=
       ml.out w8 lS 0 (mi X i.toNat n own) aD (by unfold mi;rw[<-aV];exact Mj) ag (by unfold mi;rw[aC];omega) (.inr (.inr ⟨own,ax.out,ah.out.2,.inr ⟨rfl,pq,rfl⟩⟩))
      clear hY ac bv aD ag pq Mj uR bE bn aF ml aI aH aJ c7 J3 Vl rz qR aa;go_wp2_with fail;go_ret;exact HP.out)
  ·rw[aQ hR] at Bu
   have HX:Hid (nV (az B ps) i n 1 []):= .inl ⟨rfl,λh=>hR h.2,rfl⟩;obtain⟨IM,av⟩:=hh2 (IA.out J (ay.refl _ _)) (Bu.out J fI.out);clear hi hR IA Bu HB;generalize aM n v=Z at *;go_in;go_wp2_with fail;rw[ru.out];refine C' (HI.out _) ?_;go_wp2_with((with_reducible show wpList _ _ _ (⟨_,.load 111 (.tmp 5),_,_,_,_⟩::_) _ _);refine eA (by first|rfl|simp[Region.wanted,yielded]) 111 (.tmp 5) rfl _ rfl _ IM.out ?_);refine Rr av.out λw2 ae=> ?_;have HP:=ar (j6.out w2 1 (fI.out.trans' ae) HX.out);clear ae;go_wp2_with fail;go_ret;exact HP.out
 ·rw[aQ hi] at HI
  have HP:=ar (j6.out J 1 fI.out (.inl ⟨rfl,λh=>hi h.1,rfl⟩));clear hi j6 Bu IA HB;generalize aM n v=Z at *;go_in;go_wp2_with fail;rw[ru.out];refine C' (HI.out _) ?_;go_wp2_with fail;go_ret;exact HP.out
def ey (B:List Int) (k:Nat):List Nat:=((B.take k).filter λx=>x != 0).map Int.toNat
def dm (n:bT):List Nat:=ey n.B 13
theorem LF (B:List Int)(k:Nat)(z:k<B.length):ey B (k+1)=ey B k++(if B.getD k 0=0 then [] else [(B.getD k 0).toNat]):=by
 unfold ey;rw[bP z,eJ,eu]
 congr 1
 have :B.getD k 0=B[k]:=by simp[z]
 rw[this];by_cases h:B[k]=0
 ·simp[h]
 ·simp[h]
theorem AB (B:List Int)(k:Nat):(ey B k).length<=k:=by
 unfold ey;rw[bZ];exact cE (fQ _ _) (by rw[aJ];omega)
theorem SY{ws:World}(U:ay [] ws w){va:Value}{own:List Nat}(hO:w.ownsRow ws.heap.size 3 1 va own.length (dK own))(n:bT)(v:Value)(hB:n.B.length=13)(h0:∀k,0<=n.B.getD k 0)(hl:own.length<=1000):
  Calls prog 163 #[va,aM n v] w λe w'=>∃u,e=(u:Value)/\w'.ownsRow ws.heap.size 3 1 u (own++dm n).length (dK (own++dm n))/\ay [] ws w':=by
 obtain⟨i0,hi,ag,ah,af⟩:=dc Tryz.info_int;have au:=U.size;have aa:=bh.new w (aM n v) 111;have sf:Hid ((loadVar 109 ⟨w.heap.size,4,none⟩).run prog (w.alloc (.cells (aM n v) 111))= .ok (.agg (zs n.B).toArray) (w.alloc (.cells (aM n v) 111))):=fA aa hB (gG v hB).f4;have HZ:Hid (∀k,k<13->(zs n.B).toArray[k]? =some (.int .i64 (n.B.getD k 0))):=λk U=>by rw[aF,gK (by omega)]
 have ac:Hid ((w.alloc (.cells (aM n v) 111)).ownsRow ws.heap.size 3 1 va (own++ey n.B 0).length (dK (own++ey n.B 0))/\ay [] ws (w.alloc (.cells (aM n v) 111))):=by
  have :own++ey n.B 0=own:=by simp[ey]
  rw[this];exact⟨hO.alloc _,U.alloc _⟩
 obtain⟨HB,H0⟩:=hh2 hB h0;have Vm:Hid (ey n.B 13=dm n):=rfl;clear hO aa U hB h0;generalize aM n v=Z,(zs n.B).toArray=ZB at *;go_in;go_wp2_with(with_reducible refine gL 109 sf.out ?_);go_loopg [0,9] 13 (λgh s0 s9 wx=>∃k:Nat,k+gh=13/\s9= .int .i64 (k:Int)/\Hid (wx.ownsRow ws.heap.size 3 1 s0 (own++ey n.B k).length (dK (own++ey n.B k))/\ay [] ws wx))
 case atStart=>exact⟨0,by omega,rfl,ac.out⟩
 case round=>
  clear ac sf;obtain⟨k,U,rfl,J⟩:=hrel;cases gk with
  |zero=>
   obtain rfl:k=13:=by omega
   have HE:=ar J.out;rw[Vm.out] at HE;clear U J;go_wp2_with fail;go_ret;exact⟨_,rfl,HE.out⟩
  |succ gg=>
   have mn:k<13:=by omega
   have ax:(k:Int)<13:=by omega
   have cJ:(0:Int)<=(k:Int):=by omega
   have Iv:=yR mn (HZ.out k mn);have ak:=H0.out k;have HS:=ar (LF n.B k (by rw[HB.out];exact mn));have ae:=AB n.B k;generalize n.B.getD k 0=x at *;by_cases V:x=0
   ·have e0:(x != 0)=false:=by rw[V];rfl
    have HN:Hid (wr.ownsRow ws.heap.size 3 1 u0 (own++ey n.B (k+1)).length (dK (own++ey n.B (k+1)))/\ay [] ws wr):=by
     show _/\_;rw[HS.out,aB V,br];exact J.out
    clear J HS V;go_wp2_with fail;go_roundg gg;case measure=>omega
    case rel=>exact⟨k+1,by omega,by go_num,HN.out⟩
   ·have e0:(x != 0)=true:=bne_iff_ne.2 V
    obtain⟨z,jA⟩:=hh2 J.out.1 J.out.2;have aj:=J.out.2.size;have av:(own++ey n.B k).length<=2000:=by rw[aC];omega
    have nG:Hid (own++ey n.B (k+1)=(own++ey n.B k)++[x.toNat]):=by
     show _=_;rw[HS.out,aA V,aV]
    have HI:Hid (dK ((own++ey n.B k)++[x.toNat])=dK (own++ey n.B k)++[.int .i64 x]):=by
     show _=_;have ai:((x.toNat:Nat):Int)=x:=by omega
     rw[uk];show _++[Value.int .i64 ((x.toNat:Nat):Int)]=_;rw[ai]
    have Ex:Hid (((own++ey n.B k)++[x.toNat]).length=(own++ey n.B k).length+1):=aC;clear J HS ae;generalize own++ey n.B k=L at *;generalize hq:L.length=q at *;go_wp2_with(at_builtin;refine eU _ rfl _ _ 141 rfl ws.heap.size 3 i0 (.int .i64 0) 1 8 underlying141 hi ag ah af rfl (by decide) u0 q _ rfl (z.out.alloc _) ⟨wr.heap.size,0,none⟩ 1 1 [.int .i64 x] rfl rfl ?c1 ?c2 (by unfold maxLen;omega) (by omega) (by simp;omega) ?_);case c1=>exact lI _ [_] _ _ rfl
    case c2=>simp[Value.oneCell']
    intro v' w1 G h W;have HN:Hid (w1.ownsRow ws.heap.size 3 1 v' (own++ey n.B (k+1)).length (dK (own++ey n.B (k+1)))/\ay [] ws w1):=by
     show _/\_;rw[nG.out,Ex.out,HI.out];exact⟨G,(jA.out.alloc _).grown h (dP z.out)⟩
    clear G h W z jA nG HI Ex V hq;go_wp2_with fail;go_roundg gg;case measure=>omega
    case rel=>exact⟨k+1,by omega,by go_num,HN.out⟩
def wR (X:List Int) (i:Nat) (n:bT) (own:List Nat):List (Int×Int):=cj X (own++dm n)++jT (824+8*i) (List.replicate 8 0) 8
def NZ (X:List Int) (i r:Int) (qs:List (Int×Int)):Prop:=
 (r=1/\¬(0<=i/\i<32)/\qs=[])\/(r=2/\(0<=i/\i<32)/\dR X i/\qs=[])\/(r=10/\(0<=i/\i<32)/\¬dR X i/\(∀n' h,¬eH X i n' h)/\qs=[])\/
  (r=0/\∃n own,eH X i n own/\qs=wR X i.toNat n own)
def G7 (w:World) (b z:Nat) (B:List Int) (ps:List (Int×Int)) (i:Int) (e:Ending) (w':World):Prop:=
 ∃r qs h,e=(r:Int)/\(h=z\/(w.heap.size<=h/\h<w'.heap.size))/\eK w' b h B (ps++qs)/\ay [b,z] w w'/\qs.length<=700/\NZ (az B ps) i r qs
def G8 (w:World) (X:List Int) (i:Int) (e:Ending) (w':World):Prop:=
 ∃v g l,e=(v:Value)/\Reads w' v g (dK l)/\ay [] w w'/\((∃n own,eH X i n own/\l=own++dm n)\/((∀n own,¬eH X i n own)/\l=[]))/\(l≠[]->w.heap.size<=g)
theorem abS:(aY (List.replicate 8 0)).toArray= #[.int .u64 0,.int .u64 0,.int .u64 0,.int .u64 0,.int .u64 0,.int .u64 0,.int .u64 0,.int .u64 0]:=rfl
theorem abT{V:Nat}(h:eK w b V B ps)(ae:In64 (az B ps))(Ew:V<w.heap.size)(ax:ps.length<=700000)(i:Int):
  Calls prog 179 #[b,i] w (G7 w b V B ps i):=by
 have HX:Hid ((az B ps).length=3128):=h.raw.lx;have hb:=h.raw.lt;obtain⟨vZ,uV,ED,zM,ac⟩:=hh5 h ae (get_at h ae i) ax (kC i);have rG:=dz;clear h ae ax;go_in;go_wp2_with fail;refine ED.out.mono ?_;rintro e w1 ⟨n,v,g,own,va,ga,r,rfl,hB,hE,hg,hO,xp,aB,hr⟩;obtain⟨w2,q1,q2,Mn,⟨aU,au,YP⟩,ak,aP⟩:=y9 aB hB hE hO xp;obtain⟨jz,rN,WQ,aH,fx,HR,HB⟩:=hh7 q1 q2 au YP ak hr hB;clear hB hE hg hO xp aB hr q1 q2 Mn au YP ak aP ED;have j6:Hid (NZ (az B ps) i r []->G7 w b V B ps i (.returned r) w2):=λh=>
  ⟨r,[],V,rfl,.inl rfl,by rw[br];exact vZ.out.keep fx.out (by simp) (by simp),fx.out.mono (by simp),by simp,h⟩
 by_cases LG:r=0
 ·subst LG
  have z:eH (az B ps) i n own:=by
   rcases HR.out with ⟨h,-⟩|⟨h,-⟩|⟨h,-⟩|⟨-,h⟩
   ·omega
   ·omega
   ·omega
   ·exact h
  have aN:own.length<=32:=by have h1:=z.ownLen;have U:=vH z.right;omega
  have aG:(dm n).length<=13:=AB _ _;have hi:=z.rng;have ag:gF i=((824+8*i.toNat:Nat):Int):=by rw[gF,aA];omega
  rw[ag] at ac;have ai:∀k,0<=n.B.getD k 0:=λk=>(vA z.right HB.out k).1
  have W:w2.ownsRow w.heap.size 3 1 va own.length (dK own):=by
   obtain⟨⟨h0,h5⟩,U⟩:=WQ.out;rcases h5 with h5|⟨g',cap,aJ,e1,e2,e3⟩
   ·exact⟨h0,.inl h5⟩
   ·exact⟨h0,.inr ⟨g',cap,aJ,e1,by have :=aH.out;omega,e3⟩⟩
  obtain⟨HW,aT,HI⟩:=hh3 (SY fx.out W n v HB.out ai (by omega)) z hi;have G:Hid ((own++dm n).length<=45):=by show _<=_;rw[aC];omega
  clear HR j6 z aN aG ag ai W hi;generalize WR:aM n v=ZN at *;clear WR;generalize aM cg (.slice none 0 0)=ZZ at *;go_wp2_with(with_reducible first|refine gS 111 jz.out ?_|refine gL 111 rN.out ?_);refine HW.out.mono ?_;rintro e w3 ⟨u,rfl,hu,J⟩;obtain⟨gu,aj,aQ⟩:=l9.of_row hu;obtain⟨oI,aD⟩:=hh2 J (Lz (vZ.out.keep J (by simp) (by simp)) uV.out (by have :=J.size;omega) (by have :=zM.out;omega) aj.reads (by have :=G.out;omega) (λ_=>by omega));clear hu J aj aQ HW;go_wp2_with fail;refine Rr aD.out ?_;rintro w4 ⟨aa,aR,av,ah⟩;have aF:=qA (own++dm n) (az B ps);have Ga:=ar (sk av (by have :=zM.out;have :=G.out;rw[aC];omega) (824+8*i.toNat) (by have :=HI.out;omega) (List.replicate 8 0) (by simp));rw[abS] at Ga;have qb:Hid (ay [b,V] w w4):=(oI.out.mono (by simp)).trans' ah;have aO:Hid (aa=V\/(w.heap.size<=aa/\aa<w4.heap.size)):=by
   have :=oI.out.size;show _\/_;omega
  have PF:=ar aF;clear aR av ah aF aD;generalize ((824+8*i.toNat:Nat):Int)=pi at *;go_wp2_with fail;refine C' (ac.out _) ?_;go_wp2_with fail;refine Rr Ga.out ?_;rintro w5 ⟨aS,aI,af,kR⟩;have HP:Hid (G7 w b V B ps i (.returned (0:Int)) w5):=by
   have h1:=aO.out;have U:=qb.out.size;have h3:=kR.size;refine⟨0,wR (az B ps) i.toNat n own,aS,rfl,by omega,by unfold wR;rw[<-aV];exact af,qb.out.trans kR (by intro x hx;simp only[aL,aK,bC] at hx ⊢;omega),?_,.inr (.inr (.inr ⟨rfl,n,own,aT.out,rfl⟩))⟩;have h4:=PF.out;have h5:=G.out;unfold wR;rw[aC,oY];omega
  clear aI af kR Ga;go_wp2_with fail;go_ret;exact HP.out
 ·have hd:NZ (az B ps) i r []:=by
   rcases HR.out with ⟨h1,U,-⟩|⟨h1,U,h3,-⟩|⟨h1,U,h3,h4,-⟩|⟨h,-⟩
   ·exact .inl ⟨h1,U,rfl⟩
   ·exact .inr (.inl ⟨h1,U,h3,rfl⟩)
   ·exact .inr (.inr (.inl ⟨h1,U,h3,h4,rfl⟩))
   ·exact absurd h LG
  have HP:=ar (j6.out hd);have e0:(r != 0)=true:=bne_iff_ne.2 LG;clear hd j6 HR ac LG;generalize aM n v=ZN,aM cg (.slice none 0 0)=ZZ at *;go_wp2_with(with_reducible refine gS 111 jz.out ?_);go_ret;exact HP.out
theorem abU (h:eK w b gp B ps)(U:In64 (az B ps))(i:Int):
  Calls prog 132 #[b,i] w (G8 w (az B ps) i):=by
 have ED:=ar (get_at h U i);have rG:=dz;clear h U;go_in;go_wp2_with fail;refine ED.out.mono ?_;rintro e w1 ⟨n,v,g,own,va,ga,r,rfl,hB,hE,hg,hO,xp,ae,hr⟩;obtain⟨w2,q1,q2,Mn,⟨au,af,YP⟩,ac,ai⟩:=y9 ae hB hE hO xp;obtain⟨jz,rN,WQ,aj,fx,HR,HB⟩:=hh7 q1 q2 af YP ac hr hB;clear hB hE hg hO xp ae hr q1 q2 Mn af YP ac ai ED;by_cases LG:r=0
 ·subst LG
  have z:eH (az B ps) i n own:=by
   rcases HR.out with ⟨h,-⟩|⟨h,-⟩|⟨h,-⟩|⟨-,h⟩
   ·omega
   ·omega
   ·omega
   ·exact h
  have ag:own.length<=32:=by have h1:=z.ownLen;have h2:=vH z.right;omega
  have V:∀k,0<=n.B.getD k 0:=λk=>(vA z.right HB.out k).1
  have G:w2.ownsRow w.heap.size 3 1 va own.length (dK own):=by
   obtain⟨⟨h0,h5⟩,h2⟩:=WQ.out;rcases h5 with h5|⟨g',cap,ah,e1,e2,e3⟩
   ·exact⟨h0,.inl h5⟩
   ·exact⟨h0,.inr ⟨g',cap,ah,e1,by have :=aj.out;omega,e3⟩⟩
  obtain⟨HW,ak⟩:=hh2 (SY fx.out G n v HB.out V (by omega)) z;clear HR z ag V G;generalize WR:aM n v=ZN at *;clear WR;generalize aM cg (.slice none 0 0)=ZZ at *;go_wp2_with(with_reducible first|refine gS 111 jz.out ?_|refine gL 111 rN.out ?_);refine HW.out.mono ?_;rintro e w3 ⟨u,rfl,hu,aa⟩;obtain⟨gu,W,J⟩:=l9.of_row hu;have HP:Hid (G8 w (az B ps) i (.returned u) w3):=⟨u,gu,_,rfl,W.reads,aa,.inl ⟨n,own,ak.out,rfl⟩,λ_=>J⟩;clear hu aa W J HW;go_wp2_with fail;go_ret;exact HP.out
 ·have HP:Hid (G8 w (az B ps) i (.returned ()) w2):=by
   refine⟨_,0,[],rfl,GQ _ _,fx.out,.inr ⟨λn' cW hs=> ?_,rfl⟩,λh=>absurd rfl h⟩;rcases HR.out with ⟨h1,h2,-⟩|⟨h1,h2,h3,-⟩|⟨h1,h2,h3,h4,-⟩|⟨h,-⟩
   ·exact h2 hs.rng
   ·exact hs.notFree h3
   ·exact h4 _ _ hs
   ·exact LG h
  have e0:(r != 0)=true:=bne_iff_ne.2 LG;clear HR LG;generalize aM n v=ZN,aM cg (.slice none 0 0)=ZZ at *;go_wp2_with(with_reducible refine gS 111 jz.out ?_);go_ret;exact HP.out
theorem nV.free(h:nV X i n r qs)(hi:0<=i/\i<32)(W:dR X i):
  (r=1/\¬cm n/\qs=[])\/(r=7/\cm n/\(aZ X).length<dv n/\qs=[])\/(r=0/\cm n/\dv n<=(aZ X).length/\qs=mi X i.toNat n []):=by
 rcases h with ⟨J,G,z⟩|⟨-,-,G,-⟩|⟨own,J,G,z⟩
 ·exact .inl ⟨J,λhR=>G ⟨hi,hR⟩,z⟩
 ·exact absurd W G
 ·have ho:own=[]:=by
   rcases G with ⟨-,h⟩|⟨m,h⟩
   ·exact h
   ·exact absurd W h.notFree
  subst ho;rcases z with ⟨z,U,V⟩|⟨z,U,V⟩
  ·exact .inr (.inl ⟨z,J.2,U,V⟩)
  ·exact .inr (.inr ⟨z,J.2,U,V⟩)
theorem nV.over{m:bT}{G:List Nat}(h:nV X i n r qs)(U:eH X i m G):
  (r=1/\¬cm n/\qs=[])\/(r=7/\cm n/\(aZ (az X (cj X G))).length<dv n/\qs=[])\/(r=0/\cm n/\dv n<=(aZ (az X (cj X G))).length/\qs=mi X i.toNat n G):=by
 rcases h with ⟨V,J,z⟩|⟨-,-,-,J,-⟩|⟨own,V,J,z⟩
 ·exact .inl ⟨V,λhR=>J ⟨U.rng,hR⟩,z⟩
 ·exact absurd U (J _ _)
 ·have ho:own=G:=by
   rcases J with ⟨h,-⟩|⟨m',h⟩
   ·exact absurd h U.notFree
   ·exact(U.uniq h).2
  subst ho;rcases z with ⟨z,W,h5⟩|⟨z,W,h5⟩
  ·exact .inr (.inl ⟨z,V.2,W,h5⟩)
  ·exact .inr (.inr ⟨z,V.2,W,h5⟩)
def abV (X:List Int) (n:bT) (i r:Int) (qs:List (Int×Int)):Prop:=
 (r=7/\i=0/\(∀k:Nat,k<32->¬dR X (k:Int))/\qs=[])\/
 ∃j:Nat,j<32/\dR X (j:Int)/\(∀k:Nat,k<j->¬dR X (k:Int))/\((r=1/\i=0/\¬cm n/\qs=[])\/(r=7/\i=0/\cm n/\(aZ X).length<dv n/\qs=[])\/(r=0/\i=(j:Int)/\cm n/\dv n<=(aZ X).length/\qs=mi X j n []))
def LH (w:World) (b z:Nat) (B:List Int) (ps:List (Int×Int)) (n:bT) (e:Ending) (w':World):Prop:=
 ∃i r qs h,e= .returned (.tuple #[(i:Int),(r:Int)])/\(h=z\/(w.heap.size<=h/\h<w'.heap.size))/\eK w' b h B (ps++qs)/\ay [b,z] w w'/\qs.length<=700/\abV (az B ps) n i r qs
theorem Vn (h:eK w b U B ps)(af:In64 (az B ps))(hT:∀z,ay [b,U] w z->lD z)(Ew:U<w.heap.size)(ah:ps.length<=700000)(n:bT)(v:Value)(g:Nat)(hB:n.B.length=13)(hE:bD w v g n.E)
  (hN:∀k,k<n.E.length->(eX n.E k).size<=9223372036854775807) (av:n.E.length≠0->g≠b/\g≠U):
  Calls prog 147 #[b,aM n v] w (LH w b U B ps n):=by
 have cJ:ay [] w (w.alloc (.cells (aM n v) 111)):=(ay.refl _ _).alloc _;have ae:=bh.new w (aM n v) 111;obtain⟨X,hX⟩:∃X,az B ps=X:=⟨_,rfl⟩;obtain⟨W0,ac⟩:∃W0,w.alloc (.cells (aM n v) 111)=W0:=⟨_,rfl⟩;rw[ac] at cJ ae;have mY:Hid (∀z,ay [] W0 z->(loadVar 111 w.heap.size).run prog z= .ok (.agg (aM n v)) z):=λz V=>b9 (ae.keep V (by simp)) hB
 have zX:Hid (∀z (i:Int),ay [] W0 z->Calls prog 129 #[b,(i:Int)] z λe w'=>e=(decide ((0<=i/\i<32)/\dR X i))/\ay [] z w'):=λz i V=>by
  have :=Fe (h.keep (cJ.trans' V) (by simp) (by simp)) i;rwa[hX] at this
 have C4:Hid (∀z (i:Int),ay [] W0 z->Calls prog 49 #[b,(i:Int),aM n v] z (λe w'=>∃r qs G,e=(r:Int)/\(G=U\/(w.heap.size<=G/\G<w'.heap.size))/\eK w' b G B (ps++qs)/\ay [b,U] w w'/\qs.length<=700/\nV X i n r qs)):=λz i V=>by
  have uN:=cJ.trans' V;have :=sG (h.keep uN (by simp) (by simp)) af (λwy hy=>hT wy ((uN.mono (by simp)).trans' hy)) (by have :=uN.size;omega) ah i n v g hB (hE.keep uN (by simp)) hN av;refine this.mono ?_;rintro e w' ⟨r,qs,G,J,W,h3,h4,h5,h6⟩;rw[hX] at h6;exact⟨r,qs,G,J,by have :=uN.size;omega,h3,(uN.mono (by simp)).trans' h4,h5,h6⟩
 have j6:Hid (∀z,ay [] W0 z->(∀k:Nat,k<32->¬dR X (k:Int))->LH w b U B ps n (.returned (.tuple #[(0:Int),(7:Int)])) z):=λz V hf=>
  ⟨0,7,[],U,rfl,.inl rfl,by rw[br];exact h.keep (cJ.trans' V) (by simp) (by simp),(cJ.trans' V).mono (by simp),by simp,.inl ⟨rfl,rfl,by rw[hX];exact hf,rfl⟩⟩
 have aa:Hid (∀z i r qs G,(G=U\/(w.heap.size<=G/\G<z.heap.size))->eK z b G B (ps++qs)->ay [b,U] w z->qs.length<=700->abV X n i r qs->LH w b U B ps n (.returned (.tuple #[(i:Int),(r:Int)])) z):=λz i r qs G J W h3 h4 h5=>
  ⟨i,r,qs,G,rfl,J,W,h3,h4,by rw[hX];exact h5⟩
 have ru:=ar ac;clear h af hT Ew ah hE hN av hX ac cJ ae hB;generalize aM n v=Z at *;go_in;go_wp2_with fail;rw[ru.out];go_loopg [8] 32 (λgh s8 z=>∃k:Nat,k+gh=32/\s8= .int .i64 (k:Int)/\Hid (ay [] W0 z/\∀j:Nat,j<k->¬dR X (j:Int)))
 case atStart=>exact⟨0,by omega,rfl,ay.refl _ _,λj hj=>by omega⟩
 case round=>
  obtain⟨k,V,rfl,HP⟩:=hrel;cases gk with
  |zero=>
   obtain rfl:k=32:=by omega
   have HE:=ar (j6.out wr HP.out.1 HP.out.2);clear V j6 aa C4 zX mY;go_wp2_with fail;go_ret2;exact HE.out
  |succ gg=>
   have ax:(k:Int)<32:=by omega
   have vI:k<32:=by omega
   go_wp2_with fail;refine Rr (zX.out wr (k:Int) HP.out.1) λw2 aj=> ?_;have fx:Hid (ay [] W0 w2):=HP.out.1.trans' aj;clear aj;by_cases hf:dR X (k:Int)
   ·rw[bu (show(0<=(k:Int)/\(k:Int)<32)/\dR X (k:Int) from ⟨⟨by omega,ax⟩,hf⟩)]
    obtain⟨rN,HF⟩:=hh2 (mY.out w2 fx.out) hf;clear hf;go_wp2_with(with_reducible refine gL 111 rN.out ?_);refine(C4.out w2 (k:Int) fx.out).mono ?_;rintro e w3 ⟨r,qs,G,rfl,au,ak,ai,SK,ag⟩;have hr:=ag.free ⟨by omega,ax⟩ HF.out;rw[aG] at hr;have HY:=ar (λi hr=>aa.out w3 i r qs G au ak ai SK hr);clear au ak ai SK ag j6 aa C4 zX mY rN fx V;rcases hr with ⟨rfl,J,W⟩|⟨rfl,J,W,h3⟩|⟨rfl,J,W,h3⟩
    ·have HE:=ar (HY.out 0 (.inr ⟨k,vI,HF.out,HP.out.2,.inl ⟨rfl,rfl,J,W⟩⟩))
     clear J W HY vI;go_wp2_with fail;go_ret2;exact HE.out
    ·have HE:=ar (HY.out 0 (.inr ⟨k,vI,HF.out,HP.out.2,.inr (.inl ⟨rfl,rfl,J,W,h3⟩)⟩))
     clear J W h3 HY vI;go_wp2_with fail;go_ret2;exact HE.out
    ·have HE:=ar (HY.out (k:Int) (.inr ⟨k,vI,HF.out,HP.out.2,.inr (.inr ⟨rfl,rfl,J,W,h3⟩)⟩))
     clear J W h3 HY vI;go_wp2_with fail;go_ret2;exact HE.out
   ·rw[aQ (show ¬((0<=(k:Int)/\(k:Int)<32)/\dR X (k:Int)) from λh=>hf h.2)]
    have Qs:Hid (ay [] W0 w2/\∀j:Nat,j<k+1->¬dR X (j:Int)):=⟨fx.out,λj hj=>by
     rcases Nat.lt_succ_iff_lt_or_eq.1 hj with h|h
     ·exact HP.out.2 j h
     ·rw[h];exact hf⟩
    clear hf;go_wp2_with fail;go_roundg gg;case measure=>omega
    case rel=>exact⟨k+1,by omega,by go_num,Qs.out⟩
end
section
open Go.RowKit
open Go.RowKit
open Go.RowKit
open Go.RowKit
variable{w w':World}{B X:List Int}{i r:Int}{e:Ending}{n:bT}{U b gp:Nat}{ps qs:List (Int×Int)}
end
end Go.Proofs.YtepbpdipenedhaaGreatDoor
