/- Lemmas. -/
import Derived.Test.YtimcfdnbpkiniaaGreatDoorM32
import Derived.LaidMore
import Derived.Stop.Joined
import Derived.Laws.IdiomArrays
set_option maxHeartbeats 4000000
set_option maxRecDepth 100000
namespace Go.Proofs.YtimcfdnbpkiniaaGreatDoor
open Go.Proofs.Tryz
section
open Go.RowKit
variable{w:World}{b gf gl gn:Nat}{X:List Int}{M:Nat->Nd}
end
section
open Go.RowKit
variable{w:World}{b gf gl gn:Nat}{X:List Int}{M:Nat->Nd}
theorem R5{xs:List Int}(h:In64 xs){ps:List (Int×Int)}(z:qE xs=some ps)(k:Nat):0<=l9 ps k/\l9 ps k<18446744073709551616:=by
 unfold qE at z;split at z
 ·cases z
  unfold l9 lG;rw[aj,bJ];by_cases J:k<BU xs
  ·rw[cC J]
   show 0<=(oD xs _).getD _ 0/\(oD xs _).getD _ 0<_;by_cases G:2*k+1<2*BU xs
   ·rw[Ze _ _ _ G]
    exact h _
   ·rw[aj,aP (by rw[mP];omega)]
    simp
  ·rw[aP (by simp;omega)]
   simp
 ·cases z
def R6 (w:World) (e:Ending) (w':World):Prop:=
 ∃f b gn gl gf Y,e= .returned (.tuple #[(f:Nat),(b:Nat)])/\Live w f b gn gl gf E0 Y 3520 w'/\(aZ Y).length=255
theorem Pw (hT:kN w){k:Int}(hk:k=1\/k=2):Calls prog 9 #[k] w (R6 w):=by
 have HN:=ado w 3128;rw[show uN 3128=3128 from rfl] at HN;have HN:=ar HN;have aa:Hid (∀W b gn gl gf,ay [] w W->(w.heap.size<=b/\w.heap.size<=gn/\w.heap.size<=gl/\w.heap.size<=gf)->fx W b gn gl gf (calm (List.replicate 3128 0) 0)->Calls prog 21 #[(b:Nat),k] W λe w2=>e=(0:Int)/\Hid (∃Y,Calls prog 27 #[(b:Nat)] w2 λe w3=>∃f,e= .returned (.tuple #[(f:Nat),(0:Int)])/\Hid (R6 w (.returned (.tuple #[(f:Nat),(b:Nat)])) w3))):=λW b gn gl gf J h hp=>by
  refine Rr (aeX hp (by omega) (by omega) (by simp) (hT.keep J) hk) ?_;rintro w2 ⟨Y,G,po,U,ac⟩;refine⟨rfl,Y,?_⟩;have ho:=U.old (by show Y.length≠0;have :=G.len;omega);refine(O9 (b:=b) (gn:=gn) (gl:=gl) (gf:=gf) (R:=λs wx=>s=calm Y (0+3520)/\fx wx b gn gl gf s/\ay [] w2 wx) (λs wa wb hk ⟨h1,h2,h3⟩=>⟨h1,h2.keep hk (by simp) (by simp),h3.trans' hk⟩) ?_).mono ?_
  ·refine(Pb U G.len (aap G.w64) G.1).mono ?_
   rintro e w3 ⟨rfl,z⟩;have W6:=U.keep z (by simp) (by simp);exact⟨rfl,_,Fx G.len G.w64,W6,z.size,rfl,W6,z⟩
  ·rintro e w3 (⟨x,s,rfl,rfl,-,af,rfl,-⟩|⟨f,s,rfl,-,hf,ag,-,rfl,W6,z⟩)
   ·exfalso
    obtain⟨-,T,own,EY⟩:=G;exact af _ ⟨T,own,EY⟩
   ·refine⟨f,rfl,f,b,gn,gl,gf,Y,rfl,⟨hf,G,⟨_,⟨by omega,by omega⟩,W6⟩,?_,?_,?_⟩,po⟩
    ·have h1:ay [] w w2:=J.trans ac λy hy=> .inr (by simp only[aL,aK,bC] at hy;omega)
     exact h1.trans' z
    ·have :=J.size
     have :=ac.size;exact⟨by omega,h.1,h.2.1,h.2.2.1,h.2.2.2⟩
    ·intro V
     simp only[aL,aK,bC] at V;omega
 clear hT hk;generalize R6 w=Q at *;go_in;go_wp2_with fail;refine HN.out.mono ?_;rintro e W ⟨b,gn,gl,gf,rfl,hp,h,ae⟩;rw[bE] at hp;have HF:=ar (aa.out W b gn gl gf ae h (by unfold calm;rw[bE];exact hp));clear hp h ae HN aa;go_wp2_with fail;refine Rr HF.out λw2 V=> ?_;obtain⟨Y,V⟩:=V.out;have HM:=ar V;clear V HF;go_wp2_with fail;refine HM.out.mono ?_;rintro e w3 ⟨f,rfl,hq⟩;clear HM;go_wp2_with fail;exact hq.out
theorem Px (w:World):(zeroValue 42).run prog w= .ok (.agg #[(0:Int),(),(),(0:Int),(0:Int),()]) w:=by kernel_rfl
theorem A0 (w:World)(g:Nat):gN w (.slice none 0 0) g []:=⟨none,0,rfl,by simp,by simp[maxLen],λh=>absurd rfl h⟩
theorem aaN (w:World)(s:ByteArray)(T:Nat):gN (w.alloc (.cells #[.string s] T)) (.slice w.heap.size 1 1) w.heap.size [s]:=by
 have h:=bh.new w #[.string s] T;refine⟨some ⟨w.heap.size,0,none⟩,1,rfl,aH _,by unfold maxLen;omega,λ_=>⟨h.lt,0,rfl,λj z=> ?_⟩⟩;rw[h.cell,bc,<-aF];rfl
theorem WL (E N K L I:Int)(vd h:Value)(w:World):(Instr.field 38 (.agg #[E,N,K,L,I,vd,h]) 1).run prog w= .ok (.int .i64 N) w:=by kernel_rfl
def opD (nm:ByteArray):jz:=⟨1,[nm],[],0,0,[]⟩
theorem afc:(ko E0 (opD ⟨#[100]⟩)).2.E=0/\(ko E0 (opD ⟨#[100]⟩)).2.N=1:=by
 rw[LW (.inr rfl)]
 decide+kernel
theorem WM (hT:kN w):Calls prog 18 #[] w λe w'=>e=true/\ay [] w w':=by
 obtain⟨zX,Tj⟩:=hh2 (Pw hT (k:=2) (.inr rfl)) hT;clear hT;go_in;go_wp2_with fail;refine zX.out.mono ?_;rintro e z ⟨f,b,gn,gl,gf,Y,rfl,hl,po⟩;have hk:ay [] z (z.alloc (.cells #[.string ⟨#[100]⟩] 9)):=(ay.refl _ _).alloc _;have hI:EZ (z.alloc (.cells #[.string ⟨#[100]⟩] 9)) (opD ⟨#[100]⟩) (.slice z.heap.size 1 1) (.slice none 0 0) (.slice none 0 0):=
  ⟨⟨_,aaN _ _ _⟩,λs hs=>by rw[au.1 hs];decide,⟨0,A0 _ _⟩,by simp[opD],⟨0,qF _ _⟩,by simp[opD]⟩
 have J:=DF (hl.keep0 hk) Tj.out (by omega) hI;have G:Hid (Calls prog 11 #[f,.agg #[(1:Int),.slice z.heap.size 1 1,(),(0:Int),(0:Int),()]] (z.alloc (.cells #[.string ⟨#[100]⟩] 9)) λe w'=>∃E K L I vd U,e= .returned (.agg #[(E:Int),(1:Int),(K:Int),(L:Int),(I:Int),vd,U])/\Hid (ay [] w w')):=by
  show Calls _ _ _ _ _;refine J.mono ?_;rintro e w' ⟨r,Z,rfl,⟨vd,U,rfl,-⟩,-,h⟩;obtain⟨e1,e2⟩:=afc;have hN:r.N=1/\ay [] w w':=by
   rcases h with ⟨h0,h1,⟨-,-,-,-,W⟩|rfl⟩|⟨-,-,W,X',h6⟩
   ·rw[po,e1] at W
    omega
   ·exact absurd e1 h0
   ·refine⟨?_,h6.keeps⟩
    rcases W with rfl|⟨h7,-⟩
    ·exact e2
    ·exact absurd h7 (by decide)
  refine⟨r.E,r.K,r.L,r.I,vd,U,?_,hN.2⟩;rw[zo,hN.1]
 have ac:=Px;clear hl po hk hI J zX Tj;go_wp2_with fail;refine G.out.mono ?_;rintro e w2 ⟨E,K,L,I,vd,U,rfl,V⟩;have aa:=WL E 1 K L I vd U;clear G;go_wp2_with fail;go_ret;exact⟨rfl,V.out⟩
def Ir (w:World) (xs:List Int) (e:Ending) (w':World):Prop:=
 ∃g,e= .returned (.slice (g:Nat) xs.length xs.length)/\eZ w' (.slice (g:Nat) xs.length xs.length) g 70 1 xs.length (aY xs)/\w.heap.size<=g/\ay [] w w'
theorem WN{s:kp}(h:fx w b gn gl gf s)(xd:On s):
  Calls prog 26 #[b] w (Ir w s.now):=by
 obtain⟨H,Vs⟩:=hh2 h xd.2.2;have hm:=h.n9;have Ed:=ar (λW (hk:ay [] w W)=>PQ (h.keep hk (by simp) (by simp)));clear xd;generalize aa:s.now=xs at *;obtain⟨m,z⟩:∃m,xs.length=m:=⟨_,rfl⟩;rw[z] at Ed Vs hm;have F9:=ar (Ed.out w (ay.refl _ _));have af:=xL m (by omega) (m:Int) rfl m (.inr rfl) w;have U:=AO w m (by omega);rw[show List.replicate m (0:Int)=dM 0 xs 0 by rw[kJ,z]] at U;obtain⟨U,J⟩:=hh2 U z;generalize madeCells #[Value.int .u64 0] m=mc at *;clear h aa z;go_in;go_wp2_with(go_at_call 45;refine C' F9.out ?_);go_loopg [4,5,6] m (λgh s4 s5 s6 W=>∃k:Nat,k+gh=m/\s4= .int .i64 (k:Int)/\
  Hid (eZ W (.slice w.heap.size m m) w.heap.size 70 1 m (aY (dM 0 xs k))/\ay [] w W))
 case atStart=>exact⟨0,by omega,rfl,U.out,(ay.refl _ _).alloc _⟩
 case round=>
  obtain⟨k,hk,rfl,G⟩:=hrel;have xC:=ar (Ed.out wr G.out.2);cases gk with
  |zero=>
   obtain rfl:k=m:=by omega
   have ae:¬(k:Int)<(k:Int):=by omega
   have ac:Hid (Ir w xs (.returned (.slice w.heap.size k k)) wr):=by
    obtain⟨ho,fV⟩:=G.out;have e:dM 0 xs k=xs:=by
     have :=lR (0:Int) xs;rwa[J.out] at this
    rw[e] at ho;have hm:=J.out;unfold Ir;rw[hm];exact⟨_,rfl,ho,aH _,fV⟩
   go_wp2_with fail;refine C' xC.out ?_;go_wp2_with fail;go_ret;exact ac.out
  |succ gg=>
   have ae:(k:Int)<(m:Int):=by omega
   have hL:=KI (H.out.keep G.out.2 (by simp) (by simp)) (k:Int);rw[(Vs.out k (by omega)).1,(Vs.out k (by omega)).2] at hL;have HL:=ar hL;have hl:=kT (0:Int) xs k (by rw[J.out];omega);rw[J.out] at hl;obtain⟨-,-,hc,hf⟩:=G.out.1.cell (by omega);have d0:=(hc k (by omega)).trans (dF (l:=dM 0 xs k) (by omega));have f0:=hf k;have HE:=ar (kM (0:Int) xs k (by rw[J.out];omega) (xs.getD k 0) (by simp[show k<xs.length by rw[J.out];omega]));generalize (dM 0 xs k).getD k 0=o1 at *;have V:=G.out.1.set k (.int .u64 (xs.getD k 0));rw[lI] at V;obtain⟨V,jr⟩:=hh2 V G.out.2;generalize xs.getD k 0=x at *;clear hc hf hl G hL;go_wp2_with fail;refine C' xC.out ?_;go_wp2_with(go_at_call 55;refine C' HL.out ?_);go_roundg gg;case measure=>omega
   case rel=>
    refine⟨k+1,by omega,by go_num,?_,jr.out.setCell (.inr (aH _)) _⟩;rw[<-HE.out];exact V.out
theorem R7 (J:X.length=3128)(h:In64 X):(uw X).length=3128/\In64 (uw X)/\(uw X).getD 8 0=0:=by
 have G:∀p∈[((8:Int),(0:Int))],0<=p.2/\p.2<18446744073709551616:=λp z=>by
  rw[au.1 z]
  decide
 unfold uw;cases hs:qE X with
 |some ps=>
  refine⟨by show(xK X ps).length=_;rw[PN,J],In64.put (In64.put h λp z=> ?_) G,Xb _ _ (by omega)⟩;obtain⟨j,U,rfl⟩:=bW z;have :=R5 h hs j;unfold l9 at this;rwa[aj,aD U] at this
 |none=>
  refine⟨by show(az X _).length=_;rw[cj,J],In64.put h G,?_⟩;show(az X _).getD 8 0=0;rw[lO];exact xI _ (by omega)
theorem aaO (x:Int):∃(y:Int) (m:Nat),x.tmod 3128=y/\ -3128<y/\y<3128/\(y+3128).tmod 3128=(m:Int)/\m<3128:=by
 have h: -3128<x.tmod 3128/\x.tmod 3128<3128:=by
  rcases Int.le_total 0 x with h|h
  ·rw[Int.tmod_eq_emod_of_nonneg h];omega
  ·have e:x.tmod 3128= -((-x)%3128):=by rw[<-Int.tmod_eq_emod_of_nonneg (by omega),Int.neg_tmod,Int.neg_neg]
   rw[e];omega
 refine⟨_,((x.tmod 3128+3128)%3128).toNat,rfl,h.1,h.2,?_,by omega⟩;rw[Int.tmod_eq_emod_of_nonneg (by omega)];omega
def A1:jz:=⟨9,[],[],0,0,[]⟩
theorem WO (h:dw M):(ko M A1).2.E=0:=by
 have z:cN M []=(0,0):=rfl;show(yB M A1).E=0;unfold yB;rw[show A1.P=[] from rfl,z,aA (by simp),aA (by decide),aA (by simp[h.root])];rfl
theorem R9{G:World}{f:Nat}{n:Int}(h:Live G f b gn gl gf M X n w)(U:kN G)(W:n<=1000000000):
  Calls prog 11 #[f,.agg #[(9:Int),(),(),(0:Int),(0:Int),()]] w λe w'=>∃N K L I vd J,e= .returned (.agg #[(0:Int),(N:Int),(K:Int),(L:Int),(I:Int),vd,J])/\Hid (ay [] G w'):=by
 have hI:EZ w A1 (.slice none 0 0) (.slice none 0 0) (.slice none 0 0):=⟨⟨0,A0 _ _⟩,by simp[A1],⟨0,A0 _ _⟩,by simp[A1],⟨0,qF _ _⟩,by simp[A1]⟩;refine(DF h U W hI).mono ?_;rintro e w' ⟨r,Z,rfl,⟨vd,J,rfl,-⟩,-,V⟩;have e1:=WO h.ws.tree;rcases V with ⟨z,h1,⟨-,-,h3,-⟩|rfl⟩|⟨z,-,-,X',h6⟩
 ·exact absurd h3 (by decide)
 ·exact absurd e1 z
 ·refine⟨r.N,r.K,r.L,r.I,vd,J,?_,h6.keeps⟩
  rw[zo,z]
def ah4 (w _:World) (e:Ending) (h:World):Prop:=
 (e= .returned (.tuple #[.pointer none,(10:Int)])/\Hid (ay [] w h))\/∃f2,e= .returned (.tuple #[(f2:Nat),(0:Int)])/\
  Hid (Calls prog 16 #[(f2:Nat)] h λe G=>∃z,e=(z:Nat)/\Hid (Calls prog 15 #[(z:Nat)] G λe U=>e= .returned (.tuple #[(0:Int),true])/\
   Hid (Calls prog 11 #[(f2:Nat),.agg #[(9:Int),(),(),(0:Int),(0:Int),()]] U λe J=>∃N K L I vd V,e= .returned (.agg #[(0:Int),(N:Int),(K:Int),(L:Int),(I:Int),vd,V])/\Hid (ay [] w J))))
theorem WQ{w5:World}{Y:List Int}(hp:fx w5 b gn gl gf (calm Y 0))(_:w.heap.size<=w5.heap.size)(hl:Y.length=3128)(ae:In64 Y)(hT:kN w)(hk:ay [] w w5)(n1:w.heap.size<=b)(n2:w.heap.size<=gn)(n3:w.heap.size<=gl)(n4:w.heap.size<=gf):
  Calls prog 27 #[b] w5 (ah4 w w5):=by
 obtain⟨r1,r2,r3⟩:=R7 hl ae;have ag:=hp.old (by show Y.length≠0;omega);have af:∀y,y∈[b,gn,gl,gf]->w.heap.size<=y:=λy W=>by simp only[aL,aK,bC] at W;omega
 refine(O9 (b:=b) (gn:=gn) (gl:=gl) (gf:=gf) (R:=λs wx=>∃d,0<=d/\d<=5000/\s=calm (uw Y) d/\fx wx b gn gl gf s/\ay [] w wx) (λs wa wb hk ⟨d,h0,h1,h2,h3,h4⟩=>⟨d,h0,h1,h2,h3.keep hk (by simp) (by simp),h4.trans' hk⟩) ?_).mono ?_
 ·refine(VO hp (by omega) (by omega) hl (aap ae)).mono ?_
  rintro e w6 ⟨d,rfl,h,U,G,aa⟩;exact⟨rfl,_,Fx r1 r2,h,U.size,d,G,by omega,rfl,h,hk.trans U λy W=> .inr (af y W)⟩
 ·rintro e w6 (⟨x,s,rfl,rfl,-,-,-,-,-,-,-,U⟩|⟨f2,s,rfl,xd,ac,ai,⟨M,T,own,EY⟩,d,G,aa,rfl,h,U⟩)
  ·exact .inl ⟨rfl,U⟩
  ·refine .inr ⟨f2,rfl,?_⟩
   have aj:∀y,y∈[f2,b,gn,gl,gf]->w.heap.size<=y:=λy W=>by simp only[aL,aK,bC] at W;omega
   have V:f2∉[b,gn,gl,gf]:=λhm=>by simp only[aL,aK,bC] at hm;omega
   show Calls _ _ _ _ _;refine(RB ac h xd.1 xd.2.2).mono ?_;rintro e w7 ⟨bs,rfl,-,J,xw⟩;refine⟨bs,rfl,?_⟩;show Calls _ _ _ _ _;refine(Ky xd.1 xd.2.1 J ⟨J.raw.lt,J.raw.lt⟩).mono ?_;rintro e w8 ⟨q,rfl,uA,M5⟩;obtain rfl:=M5.out.2 ⟨M,T,own,EY⟩;refine⟨rfl,?_⟩;have z:=xw.trans' uA;have qa:Live w f2 b gn gl gf M (uw Y) 5000 w8:=⟨ac.keep z (by simp),⟨r3,T,own,EY⟩,⟨d,⟨G,aa⟩,h.keep z (by simp) (by simp)⟩,U.trans' z,⟨by omega,n1,n2,n3,n4⟩,V⟩;show Calls _ _ _ _ _;exact R9 qa hT (by omega)
theorem WR (E N K L I:Int)(vd h:Value)(w:World):(Instr.field 38 (.agg #[E,N,K,L,I,vd,h]) 0).run prog w= .ok (.int .i64 E) w:=by kernel_rfl
theorem Py (hT:kN w){v:Value}{g:Nat}{l:List jz}(hL:xb w v g l){vb:Value}{gb:Nat}{ps:List (Int×Int)}(hB:lQ w vb gb ps)(hu:∀k,0<=l9 ps k/\l9 ps k<18446744073709551616)(keep:Bool):
  Calls prog 6 #[v,vb,keep] w λe w'=>e=true/\ay [] w w':=by
 obtain⟨ai,af,zX,Tj,SD,EN,ac⟩:=hh7 (λwx (hk:ay [] w wx)=>WM (hT.keep hk)) (λwx (hk:ay [] w wx)=>aaM (hL.keep hk) 12 (by omega)) (λwx (hk:ay [] w wx)=>Pw (hT.keep hk) (k:=1) (.inl rfl)) hT hL hB hu;obtain⟨a,cap,rfl,aP,aC,aa⟩:=hL;obtain⟨ab,cb,rfl,aK,au⟩:=hB.val;unfold maxLen at aC au;have aV:l.length<=9223372036854775807:=by omega
 have aW:ps.length<=9223372036854775807:=by omega
 clear hT aa hB hu aP aC aK au;unfold Ch at af;go_in;go_wp2_with fail;refine Rr (ai.out w (ay.refl _ _)) λU ae=> ?_;obtain⟨jH,aD⟩:=hh2 ae (af.out U ae);clear ae af;go_wp2_with fail;refine aD.out.mono ?_;rintro e w' ⟨fb,rfl,ax,rfl⟩;have J:=ar ax;have ag:Hid (Calls prog 18 #[] U λe w2=>e=true/\Hid (ay [] w w2)):=(ai.out U jH.out).mono λe w2 h=>⟨h.1,jH.out.trans' h.2⟩
 clear ax aD ai;cases fb
 ·clear zX J
  go_wp2_with fail;refine Rr ag.out λw2 fo=> ?_;go_wp2_with fail;go_ret;exact⟨rfl,fo.out⟩
 by_cases h6:40<ps.length
 ·have aO:(40:Int)<(ps.length:Int):=by omega
  clear zX J;go_wp2_with fail;refine Rr ag.out λw2 fo=> ?_;go_wp2_with fail;go_ret;exact⟨rfl,fo.out⟩
 have aO:decide ((40:Int)<(ps.length:Int))=false:=aQ (by omega);have av:=ar (zX.out U jH.out);clear zX ag;go_wp2_with fail;refine av.out.mono ?_;rintro e w3 ⟨f,b,gn,gl,gf,Y,rfl,hl,-⟩;have uJ:=ar hl;clear hl av;have HN:=ar uJ.out.new;go_wp2_with fail;go_loopg [9] l.length (λgh s9 wx=>∃k:Nat,k+gh=l.length/\s9= .int .i64 (k:Int)/\Hid (∃M X,Live U f b gn gl gf M X (3520+3000*(k:Int)) wx))
 case atStart=>exact⟨0,by omega,rfl,_,_,uJ.out⟩
 case round=>
  obtain⟨k,hk,rfl,HI⟩:=hrel;have aR:l.length<=12:=(J.out trivial).1;have aL:(gk=0/\k=l.length)\/((∃W,gk=W+1)/\keep=false/\k<l.length)\/((∃W,gk=W+1)/\keep=true/\k<l.length):=by
   cases gk with
   |zero=>exact .inl ⟨rfl,by omega⟩
   |succ W=>
    cases keep
    ·exact .inr (.inl ⟨⟨W,rfl⟩,rfl,by omega⟩)
    ·exact .inr (.inr ⟨⟨W,rfl⟩,rfl,by omega⟩)
  rcases aL with ⟨rfl,rfl⟩|⟨⟨W,rfl⟩,rfl,aI⟩|⟨⟨W,rfl⟩,rfl,aI⟩
  iterate 2
   ·try (have aG:¬(l.length:Int)<(l.length:Int):=by omega)
    try (have aG:(k:Int)<(l.length:Int):=by omega)
    have aB:Hid (Calls prog 26 #[b] wr λe w4=>∃g Y,e= .returned (.slice (g:Nat) 3128 3128)/\Hid (Y.length=3128/\In64 Y/\eZ w4 (.slice (g:Nat) 3128 3128) g 70 1 3128 (aY Y)/\U.heap.size<=g/\ay [] U w4)):=by
     obtain⟨M,X,G⟩:=HI.out;obtain⟨d,-,hp⟩:=G.pm;show Calls _ _ _ _ _;refine(WN hp (Fx G.ws.len G.ws.w64)).mono ?_;rintro e w4 ⟨g,rfl,ho,hg,aN⟩;have hx:(calm X d).now=X:=rfl;rw[hx,G.ws.len] at ho;rw[hx,G.ws.len];exact⟨g,X,rfl,G.ws.len,G.ws.w64,ho,by have :=G.keeps.size;omega,G.keeps.trans' aN⟩
    clear HI SD J uJ HN;go_wp2_with fail;refine aB.out.mono ?_;rintro e w4 ⟨g,Y,rfl,HY⟩;clear aB;go_wp2_with fail;go_loopg [11] ps.length (λgh K3 wx=>∃j:Nat,j+gh=ps.length/\K3= .int .i64 (j:Int)/\Hid (∃Y,Y.length=3128/\In64 Y/\eZ wx (.slice (g:Nat) 3128 3128) g 70 1 3128 (aY Y)/\U.heap.size<=g/\ay [] U wx))
    case atStart=>exact⟨0,by omega,rfl,Y,HY.out⟩
    case round=>
     obtain⟨j,hj,rfl,HJ⟩:=hrel;clear HY;cases gk with
     |zero=>
      obtain rfl:j=ps.length:=by omega
      have aH:¬(ps.length:Int)<(ps.length:Int):=by omega
      have az:Hid (Calls prog 25 #[.slice (g:Nat) 3128 3128] wr λe w5=>∃b5,e=(b5:Nat)/\Hid (Calls prog 27 #[(b5:Nat)] w5 (ah4 w w5))):=by
       obtain⟨Y,y1,y2,y3,y4,y5⟩:=HJ.out;show Calls _ _ _ _ _;refine(acR y3.reads (by omega)).mono ?_;rintro e w6 ⟨b5,n5,l5,f5,rfl,hp,aS,jv⟩;refine⟨b5,rfl,?_⟩;have hc:fx w6 b5 n5 l5 f5 (calm Y 0):=by unfold calm;rw[y1] at hp ⊢;exact hp
       have cM:=(jH.out.trans' y5).trans' jv;have hz:=jH.out.size;have aX:=y5.size;have aT:=jv.size;exact WQ hc (by omega) y1 y2 Tj.out cM (by omega) (by omega) (by omega) (by omega)
      clear HJ EN ac Tj;go_wp2_with fail;refine az.out.mono ?_;rintro e w5 ⟨b5,rfl,ah⟩;clear az;go_wp2_with fail;refine ah.out.mono ?_;rintro e w6 (⟨rfl,qb⟩|⟨f2,rfl,vT⟩)
      ·clear ah
       go_wp2_with fail;go_ret;exact⟨rfl,qb.out⟩
      ·clear ah
       go_wp2_with fail;refine vT.out.mono ?_;rintro e w7 ⟨bs,rfl,ak⟩;clear vT;go_wp2_with fail;refine Rr ak.out λw8 V=> ?_;have aU:=Px;clear ak;go_wp2_with fail;refine V.out.mono ?_;rintro e w9 ⟨N,K,L,I,vd,ve,rfl,aJ⟩;have ba:=WR 0 N K L I vd ve;clear V;go_wp2_with fail;go_ret;exact⟨rfl,aJ.out⟩
     |succ W=>
      have aH:(j:Int)<(ps.length:Int):=by omega
      have Ci:(0:Int)<=(j:Int):=by omega
      obtain⟨Y,y1,y2,y3,y4,y5⟩:=HJ.out;obtain⟨DV,aZ,rfl,c0,c1⟩:=(EN.out.keep (jH.out.trans' y5) (by simp)).get (j:=j) (by omega);have hu:=ac.out j;generalize iQ ps j=x,l9 ps j=y at *;obtain⟨z,m,z1,z2,z3,z4,z5⟩:=aaO x;have z6:IntKind.i64.wrap (z+3128)=z+3128:=by rw[cy];omega
      have z7:wrap64 (z+3128)=z+3128:=by unfold wrap64;omega
      have z8:(m:Int)<3128:=by omega
      have z9:(0:Int)<=(m:Int):=by omega
      obtain⟨-,-,aF,aj⟩:=y3.cell (by omega);have d0:=(aF m (by omega)).trans (dF (l:=Y) (by omega));have f0:=aj m;clear aF aj;have aM:Hid (∃Y,Y.length=3128/\In64 Y/\eZ (wr.drew.setCell ⟨g,m,none⟩ (.int .u64 y)) (.slice (g:Nat) 3128 3128) g 70 1 3128 (aY Y)/\U.heap.size<=g/\ay [] U (wr.drew.setCell ⟨g,m,none⟩ (.int .u64 y))):=
       ⟨Y.set m y,by rw[cY,y1],y2.set m y hu.1 hu.2,by have :=y3.drew.set m (.int .u64 y);rwa[lI] at this,y4,y5.drew.setCell (.inr y4) _⟩
      generalize Y.getD m 0=o1 at *;clear HJ y1 y2 y3 y4 y5 hu EN ac Tj z2 z3;go_wp2_with fail
      go_still_tail 15,(by kernel_rfl)
      go_wp2_with fail;go_roundg W;case measure=>omega
      case rel=>exact⟨j+1,by omega,by go_num,aM.out⟩
  ·have aG:(k:Int)<(l.length:Int):=by omega
   have cM:(0:Int)<=(k:Int):=by omega
   obtain⟨M,X,G⟩:=HI.out;obtain⟨off,vp,vq,vd,rfl,aa⟩:=SD.out.op (k:=k) (by omega) ((J.out trivial).2 k (by omega) (by omega));obtain⟨aA,ot⟩:=aa wr (jH.out.trans' G.keeps);have mY:=ar ot;have V:Hid (Calls prog 11 #[f,B0 (oT l k) vp vq vd] wr λe w4=>∃Z,e= .returned (.agg Z)/\Hid (∃M X,Live U f b gn gl gf M X (3520+3000*((k+1:Nat):Int)) w4)):=by
    show Calls _ _ _ _ _;refine(DF G (Tj.out.keep jH.out) (by omega) aA).mono ?_;rintro e w4 ⟨r,Z,rfl,-,-,h⟩;refine⟨Z,rfl,?_⟩;rcases h with ⟨-,h1,-⟩|⟨-,-,-,X',h1⟩
    ·exact⟨_,_,h1.le (by omega)⟩
    ·exact⟨_,X',h1.le (by omega)⟩
   generalize B0 (oT l k) vp vq vd=ZO at *;clear ot aA aa G HI SD J EN ac Tj uJ HN;go_wp2_with(with_reducible refine gL 42 mY.out ?_);refine V.out.mono ?_;rintro e w4 ⟨Z,rfl,HQ⟩;clear V mY;go_wp2_with fail;go_roundg W;case measure=>omega
   case rel=>exact⟨k+1,by omega,by go_num,HQ.out⟩
end
section
open Go.ChangeShapes Go.WideShapes Go.ChangeAt Go.RowKit
variable{w:World}{b gf gl gn:Nat}{X:List Int}{M:Nat->Nd}
section
variable {H:Type} {enc:TypeId×Value->H} {W:World} {base:Nat} {spare:Nat->Bool} {held:Bool}
end
section
variable {H:Type} {enc:TypeId×Value->H} {W:World} {base:Nat} {spare:Nat->Bool} {held:Bool}
theorem open_pair{fuel:Nat}{cs:List Value}{x:DataW H×List MemPlace}(h:DataW.trod enc prog W base spare held fuel 82 cs=some x):
  ∃a y:Int,cs=[.int .i64 a,.int .u64 y]/\(-9223372036854775808<=a/\a<=9223372036854775807)/\0<=y/\y<=18446744073709551615:=by
 obtain⟨xs,n,-,-,J,z,G⟩:=DataW.trod_struct underlying82 h;rw[show prog.cellsOf 82 =2 by kernel_rfl] at J
 match cs,J with
 | [c0,c1],_=>
  have f0:DataW.trod enc prog W base spare held n 3 (([c0,c1].drop 0).take (prog.cellsOf 3))=xs[0]? :=G 0 _ rfl;have f1:DataW.trod enc prog W base spare held n 70 (([c0,c1].drop 1).take (prog.cellsOf 70))=xs[1]? :=G 1 _ rfl;simp only[show prog.cellsOf 3 =1 by kernel_rfl,show prog.cellsOf 70 =1 by kernel_rfl,List.drop_zero,List.drop_succ_cons,List.take_succ_cons,eP] at f0 f1
  match xs,z with
  | [y0,y1],_=>
   simp only[iD,dU] at f0 f1;obtain⟨n0,V,-,w0⟩:=DataW.trod_int underlying3 f0;obtain⟨n1,U,-,w1⟩:=DataW.trod_int underlying70 f1;simp only[j4,and_true] at V U;subst V U;exact⟨n0,n1,rfl,bounds_i64 w0,bounds_u64 w1⟩
theorem Sa {fuel:Nat}{cs:List Value}{x:DataW H×List MemPlace}(h:DataW.trod enc prog W base spare held fuel 80 cs=some x):
  ∃v g ps,cs=[v]/\lQ W v g ps/\okP ps:=by
 obtain⟨a,len,cap,rfl,h1,h2,h3⟩:=Cl (sz:=2) underlying80 (by kernel_rfl) (by omega) h;by_cases h0:len=0
 ·subst h0
  exact⟨_,0,[],rfl,⟨a,cap,rfl,by simp,h2,λh=>absurd rfl h⟩,by intro p V;simp at V⟩
 ·obtain⟨g,off,rfl,hg,hx⟩:=h3 h0
  have U:∀i,i<len->∃p:Int×Int,((-9223372036854775808<=p.1/\p.1<=9223372036854775807)/\0<=p.2/\p.2<=18446744073709551615)/\
    W.cell? ⟨g,off+i*2,none⟩=some (.int .i64 p.1)/\W.cell? ⟨g,off+i*2+1,none⟩=some (.int .u64 p.2):=λi J=>by
   obtain⟨aa,y,n,hl,hc,ht⟩:=hx i J;obtain⟨q,z,rfl,hq,hz⟩:=open_pair ht;exact⟨(q,z),⟨hq,hz⟩,hc 0 (by omega),hc 1 (by omega)⟩
  obtain⟨f,hf⟩:∃f:Nat->Int×Int,∀i,i<len->((-9223372036854775808<=(f i).1/\(f i).1<=9223372036854775807)/\0<=(f i).2/\(f i).2<=18446744073709551615)/\
    W.cell? ⟨g,off+i*2,none⟩=some (.int .i64 (f i).1)/\W.cell? ⟨g,off+i*2+1,none⟩=some (.int .u64 (f i).2):=
   ⟨λi=>if h:i<len then Classical.choose (U i h) else (0,0),λi J=>by simp only[dif_pos J];exact Classical.choose_spec (U i J)⟩
  refine⟨_,g,(List.range len).map f,rfl,⟨_,cap,by simp,by simpa using h1,h2,λ_=>⟨hg,off,rfl,λj hj=> ?_⟩⟩,?_⟩
  ·have G:j<len:=by simpa using hj
   have e1:iQ ((List.range len).map f) j=(f j).1:=by simp[iQ,G]
   have e2:l9 ((List.range len).map f) j=(f j).2:=by simp[l9,G]
   rw[e1,e2];exact(hf j G).2
  ·intro p V
   simp only[bH,b7] at V;obtain⟨i,J,rfl⟩:=V;exact(hf i J).1
end
section
variable {P:Program} {H:Type} {enc:TypeId×Value->H} {W:World} {base:Nat} {spare:Nat->Bool} {held:Bool}
theorem Pz {t e:TypeId}{k:IntKind}{fuel:Nat}{cs:List Value}{x:DataW H×List MemPlace}(ht:P.underlying t=some (.slice e))(he:P.underlying e=some (.int k))(hc:P.cellsOf e=1)
  (h:DataW.trod enc P W base spare held fuel t cs=some x):∃(v:Value) (g:Nat) (zs:List Int),cs=[v]/\Reads W v g (zs.map (Value.int k))/\∀n∈zs,(Lit.int k n).wf=true:=by
 rcases open_ints ht he hc h with ⟨rfl,-⟩|⟨a,len,cap,zs,rfl,-,hl,V,hz,-,z,J⟩
 ·exact⟨_,0,[],rfl,⟨none,0,rfl,by simp,by simp[maxLen],λh=>absurd rfl h⟩,by simp⟩
 ·have aa:len<=zs.length:=by rw[hz];split<;>omega
  have U:((zs.take len).map (Value.int k)).length=len:=by simp;omega
  by_cases h0:len=0
  ·subst h0
   exact⟨_,0,[],rfl,⟨some a,cap,rfl,by simp,V,λh=>absurd rfl h⟩,by simp⟩
  ·have G:=z 0 (by omega)
   obtain⟨g,off,rfl⟩:=Fz G rfl;refine⟨_,g,zs.take len,rfl,⟨some ⟨g,off,none⟩,cap,by rw[U],by rw[U];exact hl,V,λ_=>⟨by simpa[add_plain] using lt_of_cell G,off,rfl,λj hj=> ?_⟩⟩,λn hn=>J n (bO hn)⟩;rw[U] at hj;have :=z j (by omega);rw[add_plain] at this;rw[this];simp[hj,show j<zs.length by omega]
theorem open_strs{fuel:Nat}{cs:List Value}{x:DataW H×List MemPlace}(h:DataW.trod enc prog W base spare held fuel 40 cs=some x):∃v g P,cs=[v]/\gN W v g P:=by
 obtain⟨a,len,cap,rfl,h1,h2,h3⟩:=Cl (sz:=1) underlying40 (by kernel_rfl) (by omega) h;by_cases V:len=0
 ·subst V
  exact⟨_,0,[],rfl,⟨a,cap,rfl,by simp,h2,λh=>absurd rfl h⟩⟩
 ·obtain⟨g,off,rfl,hg,hx⟩:=h3 V
  have G:∀i,i<len->∃s:ByteArray,W.cell? ⟨g,off+i,none⟩=some (.string s):=λi J=>by
   obtain⟨U,y,n,hl,hc,ht⟩:=hx i J
   match U,hl with
   | [c0],_=>
    obtain⟨s,e0,-⟩:=DataW.trod_string underlying9 ht;simp only[j4,and_true] at e0;subst e0;have :=hc 0 (by omega);rw[iJ,dC] at this;exact⟨s,this⟩
  obtain⟨f,hf⟩:∃f:Nat->ByteArray,∀i,i<len->W.cell? ⟨g,off+i,none⟩=some (.string (f i)):=
   ⟨λi=>if h:i<len then Classical.choose (G i h) else ByteArray.empty,λi J=>by simp only[dif_pos J];exact Classical.choose_spec (G i J)⟩
  refine⟨_,g,(List.range len).map f,rfl,⟨some ⟨g,off,none⟩,cap,by simp,by simpa using h1,h2,λ_=>⟨hg,off,rfl,λj hj=> ?_⟩⟩⟩;have z:j<len:=by simpa using hj
  rw[hf j z];simp[z]
theorem aaP {fuel:Nat}{cs:List Value}{x:DataW H×List MemPlace}(h:DataW.trod enc prog W base spare held fuel 42 cs=some x):∃(o:jz) (Z:Array Value),cs=Z.toList/\Iq W o Z:=by
 obtain⟨xs,n,-,-,hl,G,z⟩:=DataW.trod_struct underlying42 h;rw[show prog.cellsOf 42 =6 by kernel_rfl] at hl
 match cs,hl with
 | [c0,c1,c2,c3,c4,c5],_=>
  have f0:DataW.trod enc prog W base spare held n 3 (([c0,c1,c2,c3,c4,c5].drop 0).take (prog.cellsOf 3))=xs[0]? :=z 0 _ rfl;have f1:DataW.trod enc prog W base spare held n 40 (([c0,c1,c2,c3,c4,c5].drop 1).take (prog.cellsOf 40))=xs[1]? :=z 1 _ rfl;have f2:DataW.trod enc prog W base spare held n 40 (([c0,c1,c2,c3,c4,c5].drop 2).take (prog.cellsOf 40))=xs[2]? :=z 2 _ rfl;have f3:DataW.trod enc prog W base spare held n 3 (([c0,c1,c2,c3,c4,c5].drop 3).take (prog.cellsOf 3))=xs[3]? :=z 3 _ rfl;have f4:DataW.trod enc prog W base spare held n 3 (([c0,c1,c2,c3,c4,c5].drop 4).take (prog.cellsOf 3))=xs[4]? :=z 4 _ rfl;have f5:DataW.trod enc prog W base spare held n 29 (([c0,c1,c2,c3,c4,c5].drop 5).take (prog.cellsOf 29))=xs[5]? :=z 5 _ rfl;simp only[show prog.cellsOf 3 =1 by kernel_rfl,show prog.cellsOf 40 =1 by kernel_rfl,show prog.cellsOf 29 =1 by kernel_rfl,List.drop_zero,List.drop_succ_cons,List.take_succ_cons,eP] at f0 f1 f2 f3 f4 f5
  match xs,G with
  | [y0,y1,y2,y3,y4,y5],_=>
   simp only[iD,dU] at f0 f1 f2 f3 f4 f5;obtain⟨n0,e0,-,w0⟩:=DataW.trod_int underlying3 f0;obtain⟨vp,gp,P,J,hP⟩:=open_strs f1;obtain⟨vq,gq,Q,e2,hQ⟩:=open_strs f2;obtain⟨n3,e3,-,w3⟩:=DataW.trod_int underlying3 f3;obtain⟨n4,U,-,w4⟩:=DataW.trod_int underlying3 f4;obtain⟨vd,gd,D,V,hD,hw⟩:=Pz (P:= prog) underlying29 underlying5 (by kernel_rfl) f5;simp only[j4,and_true] at e0 J e2 e3 U V;subst e0 J e2 e3 U V;refine⟨⟨n0,P,Q,n3,n4,D⟩,B0 ⟨n0,P,Q,n3,n4,D⟩ c1 c2 c5,rfl,⟨⟨c1,c2,c5,rfl,⟨gp,hP⟩,⟨gq,hQ⟩,gd,hD⟩,⟨bounds_i64 w0,bounds_i64 w3,bounds_i64 w4⟩,λy hy=> ?_⟩⟩;have :=bounds_u8 (hw y hy);omega
theorem WS {fuel:Nat}{cs:List Value}{x:DataW H×List MemPlace}(h:DataW.trod enc prog W base spare held fuel 22 cs=some x):∃v g l,cs=[v]/\xb W v g l:=by
 obtain⟨a,len,cap,rfl,h1,h2,h3⟩:=Cl (sz:=6) underlying22 (by kernel_rfl) (by omega) h;by_cases h0:len=0
 ·subst h0
  exact⟨_,0,[],rfl,a,cap,rfl,by simp,h2,λj U=>by simp at U⟩
 ·obtain⟨g,off,rfl,hg,hx⟩:=h3 h0
  have G:∀i,i<len->∃p:jz×Array Value,Iq W p.1 p.2/\∀c,c<6->W.cell? ⟨g,off+(i*6+c),none⟩=p.2[c]? :=λi J=>by
   obtain⟨aa,y,n,hl,hc,V⟩:=hx i J;obtain⟨o,Z,rfl,ho⟩:=aaP V;exact⟨(o,Z),ho,λc h=>by rw[hc c h,dH]⟩
  obtain⟨f,hf⟩:∃f:Nat->jz×Array Value,∀i,i<len->Iq W (f i).1 (f i).2/\∀c,c<6->W.cell? ⟨g,off+(i*6+c),none⟩=(f i).2[c]? :=
   ⟨λi=>if h:i<len then Classical.choose (G i h) else (⟨0,[],[],0,0,[]⟩,#[]),λi J=>by simp only[dif_pos J];exact Classical.choose_spec (G i J)⟩
  refine⟨_,g,(List.range len).map λi=>(f i).1,rfl,_,cap,by simp,by simpa using h1,h2,λj U=>⟨hg,off,rfl,(f j).2,?_,λt V=> ?_⟩⟩
  ·have z:j<len:=by simpa using U
   have e1:oT ((List.range len).map λi=>(f i).1) j=(f j).1:=by simp[oT,z]
   rw[e1];exact(hf j z).1
  ·have z:j<len:=by simpa using U
   rw[Nat.add_assoc];exact(hf j z).2 t V
end
end
section
open Go.ChangeShapes Go.WideShapes Go.ChangeAt Go.WideMaps Go.WideElems Go.RowKit
variable{w:World}{b gf gl gn:Nat}{X:List Int}{M:Nat->Nd}
theorem Tryz.gTab: prog.globalNamed "math/bits.deBruijn64tab" =some 0 :=by kernel_rfl
theorem Tryz.tTab:(prog.globals[0]?).map (·.type)=some 284 :=by kernel_rfl
theorem Tryz.cells_u8: prog.cellsOf 5 =1:=by kernel_rfl
theorem acQ{H:Type}:Rows.laid_math_bits_deBruijn64tab (H:=H)= .agg (Lib.deBruijn64tab.map λn:Nat=> .lit (.int .u8 (n:Int))):=rfl
theorem PA{W:World}(h:laidMetH prog [("math/bits.deBruijn64tab",Rows.laid_math_bits_deBruijn64tab)] W):kN W:=by
 rw[MakeChecks.laidMetH_plain _ _ _ (by kernel_rfl)] at h;obtain⟨ps,⟨g0,t0,G,f0,p0,q0,aa,ae,ag,ah,_,_⟩,_,_⟩:=h;obtain rfl:=Option.some.inj (Tryz.gTab.symm.trans aa);obtain rfl:=Option.some.inj (Tryz.tTab.symm.trans ae);obtain⟨xs,m,rfl,hx,ac,hn,af⟩:=DataW.trod_array underlying284 ah;rw[acQ] at hx;simp only[Prod.mk.injEq,DataW.agg.injEq] at hx;intro j hj;have z:=af j hj;rw[Tryz.cells_u8,iJ] at z;cases hxj:xs[j]? with
 |none=>rw[List.getElem?_eq_none_iff] at hxj;omega
 |some y=>
  rw[hxj] at z;have U:((G.toList.drop j).take 1).length=1:=by
   rw[aJ,bM];have ak: prog.cellsOf 284 =64:=by kernel_rfl
   rw[ak] at ac;omega
  obtain⟨c,hc⟩:∃c,(G.toList.drop j).take 1=[c]:=by
   match (G.toList.drop j).take 1,U with
   | [c],_=>exact⟨c,rfl⟩
  rw[hc] at z;obtain⟨k,e1,e2,_⟩:=DataW.trod_int underlying5 z;have hk:(xs.map (·.1))[j]? =some (.lit (.int .u8 k)):=by rw[bJ,hxj,e2];rfl
  rw[<-hx.1,bJ] at hk;have V:j<Lib.deBruijn64tab.length:=hj;rw[aD V] at hk;have ai:k=((Lib.deBruijn64tab.getD j 0:Nat):Int):=by
   have :((Lib.deBruijn64tab[j]:Nat):Int)=k:=by simpa using hk
   rw[<-this,aj,aD V];rfl
  have J:=World.var?_cell aa ag j;rw[J,<-ai];have h3:((G.toList.drop j).take 1)[0]? =some c:=by rw[hc];rfl
  rw[bU,aB,b9,dC,dH] at h3;rw[h3];simp only[j4,and_true] at e1;rw[e1]
theorem aaQ (os:Os)(args:Array Value):laidMetH prog [("math/bits.deBruijn64tab",Rows.laid_math_bits_deBruijn64tab)] ((World.doorLaid prog 400 os).forCall (λ_ _=>0) ⟨#[],args,[]⟩).memory:=
 laidMetH_of_parts3 (fuel:=8) (laidMet_of_run' 8 (by kernel_rfl) (by kernel_rfl)) (by kernel_rfl) (by kernel_rfl)
end
end Go.Proofs.YtimcfdnbpkiniaaGreatDoor
