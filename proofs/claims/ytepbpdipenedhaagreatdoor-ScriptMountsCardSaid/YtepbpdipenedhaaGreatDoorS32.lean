/- Lemmas. -/
import Derived.Test.YtepbpdipenedhaaGreatDoorS31
set_option maxHeartbeats 8000000
set_option maxRecDepth 100000
namespace Go.Proofs.YtepbpdipenedhaaGreatDoor
open Go.Proofs.Tryz
open Go.RowKit Go.Shelf
variable{B X:List Int}{T:List (bN×Value)}{own:Nat->List Nat}{w w':World}{b f gf gl gn gp:Nat}{ps:List (Int×Int)}{d n:Int}{M:Nat->Nd}
attribute [local go_sem] iW
theorem Qn (h:oo X T own){xs:List GX}(y:xs.map jP=jm T 32):(∀x∈xs,jO X x.n)↔tX X T:=by
 constructor
 ·intro G i W
  rcases h.form i with ⟨V,-,-⟩|⟨-,J,-⟩
  ·have z:(i,nT T i)∈jm T 32:=mq.2 ⟨W,rfl,V⟩
   rw[<-y] at z;obtain⟨x,U,e⟩:=bL.1 z;have :=G x U
   injection e with e1 e2
   rwa[e2] at this
  ·rw[J]
   exact λh=>by cases h
 ·intro G x U
  have z:jP x∈jm T 32:=by rw[<-y];exact bL.2 ⟨x,U,rfl⟩
  obtain⟨V,J,-⟩:=mq.1 z;have :=G x.i V;rwa[<-show x.n=nT T x.i from J] at this
theorem Eb (h:fX w b gp B ps T own):
  Calls prog 87 #[.pointer (some ⟨b,0,none⟩)] w (cW w (tX (az B ps) T)):=by
 have xB:=fu;obtain⟨Z0,ze⟩:∃Z0,aU cX (.slice none 0 0)=Z0:=⟨_,rfl⟩;have De:Hid (Z0.size=18):=by show _=_;rw[<-ze];rfl
 rw[ze] at xB;clear ze;have HS:=ar h;clear h;have ak:((w.alloc (.cells #[.pointer (some ⟨b,0,none⟩)] 50)).alloc (.cells #[.bool false] 4)).cell? ⟨w.heap.size,0,none⟩=some (.pointer (some ⟨b,0,none⟩)):=by
  rw[((bf.new w #[.pointer (some ⟨b,0,none⟩)] 50).alloc _).cell];rfl
 refine(callsIn_wide (n:=5)).1 (callsIn_of_wp_marks func87 rfl trivial (wpIn_wide.2 ?_) rfl);simp only[ntmps87,bH,bF,b9,Nat.reduceAdd,Nat.reduceSub,fk,fo,gG,fx,bT,fL];go_wp2_with fail;refine(Mk b _).mono ?_;rintro e w4 ⟨rfl,V⟩;go_wp2_with fail;rw[<-V];have aQ:w4.heap.size=w.heap.size+3:=by rw[V];simp
 have ax:bf w4 w.heap.size #[.pointer (some ⟨b,0,none⟩)] 50 :=by
  rw[V];exact((bf.new w _ _).alloc _).alloc _
 have sB:bf w4 (w.heap.size+1) #[.bool false] 4 :=by
  have :=(bf.new (w.alloc (.cells #[.pointer (some ⟨b,0,none⟩)] 50)) #[.bool false] 4).alloc (.cells #[.pointer (some ⟨b,0,none⟩)] 50);rw[bO] at this;rw[V];exact this
 have vg:bf w4 (w.heap.size+1+1) #[.pointer (some ⟨b,0,none⟩)] 50 :=by
  have :=bf.new ((w.alloc (.cells #[.pointer (some ⟨b,0,none⟩)] 50)).alloc (.cells #[.bool false] 4)) #[.pointer (some ⟨b,0,none⟩)] 50;rw[bO,bO] at this;rw[V];exact this
 have ac:ay [] w w4:=by
  rw[V];exact(((ay.refl [] w).alloc _).alloc _).alloc _
 have aB:=HS.out.keep0 ac;have aP:=HS.out.lt;have rZ:=zo (n:=5-1) (by omega) aB vg (C:=[w.heap.size+1]) (λk z=>by rw[au] at z;subst z;omega);have aA:∀xs:List GX,xs.map jP=jm T 32->((∀x∈xs,jO (az B ps) x.n)↔tX (az B ps) T):=λxs h=>Qn HS.out.gots h
 have af:∀i,(nT T i).F≠0->bR (nT T i):=λi hi=>by
  rcases HS.out.gots.form i with ⟨-,-,U⟩|⟨U,-⟩
  ·exact U.right
  ·exact absurd U hi
 have aH:=HS.out.w64;clear V aB vg ak;generalize hX:az B ps=X at *;refine(wpIn_wide (n:=5)).1 ?_;refine pO (by omega) (gf:= 162) (lb:= #[.pointer (some ⟨w.heap.size+1+1,0,none⟩)]) rfl (enters_of func162 (by kernel_rfl) rfl) rZ (λk z=>by rw[au] at z;subst z;omega) (λ_=>rfl)
  (λG A=>ay [] w A/\bf A w.heap.size #[.pointer (some ⟨b,0,none⟩)] 50/\bf A (w.heap.size+1) #[.bool false] 4/\∀x∈G,jO X x.n)
  (λc G A=>c= .ret/\ay [] w A/\bf A (w.heap.size+1) #[.bool false] 4/\∃x∈G,¬jO X x.n)
  (λG A A' h hb=>⟨h.1.below_trans hb (by omega),h.2.1.low hb (by omega),h.2.2.1.low hb (by omega),h.2.2.2⟩)
  (λc G A A' h hb=>⟨h.1,h.2.1.below_trans hb (by omega),h.2.2.1.low hb (by omega),h.2.2.2⟩)
  ⟨ac,ax,sB,λx hx=>by cases hx⟩
  (λl x A A' h z=>h.keep z λk z=>by rw[au] at z;omega)
  (λx a' W=>∃g5,bf W g5 (aU x.n x.v) 111/\w4.heap.size<=g5/\a'={ tmps:= #[.pointer (some ⟨b,0,none⟩),.pointer (some ⟨w.heap.size,0,none⟩),.pointer (some ⟨w.heap.size+1,0,none⟩),undef,.pointer (some ⟨g5,0,none⟩),.pointer (some ⟨b,0,none⟩),.func (.func 162) #[] #[.pointer (some ⟨w.heap.size+1+1,0,none⟩)],.int .i64 (x.i:Int),.agg (aU x.n x.v),undef,undef,undef,undef,undef,undef,undef,undef,undef],defers:=[] })
  (λl x a' A A' _ hr h z=>by
   obtain⟨g5,U,h2,h3⟩:=h;obtain⟨r,hr⟩:=hr;refine⟨g5,U.keep z λhm=> ?_,h2,h3⟩;rw[au] at hm;subst hm;rw[U] at hr;cases hr)
  ?assign (λl x A A' h z=>h.keep z (by simp)) ?body ?done ?stop
 case assign=>
  rintro l x W K ⟨U,h2,h3,h4,g,h5,h6⟩ aL hK;obtain⟨w5,p1,p2,p3⟩:=fW (n:=x.n) (v:=x.v) (bf.new W Z0 111) De.out h4 h6.one;have zL:=ar p1;have kr:ay [] W w5:=((ay.refl [] W).alloc _).trans p3 (by intro x hx;rw[au] at hx;omega);have HF:=ar (hK _ w5 kr ⟨W.heap.size,p2,by omega,rfl⟩);clear p1 p2 p3 kr hK U h2 h3 h4 h5 h6;unfold Qk;generalize aU x.n x.v=ZN at *
  gi_wp2_with ((with_reducible show wpListIn _ _ _ _ _ (⟨_,.store 111 (.tmp 4) (.tmp 8),_,_,_,_⟩::_) _ _);refine iM (r:=some l) rfl 111 (.tmp 4) (.tmp 8) rfl _ rfl _ rfl _ zL.out ?_)
  exact HF.out
 case body=>
  rintro l G x a' W hl aO ⟨sI,He,wN,J⟩ hN ⟨aS,ah,aF,XX,g,hg,hE⟩ ⟨g5,qg,aN,rfl⟩;have hR:=af x.i (by rw[<-ah];exact aF);rw[<-ah] at hR;have c1:W.cell? ⟨g5,1,none⟩=some (.int .i64 x.n.K):=by rw[qg.cell];exact(jL _ XX).f1
  have c0:W.cell? ⟨w.heap.size,0,none⟩=some (.pointer (some ⟨b,0,none⟩)):=by rw[He.cell];rfl
  have vR:=ar (cC qg XX);have ai:Hid (x.n.K=1->Calls prog 134 #[.pointer (some ⟨b,0,none⟩),.agg (aU x.n x.v)] W (cW W (jO X x.n))):=λz=>by
   have :=GZ (HS.out.sh.keep sI (by simp) (by simp)) HS.out.w64 x.v XX hR z;rwa[hX] at this
  have ag:Hid (x.n.K≠1->jO X x.n):=λU h2=>absurd h2 U
  have Aj:Hid (∀wx,ay [] W wx->wx.cell? ⟨w.heap.size+1,0,none⟩=some (.bool false)/\wx.frozen? ⟨w.heap.size+1,0,none⟩=false):=λwx z=>by
   have hb:=wN.keep z (by simp);exact⟨by rw[hb.cell];rfl,hb.frozen 0⟩
  have kR:Hid (jO X x.n->∀wx,ay [] W wx->rb [w.heap.size+1] (λG A=>ay [] w A/\bf A w.heap.size #[.pointer (some ⟨b,0,none⟩)] 50/\bf A (w.heap.size+1) #[.bool false] 4/\∀x∈G,jO X x.n) (λc G A=>c= .ret/\ay [] w A/\bf A (w.heap.size+1) #[.bool false] 4/\∃x∈G,¬jO X x.n) (G++[x]) W .normal { tmps:= #[],defers:=[] } wx):=λhp wx z=>
   ⟨z.mono (by simp),sI.trans' z,He.keep z (by simp),wN.keep z (by simp),λy hy=>by
    rcases aR.1 hy with hy|hy
    ·exact J y hy
    ·rw[au] at hy
     subst hy;exact hp⟩
  have jc:Hid (¬jO X x.n->∀wx,ay [] W wx->rb [w.heap.size+1] (λG A=>ay [] w A/\bf A w.heap.size #[.pointer (some ⟨b,0,none⟩)] 50/\bf A (w.heap.size+1) #[.bool false] 4/\∀x∈G,jO X x.n) (λc G A=>c= .ret/\ay [] w A/\bf A (w.heap.size+1) #[.bool false] 4/\∃x∈G,¬jO X x.n) (G++[x]) W .ret { tmps:= #[],defers:=[] } (wx.setCell ⟨w.heap.size+1,0,none⟩ (.bool false))):=λhp wx z=>
   ⟨(z.mono (l':=[w.heap.size+1]) (by simp)).setCell (.inl (by simp)) _,rfl,(sI.trans' z).setCell (.inr (by simp)) _,(wN.keep z (by simp)).set 0 (.bool false),x,by simp,hp⟩
  clear sI He wN J hN ah aF hE qg aA af ax sB ac rZ hR hX aH HS;generalize aU x.n x.v=ZN at *;generalize aK:x.n.K=K at *;by_cases MJ:K=1
  ·subst MJ
   have aj:=ar (ai.out rfl);clear ai ag aK
   gi_wp2_with ((with_reducible show wpListIn _ _ _ _ _ (⟨_,.load 111 (.tmp 4),_,_,_,_⟩::_) _ _);refine mU (r:=some l) rfl 111 (.tmp 4) rfl _ rfl _ vR.out ?_)
   refine⟨trivial,CallsIn.inRound l (callsIn_wide.2 (aj.out.mono ?_))⟩;rintro e w6 ⟨r,rfl,hr,jZ⟩;obtain⟨ak,aJ⟩:=Aj.out w6 jZ;cases r
   ·have HF:=ar (jc.out (λh=>by cases hr.2 h) w6 jZ)
    clear kR jc Aj hr jZ aj
    gi_wp2
    exact HF.out
   ·have HF:=ar (kR.out (hr.1 rfl) w6 jZ)
    clear kR jc Aj hr jZ aj
    gi_wp2
    exact HF.out
  ·have aM:(K==1)=false:=by simpa using MJ
   have HF:=ar (kR.out (ag.out MJ) W (ay.refl _ _));clear kR jc Aj ai ag MJ
   gi_wp2
   refine⟨trivial,?_⟩
   gi_wp2
   exact HF.out
 case stop=>
  rintro D c G W hD ae ⟨rfl,sI,wN,x,hx,aI⟩ EI;have aC:¬tX X T:=λh=>aI (by
   obtain⟨U,h2,-⟩:=mq.1 (ae.2 x hx);have :=h x.i U;rwa[<-show x.n=nT T x.i from h2] at this)
  have WM:=ar EI;have Au:Hid (∀Z,ay [D] W Z->Z.cell? ⟨w.heap.size+1,0,none⟩=some (.bool false)/\cW w (tX X T) (.returned (.bool false)) Z):=λZ z=>⟨by rw[(wN.keep z (by rw[au];omega)).cell];rfl,false,rfl,⟨(λh=>by cases h),λh=>absurd h aC⟩,sI.trans z (by intro y hy;rw[au] at hy;omega)⟩
  clear sI wN aI hx ae EI aC;refine wpIn_wide.2 ?_;go_wp2_with fail;refine kj [D] W (by simp) (λD' aa=>by rw[au] at aa;subst aa;exact WM.out) λZ z=> ?_
  obtain⟨U,h2⟩:=Au.out Z z;exact⟨.bool false,by simp[results,results87,go_sem,U],h2⟩
 case done=>
  rintro D xs W hD aG ⟨sI,He,wN,J⟩ EI;have hr:=(aA xs aG).1 J;have ak:W.cell? ⟨w.heap.size+1,0,none⟩=some (.bool false):=by rw[wN.cell];rfl
  have aJ:=wN.frozen 0;have aD:=wN.set 0 (.bool true);have av:ay [w.heap.size+1] W (W.setCell ⟨w.heap.size+1,0,none⟩ (.bool true)):=(ay.refl _ _).setCell (.inl (by simp)) _;have WM:Hid ((W.setCell ⟨w.heap.size+1,0,none⟩ (.bool true)).heap[D]? =some (.deferred (some []))):=(av.block D (Array.getElem?_eq_some_iff.1 EI).1 (by rw[au];omega)).trans EI;have Au:Hid (∀Z,ay [D] (W.setCell ⟨w.heap.size+1,0,none⟩ (.bool true)) Z->Z.cell? ⟨w.heap.size+1,0,none⟩=some (.bool true)/\cW w (tX X T) (.returned (.bool true)) Z):=λZ z=>⟨by rw[(aD.keep z (by rw[au];omega)).cell];rfl,true,rfl,⟨λ_=>hr,λ_=>rfl⟩,(sI.trans av (by intro y hy;rw[au] at hy;omega)).trans z (by intro y hy;rw[au] at hy;omega)⟩
  clear sI He wN J EI hr aD av aG aA af ax sB ac rZ hX aH HS;go_wp2_with fail;refine kj [D] _ (by simp) (λD' aa=>by rw[au] at aa;subst aa;exact WM.out) λZ z=> ?_
  obtain⟨U,h2⟩:=Au.out Z z;exact⟨.bool true,by simp[results,results87,go_sem,U],h2⟩
end Go.Proofs.YtepbpdipenedhaaGreatDoor
namespace Go.Proofs.YtepbpdipenedhaaGreatDoor
open Go.Proofs.Tryz
open Go.RowKit
variable{B X:List Int}{T:List (bN×Value)}{own:Nat->List Nat}{w w':World}{b f gf gl gn gp:Nat}{ps:List (Int×Int)}{d n:Int}{M:Nat->Nd}
theorem C9 (h:fX w b gp B ps T own):
  Calls prog 83 #[.pointer (some ⟨b,0,none⟩)] w (cW w (Jo (az B ps) T)):=by
 have xB:=fu;obtain⟨Z0,ze⟩:∃Z0,aU cX (.slice none 0 0)=Z0:=⟨_,rfl⟩;have De:Hid (Z0.size=18):=by show _=_;rw[<-ze];rfl
 rw[ze] at xB;clear ze;have HG:Hid (Calls prog 97 #[.pointer (some ⟨b,0,none⟩),.int .i64 0] w (A1 w (az B ps) T own 0)):=h.get (i:=0) (by omega);have LL:Hid (∀y,ay [] w y->Calls prog 128 #[.pointer (some ⟨b,0,none⟩)] y λe w'=>e= .returned (.agg (cM (cL 32 (jQ T))).toArray)/\ay [] y w'):=λy hk=>C8 (h.keep0 hk)
 have Az:Hid (∀y,ay [] w y->∀i:Nat,i<32->Calls prog 129 #[.pointer (some ⟨b,0,none⟩),.int .i64 (i:Int)] y λe w'=>e= .returned (.bool (decide (dO (az B ps) (i:Int))))/\ay [] y w'):=λy hk i hi=>by
  have :=AZ (h.keep0 hk).sh (i:Int);rwa[show decide ((0<=(i:Int)/\(i:Int)<32)/\dO (az B ps) (i:Int))=decide (dO (az B ps) (i:Int)) by rw[decide_eq_decide];exact⟨λh=>h.2,λh=>⟨⟨by omega,by omega⟩,h⟩⟩] at this
 have HP:Hid (∀(r:Bool) w',(r=true↔((nT T 0).K=2/\∀i:Nat,i<32->0<jQ T i->¬dO (az B ps) (i:Int)))->ay [] w w'->cW w (Jo (az B ps) T) (.returned (.bool r)) w'):=λr w' hr hk=>⟨r,rfl,hr,hk⟩
 have G:Hid (∀i,i<32->(cM (cL 32 (jQ T))).toArray[i]? =some (.int .i64 (jQ T i:Int))):=λi hi=>tY hi
 clear h;generalize Jo (az B ps) T=pP at *;generalize az B ps=X at *;generalize (cM (cL 32 (jQ T))).toArray=ZR at *;go_enter func83,ntmps83;go_wp2_with fail;refine HG.out.mono ?_;rintro e w3 ⟨v,g,va,ga,r,rfl,hB,hE,hg,hO,sG,aa,hr⟩;obtain⟨w4,p1,p2,p3⟩:=fW (n:=nT T 0) (v:=v) (bf.new w3 Z0 111) De.out hB hE.one;have wQ:=ar p1;have oN:Hid (ay [] w w4):=aa.trans' (((ay.refl [] w3).alloc _).trans p3 (by intro x hx;rw[au] at hx;omega));have c1:w4.cell? ⟨w3.heap.size,1,none⟩=some (.int .i64 (nT T 0).K):=by rw[p2.cell];exact(jL _ hB).f1
 clear hB hE hg hO sG aa hr p1 p2 p3 HG;generalize aU (nT T 0) v=ZN at *;generalize hK:(nT T 0).K=K at *;by_cases J:K=2
 ·subst J
  have Sd:=ar (LL.out _ oN.out);clear LL;go_wp2_with(with_reducible refine gS 111 wQ.out ?_);refine Sd.out.mono ?_;rintro e w5 ⟨rfl,kr⟩;have pk:=ar (oN.out.trans' kr);clear kr Sd wQ c1 oN;go_wp2_with fail;go_loopg [19] 32 (λgh s19 y=>∃k:Nat,k+gh=32/\s19= .int .i64 (k:Int)/\Hid (ay [] w y/\∀i:Nat,i<k->0<jQ T i->¬dO X (i:Int)))
  case atStart=>exact⟨0,by omega,rfl,pk.out,λi hi=>by omega⟩
  case round=>
   clear pk;obtain⟨k,hk,rfl,W⟩:=hrel;cases gk with
   |zero=>
    obtain rfl:k=32:=by omega
    have HF:=ar (HP.out true _ ⟨λ_=>⟨(by first|trivial|rfl),W.out.2⟩,λ_=>rfl⟩ W.out.1);clear W HP Az G;go_wp2_with fail;go_ret;exact HF.out
   |succ gg=>
    have ya:(k:Int)<32:=by omega
    have qT:k<32:=by omega
    have Ad:=jR 182 3 32 .i64 ZR k _ underlying182 underlying3 mg qT (G.out k qT);have V:=ar (Az.out _ W.out.1 k qT);have U:=ar W.out.2;have rL:=ar W.out.1;have kR:Hid ((0<jQ T k->¬dO X (k:Int))->∀i:Nat,i<k+1->0<jQ T i->¬dO X (i:Int)):=λhh i hi=>by
     by_cases e:i=k
     ·rw[e];exact hh
     ·exact U.out i (by omega)
    have jc:Hid (¬(0<jQ T k->¬dO X (k:Int))->¬((2:Int)=2/\∀i:Nat,i<32->0<jQ T i->¬dO X (i:Int))):=λhh ha=>hh (ha.2 k qT)
    clear W Az G U;generalize jQ T k=z at *;by_cases hz:0<z
    ·have VD:(0:Int)<(z:Int):=by omega
     by_cases Z:dO X (k:Int)
     ·rw[bh Z] at V
      have Ur:=ar (jc.out λh=>h hz Z);clear kR jc Z hz;go_wp2_with fail;refine V.out.mono ?_;rintro e w6 ⟨rfl,jZ⟩;have HF:=ar (HP.out false _ ⟨(λh=>by cases h),λh=>absurd h Ur.out⟩ (rL.out.trans' jZ));clear jZ V rL Ur HP;go_wp2_with fail;go_ret;exact HF.out
     ·rw[aM Z] at V
      have HN:=ar (kR.out λ_=>Z);clear kR jc Z hz;go_wp2_with fail;refine V.out.mono ?_;rintro e w6 ⟨rfl,jZ⟩;have nM:=ar (rL.out.trans' jZ);clear jZ V rL;go_wp2_with fail;go_roundg gg;case measure=>omega
      case rel=>exact⟨k+1,by omega,by go_num,nM.out,HN.out⟩
    ·have VD:¬(0:Int)<(z:Int):=by omega
     have HN:=ar (kR.out λh=>absurd h hz);obtain rfl:z=0:=by omega
     clear kR jc hz V;go_wp2_with fail;go_roundg gg;case measure=>omega
     case rel=>exact⟨k+1,by omega,by go_num,rL.out,HN.out⟩
 ·have hb:(K != 2)=true:=bne_iff_ne.2 J
  have HF:=ar (HP.out false _ ⟨(λh=>by cases h),λh=>absurd h.1 J⟩ oN.out);clear LL Az HP J G;go_wp2_with(with_reducible refine gS 111 wQ.out ?_);go_ret;exact HF.out
def lA (w:World) (P:Nat->Prop) (e:Ending) (w':World):Prop:=∃k:Nat,e= .returned (.tuple #[.int .i64 (k:Int),.bool (decide (k=0))])/\Gz P k/\k<=7/\ay [] w w'
theorem Qo (w:World):Calls prog 37 #[] w λe w'=>e= .returned (.slice (some ⟨w.heap.size,0,none⟩) 7 7)/\ay [] w w'/\
  w'.cell? ⟨w.heap.size,0,none⟩=some (.func (.func 81) #[] #[])/\w'.cell? ⟨w.heap.size,1,none⟩=some (.func (.func 82) #[] #[])/\w'.cell? ⟨w.heap.size,2,none⟩=some (.func (.func 83) #[] #[])/\
  w'.cell? ⟨w.heap.size,3,none⟩=some (.func (.func 84) #[] #[])/\w'.cell? ⟨w.heap.size,4,none⟩=some (.func (.func 85) #[] #[])/\w'.cell? ⟨w.heap.size,5,none⟩=some (.func (.func 86) #[] #[])/\
  w'.cell? ⟨w.heap.size,6,none⟩=some (.func (.func 87) #[] #[])/\w.heap.size<w'.heap.size:=by
 go_enter func37,ntmps37;go_wp2_with fail;go_ret;exact⟨(by first|trivial|rfl),(ay.refl [] w).alloc _,by rw[(bf.new w _ _).cell];rfl,by rw[(bf.new w _ _).cell];rfl,by rw[(bf.new w _ _).cell];rfl,by rw[(bf.new w _ _).cell];rfl,by rw[(bf.new w _ _).cell];rfl,by rw[(bf.new w _ _).cell];rfl,by rw[(bf.new w _ _).cell];rfl,by simp⟩
theorem J5 (h:fX w b gp B ps T own):
  Calls prog 15 #[.pointer (some ⟨b,0,none⟩)] w (lA w (pK (az B ps) T own)):=by
 have KM:Hid (∀G,ay [] w G->Calls prog 81 #[.pointer (some ⟨b,0,none⟩)] G (cW G (pK (az B ps) T own 0))):=λG Z=>DV (h.keep0 Z).sh
 have R4:Hid (∀G,ay [] w G->Calls prog 82 #[.pointer (some ⟨b,0,none⟩)] G (cW G (pK (az B ps) T own 1))):=λG Z=>Pw (h.keep0 Z)
 have TU:Hid (∀G,ay [] w G->Calls prog 83 #[.pointer (some ⟨b,0,none⟩)] G (cW G (pK (az B ps) T own 2))):=λG Z=>C9 (h.keep0 Z)
 have Ou:Hid (∀G,ay [] w G->Calls prog 84 #[.pointer (some ⟨b,0,none⟩)] G (cW G (pK (az B ps) T own 3))):=λG Z=>AF (h.keep0 Z)
 have WN:Hid (∀G,ay [] w G->Calls prog 85 #[.pointer (some ⟨b,0,none⟩)] G (cW G (pK (az B ps) T own 4))):=λG Z=>DW (h.keep0 Z)
 have Ke:Hid (∀G,ay [] w G->Calls prog 86 #[.pointer (some ⟨b,0,none⟩)] G (cW G (pK (az B ps) T own 5))):=λG Z=>DX (h.keep0 Z)
 have M3:Hid (∀G,ay [] w G->Calls prog 87 #[.pointer (some ⟨b,0,none⟩)] G (cW G (pK (az B ps) T own 6))):=λG Z=>Eb (h.keep0 Z)
 clear h;generalize pK (az B ps) T own=pP at *;go_enter func15,ntmps15;go_wp2_with fail;refine(Qo _).mono ?_;rintro e w1 ⟨rfl,aa,q0,q1,q2,q3,q4,q5,q6,ac⟩;have jl:=ar aa;have HQ:Hid (∀G,ay [] w1 G->G.cell? ⟨w.heap.size,0,none⟩=some (.func (.func 81) #[] #[])/\G.cell? ⟨w.heap.size,1,none⟩=some (.func (.func 82) #[] #[])/\G.cell? ⟨w.heap.size,2,none⟩=some (.func (.func 83) #[] #[])/\
  G.cell? ⟨w.heap.size,3,none⟩=some (.func (.func 84) #[] #[])/\G.cell? ⟨w.heap.size,4,none⟩=some (.func (.func 85) #[] #[])/\G.cell? ⟨w.heap.size,5,none⟩=some (.func (.func 86) #[] #[])/\
  G.cell? ⟨w.heap.size,6,none⟩=some (.func (.func 87) #[] #[])):=λG Z=>by
  have hb:=Z.block w.heap.size ac (by simp);exact⟨(aK (a:=⟨w.heap.size,0,none⟩) hb).trans q0,(aK (a:=⟨w.heap.size,1,none⟩) hb).trans q1,(aK (a:=⟨w.heap.size,2,none⟩) hb).trans q2,(aK (a:=⟨w.heap.size,3,none⟩) hb).trans q3,(aK (a:=⟨w.heap.size,4,none⟩) hb).trans q4,(aK (a:=⟨w.heap.size,5,none⟩) hb).trans q5,(aK (a:=⟨w.heap.size,6,none⟩) hb).trans q6⟩
 clear aa q0 q1 q2 q3 q4 q5 q6 ac;go_wp2_with fail;go_loopg [8] 7 (λgh s8 G=>∃k:Nat,k+gh=7/\s8= .int .i64 (k:Int)/\Hid (ay [] w1 G/\∀j,j<k->pP j))
 case atStart=>exact⟨0,by omega,rfl,ay.refl _ _,λj hj=>by omega⟩
 case round=>
  obtain⟨k,Z,rfl,HI⟩:=hrel;cases gk with
  |zero=>
   obtain rfl:k=7:=by omega
   have HF:Hid (lA w pP (.returned (.tuple #[.int .i64 0,.bool true])) wr):=⟨0,rfl,.inl ⟨rfl,HI.out.2⟩,by omega,jl.out.trans' HI.out.1⟩;clear HI HQ KM R4 TU Ou WN Ke M3;go_wp2_with fail;go_ret2;exact HF.out
  |succ gg=>
   have y:=ar HI.out.2;have V:=ar HI.out.1;obtain⟨q0,q1,q2,q3,q4,q5,q6⟩:=HQ.out _ V.out;have qp:=ar (jl.out.trans' V.out);have Df:k=0\/k=1\/k=2\/k=3\/k=4\/k=5\/k=6:=by omega
   have ae:=gg;rcases Df with rfl|rfl|rfl|rfl|rfl|rfl|rfl
   ·obtain rfl:gg=6:=by omega
    have U:=ar (KM.out _ qp.out);clear HI HQ KM R4 TU Ou WN Ke M3 q1 q2 q3 q4 q5 q6;go_wp2_with fail;refine U.out.mono ?_;rintro e W ⟨r,rfl,J,z⟩;cases r
    ·have HF:Hid (lA w pP (.returned (.tuple #[.int .i64 1,.bool false])) W):=⟨1,rfl,.inr ⟨by omega,by omega,λh=>(by cases J.2 h),y.out⟩,by omega,qp.out.trans' z⟩
     clear y V J z U;go_wp2_with fail;go_ret2;exact HF.out
    ·have HN:Hid (ay [] w1 W/\∀j,j<1->pP j):=⟨V.out.trans' z,λj hj=>by
      by_cases e:j=0
      ·rw[e];exact J.1 rfl
      ·exact y.out j (by omega)⟩
     clear y V J z U;go_wp2_with fail;go_roundg 6;case measure=>omega
     case rel=>exact⟨1,by omega,by go_num,HN.out⟩
   ·obtain rfl:gg=5:=by omega
    have U:=ar (R4.out _ qp.out);clear HI HQ KM R4 TU Ou WN Ke M3 q0 q2 q3 q4 q5 q6;go_wp2_with fail;refine U.out.mono ?_;rintro e W ⟨r,rfl,J,z⟩;cases r
    ·have HF:Hid (lA w pP (.returned (.tuple #[.int .i64 2,.bool false])) W):=⟨2,rfl,.inr ⟨by omega,by omega,λh=>(by cases J.2 h),y.out⟩,by omega,qp.out.trans' z⟩
     clear y V J z U;go_wp2_with fail;go_ret2;exact HF.out
    ·have HN:Hid (ay [] w1 W/\∀j,j<2->pP j):=⟨V.out.trans' z,λj hj=>by
      by_cases e:j=1
      ·rw[e];exact J.1 rfl
      ·exact y.out j (by omega)⟩
     clear y V J z U;go_wp2_with fail;go_roundg 5;case measure=>omega
     case rel=>exact⟨2,by omega,by go_num,HN.out⟩
   ·obtain rfl:gg=4:=by omega
    have U:=ar (TU.out _ qp.out);clear HI HQ KM R4 TU Ou WN Ke M3 q0 q1 q3 q4 q5 q6;go_wp2_with fail;refine U.out.mono ?_;rintro e W ⟨r,rfl,J,z⟩;cases r
    ·have HF:Hid (lA w pP (.returned (.tuple #[.int .i64 3,.bool false])) W):=⟨3,rfl,.inr ⟨by omega,by omega,λh=>(by cases J.2 h),y.out⟩,by omega,qp.out.trans' z⟩
     clear y V J z U;go_wp2_with fail;go_ret2;exact HF.out
    ·have HN:Hid (ay [] w1 W/\∀j,j<3->pP j):=⟨V.out.trans' z,λj hj=>by
      by_cases e:j=2
      ·rw[e];exact J.1 rfl
      ·exact y.out j (by omega)⟩
     clear y V J z U;go_wp2_with fail;go_roundg 4;case measure=>omega
     case rel=>exact⟨3,by omega,by go_num,HN.out⟩
   ·obtain rfl:gg=3:=by omega
    have U:=ar (Ou.out _ qp.out);clear HI HQ KM R4 TU Ou WN Ke M3 q0 q1 q2 q4 q5 q6;go_wp2_with fail;refine U.out.mono ?_;rintro e W ⟨r,rfl,J,z⟩;cases r
    ·have HF:Hid (lA w pP (.returned (.tuple #[.int .i64 4,.bool false])) W):=⟨4,rfl,.inr ⟨by omega,by omega,λh=>(by cases J.2 h),y.out⟩,by omega,qp.out.trans' z⟩
     clear y V J z U;go_wp2_with fail;go_ret2;exact HF.out
    ·have HN:Hid (ay [] w1 W/\∀j,j<4->pP j):=⟨V.out.trans' z,λj hj=>by
      by_cases e:j=3
      ·rw[e];exact J.1 rfl
      ·exact y.out j (by omega)⟩
     clear y V J z U;go_wp2_with fail;go_roundg 3;case measure=>omega
     case rel=>exact⟨4,by omega,by go_num,HN.out⟩
   ·obtain rfl:gg=2:=by omega
    have U:=ar (WN.out _ qp.out);clear HI HQ KM R4 TU Ou WN Ke M3 q0 q1 q2 q3 q5 q6;go_wp2_with fail;refine U.out.mono ?_;rintro e W ⟨r,rfl,J,z⟩;cases r
    ·have HF:Hid (lA w pP (.returned (.tuple #[.int .i64 5,.bool false])) W):=⟨5,rfl,.inr ⟨by omega,by omega,λh=>(by cases J.2 h),y.out⟩,by omega,qp.out.trans' z⟩
     clear y V J z U;go_wp2_with fail;go_ret2;exact HF.out
    ·have HN:Hid (ay [] w1 W/\∀j,j<5->pP j):=⟨V.out.trans' z,λj hj=>by
      by_cases e:j=4
      ·rw[e];exact J.1 rfl
      ·exact y.out j (by omega)⟩
     clear y V J z U;go_wp2_with fail;go_roundg 2;case measure=>omega
     case rel=>exact⟨5,by omega,by go_num,HN.out⟩
   ·obtain rfl:gg=1:=by omega
    have U:=ar (Ke.out _ qp.out);clear HI HQ KM R4 TU Ou WN Ke M3 q0 q1 q2 q3 q4 q6;go_wp2_with fail;refine U.out.mono ?_;rintro e W ⟨r,rfl,J,z⟩;cases r
    ·have HF:Hid (lA w pP (.returned (.tuple #[.int .i64 6,.bool false])) W):=⟨6,rfl,.inr ⟨by omega,by omega,λh=>(by cases J.2 h),y.out⟩,by omega,qp.out.trans' z⟩
     clear y V J z U;go_wp2_with fail;go_ret2;exact HF.out
    ·have HN:Hid (ay [] w1 W/\∀j,j<6->pP j):=⟨V.out.trans' z,λj hj=>by
      by_cases e:j=5
      ·rw[e];exact J.1 rfl
      ·exact y.out j (by omega)⟩
     clear y V J z U;go_wp2_with fail;go_roundg 1;case measure=>omega
     case rel=>exact⟨6,by omega,by go_num,HN.out⟩
   ·obtain rfl:gg=0:=by omega
    have U:=ar (M3.out _ qp.out);clear HI HQ KM R4 TU Ou WN Ke M3 q0 q1 q2 q3 q4 q5;go_wp2_with fail;refine U.out.mono ?_;rintro e W ⟨r,rfl,J,z⟩;cases r
    ·have HF:Hid (lA w pP (.returned (.tuple #[.int .i64 7,.bool false])) W):=⟨7,rfl,.inr ⟨by omega,by omega,λh=>(by cases J.2 h),y.out⟩,by omega,qp.out.trans' z⟩
     clear y V J z U;go_wp2_with fail;go_ret2;exact HF.out
    ·have HN:Hid (ay [] w1 W/\∀j,j<7->pP j):=⟨V.out.trans' z,λj hj=>by
      by_cases e:j=6
      ·rw[e];exact J.1 rfl
      ·exact y.out j (by omega)⟩
     clear y V J z U;go_wp2_with fail;go_roundg 0;case measure=>omega
     case rel=>exact⟨7,by omega,by go_num,HN.out⟩
def On (s:iN):Prop:=s.now.length=3128/\In64 s.now/\∀k:Nat,k<s.now.length->s.refusal (k:Int)=0/\s.load (k:Int)=s.now.getD k 0
def G0 (w:World) (b:Nat) (R:iN->World->Prop) (e:Ending) (w':World):Prop:=
 (∃x s,e= .returned (.tuple #[.pointer none,.int .i64 x])/\x=10/\On s/\(∀M,¬∃T own,nS s.now T own [] M)/\R s w')\/
 (∃f s,e= .returned (.tuple #[.pointer (some ⟨f,0,none⟩),.int .i64 0])/\On s/\WB w' f b/\w.heap.size<=f/\(∃M T own,nS s.now T own [] M)/\R s w')
theorem Qp{U:Nat}(hl:X.length=3128)(y:In64 X)(hs:eT w b U X [])(G:b<w.heap.size/\U<w.heap.size):
  Calls prog 15 #[.pointer (some ⟨b,0,none⟩)] w λe w'=>∃k:Nat,e= .returned (.tuple #[.int .i64 (k:Int),.bool (decide (k=0))])/\ay [] w w'/\Hid (k=0↔∃M T own,nS X T own [] M):=by
 by_cases V:∃M T own,nS X T own [] M
 ·obtain⟨M,T,own,Z⟩:=id V
  have z:fX w b U X [] T own:=⟨hs,y,Z.st.gots,G⟩;refine(J5 z).mono ?_;rintro e w' ⟨k,rfl,J,-,W⟩;refine⟨k,rfl,W,λ_=>V,λ_=> ?_⟩;rw[vI] at J;exact J.uniq (.inl ⟨rfl,Z.points⟩)
 ·obtain⟨T,own,hg⟩:=Wj X
  have z:fX w b U X [] T own:=⟨hs,y,hg,G⟩;refine(J5 z).mono ?_;rintro e w' ⟨k,rfl,J,-,W⟩;refine⟨k,rfl,W,λh0=> ?_,λh=>absurd h V⟩;rw[vI] at J;rcases J with ⟨-,h4⟩|⟨h4,-⟩
  ·obtain⟨M,hm⟩:=aab hl y hg h4
   exact⟨M,T,own,hm⟩
  ·omega
theorem Qq{x:Int}{R:World->Prop}(y:x≠0)(h:Calls prog 41 #[.pointer (some ⟨b,0,none⟩)] w λe w'=>e= .returned (.int .i64 x)/\R w'):
  Calls prog 19 #[.pointer (some ⟨b,0,none⟩)] w λe w'=>e= .returned (.tuple #[.pointer none,.int .i64 x])/\R w':=by
 have H:=ar h;have G:(x != 0)=true:=by simpa using y
 clear h y;go_enter func19,ntmps19;go_wp2_with fail;refine H.out.mono ?_;rintro e J ⟨rfl,z⟩;go_wp2_with fail;go_ret2;exact⟨rfl,z⟩
theorem J6{R:iN->World->Prop}(hR:∀s wa wb,ay [] wa wb->R s wa->R s wb)(h:Calls prog 41 #[.pointer (some ⟨b,0,none⟩)] w λe w'=>e= .returned (.int .i64 0)/\∃s,On s/\dQ w' b gn gl gf s/\w.heap.size<=w'.heap.size/\R s w'):
  Calls prog 19 #[.pointer (some ⟨b,0,none⟩)] w (G0 w b R):=by
 have H:=ar h;have HR:=ar hR;clear h hR;go_enter func19,ntmps19;go_wp2_with fail;refine H.out.mono ?_;rintro e w1 ⟨rfl,s,G,hp,ac,hr⟩;have ag:=ar G;have aa:=ar hr;have uo:=ar ac;have nC:=ar (JY hp G.2.2);have U:Hid (∀y f,ay [] w1 y->WB y f b->w.heap.size<=f->(∃M T own,nS s.now T own [] M)->G0 w b R (.returned (.tuple #[.pointer (some ⟨f,0,none⟩),.int .i64 0])) y):=λy f z hf hw Hd=> .inr ⟨f,s,rfl,G,hf,hw,Hd,HR.out s w1 y z hr⟩
 have J:Hid (∀y,ay [] w1 y->(¬∃M T own,nS s.now T own [] M)->G0 w b R (.returned (.tuple #[.pointer none,.int .i64 10])) y):=λy z hn=> .inl ⟨10,s,rfl,rfl,G,λM h2=>hn ⟨M,h2⟩,HR.out s w1 y z hr⟩
 have TM:jy s.now=s.now:=by
  apply dB (by rw[gT,G.1]);intro k h1 h2;have :=sY s.now k;rw[gT] at h1;rw[aj,aF (by rw[gT];exact h1),gZ] at this;rw[this,aB h1,aj,aF h2];rfl
 have Z:Hid (∀y V,eT y V V s.now []->Calls prog 15 #[.pointer (some ⟨V,0,none⟩)] y λe w3=>∃k:Nat,e= .returned (.tuple #[.int .i64 (k:Int),.bool (decide (k=0))])/\ay [] y w3/\Hid (k=0↔∃M T own,nS s.now T own [] M)):=λy V hs=>Qp G.1 G.2.1 hs ⟨hs.raw.lt,hs.raw.lt⟩
 have af:=ar TM;clear G hp ac hr HR TM;generalize G0 w b R=Q at *;generalize s.now=X at *;go_wp2_with fail;refine nC.out.mono ?_;rintro e y ⟨v,g,rfl,IW,hg,z⟩;have W:=Bq IW;rw[af.out] at W;have W:=ar W;have fF:=ar z;clear IW hg z nC af;go_wp2_with fail;refine W.out.mono ?_;rintro e w3 ⟨V,rfl,ah,ae,z⟩;have HS:=ar (Z.out w3 V ae);have lV:=ar (fF.out.trans' z);clear ah ae z W Z fF;go_wp2_with fail;refine HS.out.mono ?_;rintro e w4 ⟨k,rfl,z,NW⟩;have oN:=ar (lV.out.trans' z);clear z HS lV;by_cases eo:k=0
 ·have HF:Hid (Q (.returned (.tuple #[.pointer (some ⟨w4.heap.size,0,none⟩),.int .i64 0])) (w4.alloc (.cells #[.pointer (some ⟨b,0,none⟩)] 75))):=U.out _ _ (oN.out.alloc _) (bf.new _ _ _) (by have :=oN.out.size;have :=uo.out;omega) (NW.out.1 eo)
  subst eo;clear U J NW ag aa uo;go_wp2_with fail;exact HF.out
 ·have hd:decide (k=0)=false:=aM eo
  have HF:=ar (J.out _ oN.out (λh=>eo (NW.out.2 h)));clear U J NW ag aa uo eo;go_wp2_with fail;exact HF.out
theorem TW (h:In64 X):Bh X:=λx z=>by
 obtain⟨i,y,rfl⟩:=bU z;have :=h i;rw[aj,aF y,gZ] at this;omega
theorem z7{xs:List Int}(h:dQ w b gn gl gf (calm xs d))(z:xs.length=3128)(U:Bh xs)(G:xs.getD 8 0=0):
  Calls prog 41 #[.pointer (some ⟨b,0,none⟩)] w λe w'=>e= .returned (.int .i64 0)/\ay [] w w':=by
 have W:GL xs=none:=by
  unfold GL D7;rw[G,aA];rintro⟨h1,-⟩;simp at h1
 have V:=ar (D8 h z U W);have J:=ar (λwx (y:ay [] w wx)=>qY (h.keep y (by simp) (by simp)) 8 (by omega) (by rw[z];omega));rw[show(8:Int).toNat=8 from rfl,G] at J;clear h z U W G;go_enter func41,ntmps41;go_wp2_with fail;refine V.out.mono ?_;rintro e w1 ⟨rfl,y⟩;have Z:=ar (J.out w1 y);have HK:=ar y;clear y J V;go_wp2_with fail;refine Z.out.mono ?_;rintro e w' ⟨rfl,rfl⟩;go_wp2_with fail;go_ret;exact⟨rfl,HK.out⟩
theorem G1 (G:X.length=3128)(h:In64 X):On (calm X d):=by
 refine⟨G,h,λk z=> ?_⟩;have y:(k:Int)<X.length:=by have :k<X.length:=z;omega
 exact⟨rV (by omega) y,by rw[Fp (by omega) y];rfl⟩
structure Live (W0:World) (f b gn gl gf:Nat) (M:Nat->Nd) (X:List Int) (n:Int) (w:World):Prop where
 fs:WB w f b
 ws:Kh X M
 pm:∃d,(0<=d/\d<=n)/\dQ w b gn gl gf (calm X d)
 keeps:ay [] W0 w
 new:W0.heap.size<=f/\W0.heap.size<=b/\W0.heap.size<=gn/\W0.heap.size<=gl/\W0.heap.size<=gf
 off:f∉[b,gn,gl,gf]
theorem Live.keep{G:World}(h:Live G f b gn gl gf M X n w){l:List Nat}(J:ay l w w')(V:∀y∈l,G.heap.size<=y/\y∉[f,b,gn,gl,gf]):Live G f b gn gl gf M X n w':=by
 obtain⟨d,W,hp⟩:=h.pm;have z:∀y,y∈[f,b,gn,gl,gf]->y∉l:=λy U Z=>(V y Z).2 U
 exact⟨h.fs.keep J (z _ (by simp)),h.ws,⟨d,W,hp.keep J (z _ (by simp)) (λ_=>⟨z _ (by simp),z _ (by simp),z _ (by simp)⟩)⟩,h.keeps.trans J (λy U=> .inr (V y U).1),h.new,h.off⟩
theorem Live.keep0{y:World}(h:Live y f b gn gl gf M X n w)(z:ay [] w w'):Live y f b gn gl gf M X n w':=h.keep z (by simp)
def acA (h:World) (f b gn gl gf:Nat) (M:Nat->Nd) (X:List Int) (n:Int) (o:pX) (w:World) (e:Ending) (w':World):Prop:=
 ∃r Z,e= .returned (.agg Z)/\wM w.heap.size w' r Z/\ay [b,gn,gl,gf] w w'/\
  ((r.E≠0/\Live h f b gn gl gf M X n w'/\((r.E=7/\r=fY 7/\GU o.K=true/\((yf M o).2.E=0\/(yf M o).2.E=7)/\((bp X).length<40\/(yf M o).2.E=7))\/r=(yf M o).2))\/
  (r.E=0/\(yf M o).2.E=0/\aag o r (yf M o).2/\∃y,Live h f b gn gl gf (yf M o).1 y (n+3000) w'))
theorem Qr{W0:World}{o:pX}{vp vq vd:Value}(af:GY M o)(h:Live W0 f b gn gl gf M X n w)(hT:lC W0)(hn:n<=1000000000)(hI:Me w o vp vq vd):
  Calls prog 10 #[.pointer (some ⟨f,0,none⟩),.agg (GQ o vp vq vd)] w (acA W0 f b gn gl gf M X n o w):=by
 obtain⟨d,hd,hp⟩:=h.pm;have J:=h.ws.len;have ag:=hp.old (by show X.length≠0;omega);have U:∀y∈[b,gn,gl,gf],y<w.heap.size:=λy hy=>by
  simp only[aQ,aS,bD] at hy;omega
 have uK:=G1 (d:=d) J h.ws.w64;have aa:=Wn h.ws.tree h.ws.few (o:=o) hI.ds;refine(WC (X:=X) (M:=M) (ks:=[b,gn,gl,gf]) (C:=λps x w'=>x=0/\dQ w' b gn gl gf (calm (kZ X ps) (d+(yl ps:Nat)))) af h.fs hp rfl uK.2.2 h.ws (hT.keep h.keeps) hI U ?_ ?_).mono ?_
 ·rintro ps x wa wb l hl z ⟨rfl,W⟩
  have G:∀y,y∈[b,gn,gl,gf]->y∉l:=λy hy hm=>by have :=hl y hm;have :=U y hy;omega
  exact⟨rfl,W.keep z (G _ (by simp)) (λ_=>⟨G _ (by simp),G _ (by simp),G _ (by simp)⟩)⟩
 ·intro w1 v g qs r0 z hO h0 hr hg
  obtain⟨-,-,hl⟩:=hO.E_zero h0;obtain⟨c1,c2,c3,-,-⟩:=h.ws.lands hl aa.1;refine(PR (hp.keep z (by simp) (by simp)) hd.1 (by omega) J hr c1 c2 c3 (λ_ hm=>by have :=U _ hm;omega)).mono ?_;rintro e w2 ⟨rfl,W,h2⟩;exact⟨0,rfl,h2,rfl,W⟩
 ·rintro e w' ⟨r,Z,rfl,W,⟨z,h2,r0,qs,hO,rfl⟩|⟨z,r0,qs,x,hO,h0,⟨rfl,ae⟩,⟨-,rfl⟩|⟨hx,-⟩⟩⟩
  ·refine⟨_,Z,rfl,W,z.mono (by simp),.inl ⟨h2,h.keep0 z,?_⟩⟩
   have ac:r0.E≠0:=h2;rcases hO with ⟨V,a2,a3,a4⟩|⟨V,a2⟩|⟨V,-⟩
   ·exact .inl ⟨V,by rw[V],a2,a3,a4⟩
   ·exact .inr a2.symm
   ·exact absurd V ac
  ·obtain⟨V,a2,hl⟩:=hO.E_zero h0
   obtain⟨c1,c2,c3,c4,-⟩:=h.ws.lands hl aa.1;have NT:=Nv (cu X (az X qs) 3128);refine⟨r,Z,rfl,W,z,.inr ⟨h0,V,a2,_,h.fs.keep z h.off,c4,⟨_,⟨by omega,by omega⟩,ae⟩,h.keeps.trans z λy hy=> .inr ?_,h.new,h.off⟩⟩;have :=h.new;simp only[aQ,aS,bD] at hy;omega
  ·exact absurd rfl hx
def x9 (J:Array Value):List Value:=[.func (.func 53) #[.agg J] #[],.func (.func 54) #[.agg J] #[],.func (.func 55) #[.agg J] #[],.func (.func 56) #[.agg J] #[],.func (.func 57) #[.agg J] #[],.func (.func 58) #[.agg J] #[],.func (.func 59) #[.agg J] #[],.func (.func 60) #[.agg J] #[],.func (.func 61) #[.agg J] #[],.func (.func 62) #[.agg J] #[],.func (.func 63) #[.agg J] #[],.func (.func 64) #[.agg J] #[],.func (.func 65) #[.agg J] #[]]
theorem TX (J:Array Value):∀u∈x9 J,u.oneCell'=true:=by
 intro u h;simp only[x9,aQ,aS,bD] at h;rcases h with rfl|rfl|rfl|rfl|rfl|rfl|rfl|rfl|rfl|rfl|rfl|rfl|rfl<;>rfl
theorem Qs:(prog.info? 120).map (·.size)=some 13:=by kernel_rfl
theorem Ml (w:World)(J Z:Array Value)(h:Z.size=13):∃w',(storeVar 120 ⟨w.heap.size,0,none⟩ (.agg (x9 J).toArray)).run prog (w.alloc (.cells Z 120))= .ok () w'/\bf w' w.heap.size (x9 J).toArray 120/\ay [w.heap.size] (w.alloc (.cells Z 120)) w':=
 bo (P:= prog) (cs:=x9 J) (by exact Qs) (bf.new _ _ _) (by rw[h];rfl) (TX J)
theorem TY (w:World)(b:Nat){o:pX}(h vq vd:Value){k:Nat}(hK:o.K=(k:Int))(hk:k<13):
  Calls prog 27 #[.agg (iR b o h vq vd)] w λe w'=>e= .returned ((x9 (iR b o h vq vd)).getD k undef)/\ay [] w w':=by
 have y:=bf.new w (iR b o h vq vd) 79;have c1:(w.alloc (.cells (iR b o h vq vd) 79)).cell? ⟨w.heap.size,1,none⟩=some (.int .i64 o.K):=by rw[y.cell];rfl
 have U:Hid (∀V,ay [] (w.alloc (.cells (iR b o h vq vd) 79)) V->(loadVar 79 ⟨w.heap.size,0,none⟩).run prog V= .ok (.agg (iR b o h vq vd)) V):=λV hk=>xX (y.keep hk (by simp))
 obtain⟨W,hW⟩:∃W,w.alloc (.cells (iR b o h vq vd) 79)=W:=⟨_,rfl⟩;rw[hW] at y c1 U;have J3:=ar (U.out W (ay.refl _ _));generalize hJ:iR b o h vq vd=J at *;obtain⟨z,q1,q2,q3⟩:=Ml W J #[.nilFunc,.nilFunc,.nilFunc,.nilFunc,.nilFunc,.nilFunc,.nilFunc,.nilFunc,.nilFunc,.nilFunc,.nilFunc,.nilFunc,.nilFunc] rfl;have Z:ay [] W z:=((ay.refl _ _).alloc _).trans q3 (by intro x hx;rw[au] at hx;omega);have G:ay [] w z:=by
  have :ay [] w W:=by rw[<-hW];exact(ay.refl _ _).alloc _
  exact this.trans' Z
 have c2:z.cell? ⟨w.heap.size,1,none⟩=some (.int .i64 o.K):=by rw[(y.keep Z (by simp)).cell,<-hJ];rfl
 have aa:=ar (U.out z Z);have HS:=ar q1;have fF:=ar G;have c5:z.cell? ⟨W.heap.size,k,none⟩=some ((x9 J).getD k undef):=by
  rw[q2.cell,aC,aj,aF (show k<(x9 J).length from hk)];rfl
 rw[hK] at c2;have b1:(0:Int)<=(k:Int):=by omega
 have b2:(k:Int)<13:=by omega
 have b3:decide ((k:Int)<0)=false:=aM (by omega);have b4:¬(13:Int)<=(k:Int):=by omega
 clear U q1 q2 q3 Z G y c1 hJ hK;generalize (x9 J).getD k undef=fv at *;go_enter func27,ntmps27;go_wp2_with(first|(with_reducible refine gL 79 J3.out ?_)|(with_reducible refine gS 120 HS.out ?_));go_ret;exact⟨rfl,fF.out⟩
theorem Qt (M:Nat->Nd){o:pX}(z:o.K=0):GY M o:=by
 intro w b gp B T own V vq vd h J G;refine(TY w b V vq vd (k:=0) z (by omega)).mono ?_;rintro e w' ⟨rfl,Z⟩;refine⟨_,rfl,Z,C4 func53 rfl rfl _,λw2 y=> ?_⟩;obtain⟨⟨g1,W⟩,U,⟨g3,a3⟩,a4,⟨g5,a5⟩,a6⟩:=G.keep y;exact J4 (h.keep0 y) J W U z
def opA (nm:ByteArray):pX:=⟨0,[nm],[],0,0,[]⟩
theorem aau:(yf xY (opA ⟨#[97]⟩)).2.E=0/\(yf xY (opA ⟨#[97]⟩)).2.N=1:=by
 rw[GW (.inl rfl)]
 decide+kernel
theorem TZ (w:World):(zeroValue 37).run prog w= .ok (.agg #[.int .i64 0,.slice none 0 0,.slice none 0 0,.int .i64 0,.int .i64 0,.slice none 0 0]) w:=by kernel_rfl
theorem Mm (w:World)(g:Nat):jh w (.slice none 0 0) g []:=⟨none,0,rfl,by simp,by simp[maxLen],λh=>absurd rfl h⟩
theorem T6 (w:World)(s:ByteArray)(T:Nat):jh (w.alloc (.cells #[.string s] T)) (.slice (some ⟨w.heap.size,0,none⟩) 1 1) w.heap.size [s]:=by
 have h:=bf.new w #[.string s] T;refine⟨some ⟨w.heap.size,0,none⟩,1,rfl,aG _,by unfold maxLen;omega,λ_=>⟨h.lt,0,rfl,λj y=> ?_⟩⟩;rw[h.cell,aV,<-aC];rfl
end Go.Proofs.YtepbpdipenedhaaGreatDoor
namespace Go.Proofs.YtepbpdipenedhaaGreatDoor
open Go.Proofs.Tryz
open Go.RowKit
variable{B X:List Int}{T:List (bN×Value)}{own:Nat->List Nat}{w w':World}{b f gf gl gn gp:Nat}{ps:List (Int×Int)}{d n:Int}{M:Nat->Nd}
end Go.Proofs.YtepbpdipenedhaaGreatDoor
namespace Go.Proofs.YtepbpdipenedhaaGreatDoor
open Go.Proofs.Tryz
open Go.RowKit
variable{B X:List Int}{T:List (bN×Value)}{own:Nat->List Nat}{w w':World}{b f gf gl gn gp:Nat}{ps:List (Int×Int)}{d n:Int}{M:Nat->Nd}
def opZ:pX:=⟨0,[],[],0,0,[]⟩
structure acB (w:World) (o:pX) (Z:Array Value):Prop where
 cells:∃vp vq vd,Z=GQ o vp vq vd/\(∃g,jh w vp g o.P)/\(∃g,jh w vq g o.Q)/\∃g,Reads w vd g (QS o.D)
 i64:(-9223372036854775808<=o.K/\o.K<=9223372036854775807)/\(-9223372036854775808<=o.O/\o.O<=9223372036854775807)/\(-9223372036854775808<=o.N/\o.N<=9223372036854775807)
 bytes:Wl o
structure aec (o:pX):Prop where
 lens:o.P.length<=10/\o.Q.length<=10/\o.D.length<=900
 path:∀k,k<o.P.length->(jK o.P k).size<=30
 dest:∀k,k<o.Q.length->(jK o.Q k).size<=30
end Go.Proofs.YtepbpdipenedhaaGreatDoor
