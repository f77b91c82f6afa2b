/- Lemmas. -/
import Derived.Test.YtepbpdipenedhaaGreatDoorM31
import Derived.Test.YtepbpdipenedhaaGreatDoorM30
set_option maxHeartbeats 8000000
set_option maxRecDepth 100000
namespace Go.Proofs.YtepbpdipenedhaaGreatDoor
open Go.Proofs.Tryz
section
open Go.RowKit Go.Shelf
variable{B X:List Int}{T:List (bT×Value)}{own:Nat->List Nat}{w w':World}{V b f gf gl gn gp:Nat}{ps:List (Int×Int)}{d n:Int}{M:Nat->Nd}{o:jB}
attribute [local go_sem] kf
theorem Wn (h:rH X T own){xs:List GX}(z:xs.map lW=kO T 32):(∀x∈xs,j5 X x.n)↔yw X T:=by
 constructor
 ·intro J i hi
  rcases h.form i with ⟨W,-,-⟩|⟨-,U,-⟩
  ·have G:(i,nT T i)∈kO T 32:=o9.2 ⟨hi,rfl,W⟩
   rw[<-z] at G;obtain⟨x,V,e⟩:=bF.1 G;have :=J x V
   injection e with e1 e2
   rwa[e2] at this
  ·rw[U]
   exact λh=>by cases h
 ·intro J x V
  have G:lW x∈kO T 32:=by rw[<-z];exact bF.2 ⟨x,V,rfl⟩
  obtain⟨W,U,-⟩:=o9.1 G;have :=J x.i W;rwa[<-show x.n=nT T x.i from U] at this
theorem Jl (h:gU w b gp B ps T own):
  Calls prog 87 #[b] w (dt w (yw (az B ps) T)):=by
 have rG:=dz;obtain⟨Z0,C7⟩:∃Z0,aM cg (.slice none 0 0)=Z0:=⟨_,rfl⟩;have Ld:Hid (Z0.size=18):=by show _=_;rw[<-C7];rfl
 rw[C7] at rG;clear C7;have HS:=ar h;clear h;have ag:((w.alloc (.cells #[b] 50)).alloc (.cells #[false] 4)).cell? w.heap.size=some (.pointer (some ⟨b,0,none⟩)):=by
  rw[((bh.new w #[b] 50).alloc _).cell];rfl
 refine(callsIn_wide (n:=5)).1 (callsIn_of_wp_marks func87 rfl trivial (wpIn_wide.2 ?_) rfl);simp only[ntmps87,bN,cr,cC,Nat.reduceAdd,Nat.reduceSub,fZ,gi,iI,gQ,bQ,ia];go_wp2_with fail;refine Rr (RQ b _) λw4 V=> ?_;go_wp2_with fail;rw[<-V];have aV:w4.heap.size=w.heap.size+3:=by rw[V];simp
 have av:bh w4 w.heap.size #[b] 50 :=by
  rw[V];exact((bh.new w _ _).alloc _).alloc _
 have jP:bh w4 (w.heap.size+1) #[false] 4 :=by
  have :=(bh.new (w.alloc (.cells #[b] 50)) #[false] 4).alloc (.cells #[b] 50);rw[aX] at this;rw[V];exact this
 have sw:bh w4 (w.heap.size+1+1) #[b] 50 :=by
  have :=bh.new ((w.alloc (.cells #[b] 50)).alloc (.cells #[false] 4)) #[b] 50;rw[aX,aX] at this;rw[V];exact this
 have ac:ay [] w w4:=by
  rw[V];exact(((ay.refl [] w).alloc _).alloc _).alloc _
 have aF:=HS.out.keep0 ac;have aS:=HS.out.lt;have xc:=Dt (n:=5-1) (by omega) aF sw (C:=[w.heap.size+1]) (λk z=>by rw[au] at z;subst z;omega);have ah:∀xs:List GX,xs.map lW=kO T 32->((∀x∈xs,j5 (az B ps) x.n)↔yw (az B ps) T):=λxs h=>Wn HS.out.gots h
 have aA:∀i,(nT T i).F≠0->cm (nT T i):=λi hi=>by
  rcases HS.out.gots.form i with ⟨-,-,U⟩|⟨U,-⟩
  ·exact U.right
  ·exact absurd U hi
 have aK:=HS.out.w64;clear V aF sw ag;generalize hX:az B ps=X at *;refine(wpIn_wide (n:=5)).1 ?_;refine tV (by omega) (gf:= 162) (lb:= #[.pointer (some ⟨w.heap.size+1+1,0,none⟩)]) rfl (enters_of func162 (by kernel_rfl) rfl) xc (λk z=>by rw[au] at z;subst z;omega) (λ_=>rfl)
  (λG A=>ay [] w A/\bh A w.heap.size #[b] 50/\bh A (w.heap.size+1) #[false] 4/\∀x∈G,j5 X x.n)
  (λc G A=>c= .ret/\ay [] w A/\bh A (w.heap.size+1) #[false] 4/\∃x∈G,¬j5 X x.n)
  (λG A A' h hb=>⟨h.1.below_trans hb (by omega),h.2.1.low hb (by omega),h.2.2.1.low hb (by omega),h.2.2.2⟩)
  (λc G A A' h hb=>⟨h.1,h.2.1.below_trans hb (by omega),h.2.2.1.low hb (by omega),h.2.2.2⟩)
  ⟨ac,av,jP,λx hx=>by cases hx⟩
  (λl x A A' h z=>h.keep z λk z=>by rw[au] at z;omega)
  (λx a' W=>∃g5,bh W g5 (aM x.n x.v) 111/\w4.heap.size<=g5/\a'={ tmps:= #[.pointer (some ⟨b,0,none⟩),.pointer (some ⟨w.heap.size,0,none⟩),.pointer (some ⟨w.heap.size+1,0,none⟩),undef,.pointer (some ⟨g5,0,none⟩),.pointer (some ⟨b,0,none⟩),.func (.func 162) #[] #[(w.heap.size+1+1:Nat)],.int .i64 (x.i:Int),.agg (aM x.n x.v),undef,undef,undef,undef,undef,undef,undef,undef,undef],defers:=[] })
  (λl x a' A A' _ hr h z=>by
   obtain⟨g5,U,h2,h3⟩:=h;obtain⟨r,hr⟩:=hr;refine⟨g5,U.keep z λhm=> ?_,h2,h3⟩;rw[au] at hm;subst hm;rw[U] at hr;cases hr)
  ?assign (λl x A A' h z=>h.keep z (by simp)) ?body ?done ?stop
 case assign=>
  rintro l x W K ⟨U,h2,h3,h4,g,h5,h6⟩ aO hK;obtain⟨w5,p1,p2,p3⟩:=cu (n:=x.n) (v:=x.v) (bh.new W Z0 111) Ld.out h4 h6.one;have rz:=ar p1;have kR:ay [] W w5:=((ay.refl [] W).alloc _).trans p3 (by intro x hx;rw[au] at hx;omega);have HF:=ar (hK _ w5 kR ⟨W.heap.size,p2,by omega,rfl⟩);clear p1 p2 p3 kR hK U h2 h3 h4 h5 h6;unfold Wk;generalize aM x.n x.v=ZN at *
  gi_wp2_with ((with_reducible show wpListIn _ _ _ _ _ (⟨_,.store 111 (.tmp 4) (.tmp 8),_,_,_,_⟩::_) _ _);refine jS (r:=some l) rfl 111 (.tmp 4) (.tmp 8) rfl _ rfl _ rfl _ rz.out ?_)
  exact HF.out
 case body=>
  rintro l G x a' W hl aQ ⟨kp,Ms,AU,J⟩ hN ⟨aP,aj,aG,aB,g,hg,hE⟩ ⟨g5,rU,aR,rfl⟩;have hR:=aA x.i (by rw[<-aj];exact aG);rw[<-aj] at hR;have c1:W.cell? ⟨g5,1,none⟩=some (.int .i64 x.n.K):=by rw[rU.cell];exact(gG _ aB).f1
  have c0:W.cell? w.heap.size=some (.pointer (some ⟨b,0,none⟩)):=by rw[Ms.cell];rfl
  have uY:=ar (b9 rU aB);have aC:Hid (x.n.K=1->Calls prog 134 #[b,aM x.n x.v] W (dt W (j5 X x.n))):=λz=>by
   have :=L5 (HS.out.sh.keep kp (by simp) (by simp)) HS.out.w64 x.v aB hR z;rwa[hX] at this
  have ax:Hid (x.n.K≠1->j5 X x.n):=λU h2=>absurd h2 U
  have JL:Hid (∀wx,ay [] W wx->wx.cell? (w.heap.size+1:Nat)=some (.bool false)/\wx.frozen? (w.heap.size+1:Nat)=false):=λwx z=>by
   have hb:=AU.keep z (by simp);exact⟨by rw[hb.cell];rfl,hb.frozen 0⟩
  have nG:Hid (j5 X x.n->∀wx,ay [] W wx->vU [w.heap.size+1] (λG A=>ay [] w A/\bh A w.heap.size #[b] 50/\bh A (w.heap.size+1) #[false] 4/\∀x∈G,j5 X x.n) (λc G A=>c= .ret/\ay [] w A/\bh A (w.heap.size+1) #[false] 4/\∃x∈G,¬j5 X x.n) (G++[x]) W .normal { tmps:= #[],defers:=[] } wx):=λhp wx z=>
   ⟨z.mono (by simp),kp.trans' z,Ms.keep z (by simp),AU.keep z (by simp),λy hy=>by
    rcases aT.1 hy with hy|hy
    ·exact J y hy
    ·rw[au] at hy
     subst hy;exact hp⟩
  have j6:Hid (¬j5 X x.n->∀wx,ay [] W wx->vU [w.heap.size+1] (λG A=>ay [] w A/\bh A w.heap.size #[b] 50/\bh A (w.heap.size+1) #[false] 4/\∀x∈G,j5 X x.n) (λc G A=>c= .ret/\ay [] w A/\bh A (w.heap.size+1) #[false] 4/\∃x∈G,¬j5 X x.n) (G++[x]) W .ret { tmps:= #[],defers:=[] } (wx.setCell ⟨w.heap.size+1,0,none⟩ (.bool false))):=λhp wx z=>
   ⟨(z.mono (l':=[w.heap.size+1]) (by simp)).setCell (.inl (by simp)) _,rfl,(kp.trans' z).setCell (.inr (by simp)) _,(AU.keep z (by simp)).set 0 (.bool false),x,by simp,hp⟩
  clear kp Ms AU J hN aj aG hE rU ah aA av jP ac xc hR hX aK HS;generalize aM x.n x.v=ZN,aL:x.n.K=K at *;by_cases Sz:K=1
  ·subst Sz
   have ai:=ar (aC.out rfl);clear aC ax aL
   gi_wp2_with ((with_reducible show wpListIn _ _ _ _ _ (⟨_,.load 111 (.tmp 4),_,_,_,_⟩::_) _ _);refine p9 (r:=some l) rfl 111 (.tmp 4) rfl _ rfl _ uY.out ?_)
   refine⟨trivial,CallsIn.inRound l (callsIn_wide.2 (ai.out.mono ?_))⟩;rintro e w6 ⟨r,rfl,hr,jW⟩;obtain⟨ag,aN⟩:=JL.out w6 jW;cases r
   ·have HF:=ar (j6.out (λh=>by cases hr.2 h) w6 jW)
    clear nG j6 JL hr jW ai
    gi_wp2
    exact HF.out
   ·have HF:=ar (nG.out (hr.1 rfl) w6 jW)
    clear nG j6 JL hr jW ai
    gi_wp2
    exact HF.out
  ·have aU:(K==1)=false:=by simpa using Sz
   have HF:=ar (nG.out (ax.out Sz) W (ay.refl _ _));clear nG j6 JL aC ax Sz
   gi_wp2
   refine⟨trivial,?_⟩
   gi_wp2
   exact HF.out
 case stop=>
  rintro D c G W hD ae ⟨rfl,kp,AU,x,hx,aI⟩ JV;have aD:¬yw X T:=λh=>aI (by
   obtain⟨U,h2,-⟩:=o9.1 (ae.2 x hx);have :=h x.i U;rwa[<-show x.n=nT T x.i from h2] at this)
  have af:=ar JV;have qT:Hid (∀W',ay [D] W W'->W'.cell? (w.heap.size+1:Nat)=some (.bool false)/\dt w (yw X T) (.returned false) W'):=λW' z=>⟨by rw[(AU.keep z (by rw[au];omega)).cell];rfl,false,rfl,⟨(λh=>by cases h),λh=>absurd h aD⟩,kp.trans z (by intro y hy;rw[au] at hy;omega)⟩
  clear kp AU aI hx ae JV aD;refine wpIn_wide.2 ?_;go_wp2_with fail;refine mC [D] W (by simp) (λD' aa=>by rw[au] at aa;subst aa;exact af.out) λW' z=> ?_
  obtain⟨U,h2⟩:=qT.out W' z;exact⟨.bool false,by simp[results,results87,go_sem,U],h2⟩
 case done=>
  rintro D xs W hD aJ ⟨kp,Ms,AU,J⟩ JV;have hr:=(ah xs aJ).1 J;have ag:W.cell? (w.heap.size+1:Nat)=some (.bool false):=by rw[AU.cell];rfl
  have aN:=AU.frozen 0;have aH:=AU.set 0 (.bool true);have ak:ay [w.heap.size+1] W (W.setCell ⟨w.heap.size+1,0,none⟩ (.bool true)):=(ay.refl _ _).setCell (.inl (by simp)) _;have af:Hid ((W.setCell ⟨w.heap.size+1,0,none⟩ (.bool true)).heap[D]? =some (.deferred (some []))):=(ak.block D (Array.getElem?_eq_some_iff.1 JV).1 (by rw[au];omega)).trans JV;have qT:Hid (∀W',ay [D] (W.setCell ⟨w.heap.size+1,0,none⟩ (.bool true)) W'->W'.cell? (w.heap.size+1:Nat)=some (.bool true)/\dt w (yw X T) (.returned true) W'):=λW' z=>⟨by rw[(aH.keep z (by rw[au];omega)).cell];rfl,true,rfl,⟨λ_=>hr,λ_=>rfl⟩,(kp.trans ak (by intro y hy;rw[au] at hy;omega)).trans z (by intro y hy;rw[au] at hy;omega)⟩
  clear kp Ms AU J JV hr aH ak aJ ah aA av jP ac xc hX aK HS;go_wp2_with fail;refine mC [D] _ (by simp) (λD' aa=>by rw[au] at aa;subst aa;exact af.out) λW' z=> ?_
  obtain⟨U,h2⟩:=qT.out W' z;exact⟨.bool true,by simp[results,results87,go_sem,U],h2⟩
end
section
open Go.RowKit
variable{B X:List Int}{T:List (bT×Value)}{own:Nat->List Nat}{w w':World}{V b f gf gl gn gp:Nat}{ps:List (Int×Int)}{d n:Int}{M:Nat->Nd}{o:jB}
theorem Ik (h:gU w b gp B ps T own):
  Calls prog 83 #[b] w (dt w (N6 (az B ps) T)):=by
 have rG:=dz;obtain⟨Z0,C7⟩:∃Z0,aM cg (.slice none 0 0)=Z0:=⟨_,rfl⟩;have Ld:Hid (Z0.size=18):=by show _=_;rw[<-C7];rfl
 rw[C7] at rG;clear C7;have HG:Hid (Calls prog 97 #[b,(0:Int)] w (za w (az B ps) T own 0)):=h.get (i:=0) (by omega);have Ra:Hid (∀G,ay [] w G->Calls prog 128 #[b] G λe w'=>e=(dK (dQ 32 (lX T))).toArray/\ay [] G w'):=λG hk=>Ij (h.keep0 hk)
 have zX:Hid (∀G,ay [] w G->∀i:Nat,i<32->Calls prog 129 #[b,(i:Int)] G λe w'=>e=(decide (dR (az B ps) (i:Int)))/\ay [] G w'):=λG hk i hi=>by
  have :=Fe (h.keep0 hk).sh (i:Int);rwa[show decide ((0<=(i:Int)/\(i:Int)<32)/\dR (az B ps) (i:Int))=decide (dR (az B ps) (i:Int)) by rw[decide_eq_decide];exact⟨λh=>h.2,λh=>⟨⟨by omega,by omega⟩,h⟩⟩] at this
 have HP:Hid (∀(r:Bool) w',(r=true↔((nT T 0).K=2/\∀i:Nat,i<32->0<lX T i->¬dR (az B ps) (i:Int)))->ay [] w w'->dt w (N6 (az B ps) T) (.returned (.bool r)) w'):=λr w' hr hk=>⟨r,rfl,hr,hk⟩
 have J:Hid (∀i,i<32->(dK (dQ 32 (lX T))).toArray[i]? =some (.int .i64 (lX T i:Int))):=λi hi=>yx hi
 clear h;generalize N6 (az B ps) T=pP at *;generalize az B ps=X,(dK (dQ 32 (lX T))).toArray=ZR at *;go_in;go_wp2_with fail;refine HG.out.mono ?_;rintro e w3 ⟨v,g,va,ga,r,rfl,hB,hE,hg,hO,xp,ac,hr⟩;obtain⟨w4,p1,p2,p3⟩:=cu (n:=nT T 0) (v:=v) (bh.new w3 Z0 111) Ld.out hB hE.one;have tZ:=ar p1;have qb:Hid (ay [] w w4):=ac.trans' (((ay.refl [] w3).alloc _).trans p3 (by intro x hx;rw[au] at hx;omega));have c1:w4.cell? ⟨w3.heap.size,1,none⟩=some (.int .i64 (nT T 0).K):=by rw[p2.cell];exact(gG _ hB).f1
 clear hB hE hg hO xp ac hr p1 p2 p3 HG;generalize aM (nT T 0) v=ZN,hK:(nT T 0).K=K at *;by_cases U:K=2
 ·subst U
  have Gw:=ar (Ra.out _ qb.out);clear Ra;go_wp2_with(with_reducible refine gS 111 tZ.out ?_);refine Rr Gw.out λw5 kR=> ?_;have qR:=ar (qb.out.trans' kR);clear kR Gw tZ c1 qb;go_wp2_with fail;go_loopg [19] 32 (λgh s19 G=>∃k:Nat,k+gh=32/\s19= .int .i64 (k:Int)/\Hid (ay [] w G/\∀i:Nat,i<k->0<lX T i->¬dR X (i:Int)))
  case atStart=>exact⟨0,by omega,rfl,qR.out,λi hi=>by omega⟩
  case round=>
   clear qR;obtain⟨k,hk,rfl,HI⟩:=hrel;cases gk with
   |zero=>
    obtain rfl:k=32:=by omega
    have HF:=ar (HP.out true _ ⟨λ_=>⟨(by first|trivial|rfl),HI.out.2⟩,λ_=>rfl⟩ HI.out.1);clear HI HP zX J;go_wp2_with fail;go_ret;exact HF.out
   |succ gg=>
    have xI:(k:Int)<32:=by omega
    have vI:k<32:=by omega
    have Iv:=ma 182 3 32 .i64 ZR k _ underlying182 underlying3 oV vI (J.out k vI);obtain⟨W,V,CS⟩:=hh3 (zX.out _ HI.out.1 k vI) HI.out.2 HI.out.1;have nG:Hid ((0<lX T k->¬dR X (k:Int))->∀i:Nat,i<k+1->0<lX T i->¬dR X (i:Int)):=λhh i hi=>by
     by_cases e:i=k
     ·rw[e];exact hh
     ·exact V.out i (by omega)
    have j6:Hid (¬(0<lX T k->¬dR X (k:Int))->¬((2:Int)=2/\∀i:Nat,i<32->0<lX T i->¬dR X (i:Int))):=λhh ha=>hh (ha.2 k vI)
    clear HI zX J V;generalize lX T k=z at *;by_cases hz:0<z
    ·have ae:(0:Int)<(z:Int):=by omega
     by_cases hf:dR X (k:Int)
     ·rw[bu hf] at W
      have aa:=ar (j6.out λh=>h hz hf);clear nG j6 hf hz;go_wp2_with fail;refine Rr W.out λw6 jW=> ?_;have HF:=ar (HP.out false _ ⟨(λh=>by cases h),λh=>absurd h aa.out⟩ (CS.out.trans' jW));clear jW W CS aa HP;go_wp2_with fail;go_ret;exact HF.out
     ·rw[aQ hf] at W
      have HN:=ar (nG.out λ_=>hf);clear nG j6 hf hz;go_wp2_with fail;refine Rr W.out λw6 jW=> ?_;have tX:=ar (CS.out.trans' jW);clear jW W CS;go_wp2_with fail;go_roundg gg;case measure=>omega
      case rel=>exact⟨k+1,by omega,by go_num,tX.out,HN.out⟩
    ·have ae:¬(0:Int)<(z:Int):=by omega
     have HN:=ar (nG.out λh=>absurd h hz);obtain rfl:z=0:=by omega
     clear nG j6 hz W;go_wp2_with fail;go_roundg gg;case measure=>omega
     case rel=>exact⟨k+1,by omega,by go_num,CS.out,HN.out⟩
 ·have hb:(K != 2)=true:=bne_iff_ne.2 U
  have HF:=ar (HP.out false _ ⟨(λh=>by cases h),λh=>absurd h.1 U⟩ qb.out);clear Ra zX HP U J;go_wp2_with(with_reducible refine gS 111 tZ.out ?_);go_ret;exact HF.out
def Du (w:World) (P:Nat->Prop) (e:Ending) (w':World):Prop:=∃k:Nat,e= .returned (.tuple #[(k:Int),(decide (k=0))])/\LL P k/\k<=7/\ay [] w w'
theorem Wo (w:World):Calls prog 37 #[] w λe w'=>e= .returned (.slice w.heap.size 7 7)/\ay [] w w'/\
  w'.cell? w.heap.size=some (.func (.func 81) #[] #[])/\w'.cell? ⟨w.heap.size,1,none⟩=some (.func (.func 82) #[] #[])/\w'.cell? ⟨w.heap.size,2,none⟩=some (.func (.func 83) #[] #[])/\
  w'.cell? ⟨w.heap.size,3,none⟩=some (.func (.func 84) #[] #[])/\w'.cell? ⟨w.heap.size,4,none⟩=some (.func (.func 85) #[] #[])/\w'.cell? ⟨w.heap.size,5,none⟩=some (.func (.func 86) #[] #[])/\
  w'.cell? ⟨w.heap.size,6,none⟩=some (.func (.func 87) #[] #[])/\w.heap.size<w'.heap.size:=by
 go_in;go_wp2_with fail;go_ret;exact⟨(by first|trivial|rfl),(ay.refl [] w).alloc _,by rw[(bh.new w _ _).cell];rfl,by rw[(bh.new w _ _).cell];rfl,by rw[(bh.new w _ _).cell];rfl,by rw[(bh.new w _ _).cell];rfl,by rw[(bh.new w _ _).cell];rfl,by rw[(bh.new w _ _).cell];rfl,by rw[(bh.new w _ _).cell];rfl,by simp⟩
theorem O9 (h:gU w b gp B ps T own):
  Calls prog 15 #[b] w (Du w (tF (az B ps) T own)):=by
 have ai:Hid (∀z,ay [] w z->Calls prog 81 #[b] z (dt z (tF (az B ps) T own 0))):=λz G=>I7 (h.keep0 G).sh
 have aj:Hid (∀z,ay [] w z->Calls prog 82 #[b] z (dt z (tF (az B ps) T own 1))):=λz G=>Vz (h.keep0 G)
 have ac:Hid (∀z,ay [] w z->Calls prog 83 #[b] z (dt z (tF (az B ps) T own 2))):=λz G=>Ik (h.keep0 G)
 have ae:Hid (∀z,ay [] w z->Calls prog 84 #[b] z (dt z (tF (az B ps) T own 3))):=λz G=>EU (h.keep0 G)
 have aa:Hid (∀z,ay [] w z->Calls prog 85 #[b] z (dt z (tF (az B ps) T own 4))):=λz G=>I8 (h.keep0 G)
 have af:Hid (∀z,ay [] w z->Calls prog 86 #[b] z (dt z (tF (az B ps) T own 5))):=λz G=>I9 (h.keep0 G)
 have ah:Hid (∀z,ay [] w z->Calls prog 87 #[b] z (dt z (tF (az B ps) T own 6))):=λz G=>Jl (h.keep0 G)
 clear h;generalize tF (az B ps) T own=pP at *;go_in;go_wp2_with fail;refine Rr (Wo _) ?_;rintro w1 ⟨ag,q0,q1,q2,q3,q4,q5,q6,W⟩;have jK:=ar ag;have HQ:Hid (∀z,ay [] w1 z->z.cell? w.heap.size=some (.func (.func 81) #[] #[])/\z.cell? ⟨w.heap.size,1,none⟩=some (.func (.func 82) #[] #[])/\z.cell? ⟨w.heap.size,2,none⟩=some (.func (.func 83) #[] #[])/\
  z.cell? ⟨w.heap.size,3,none⟩=some (.func (.func 84) #[] #[])/\z.cell? ⟨w.heap.size,4,none⟩=some (.func (.func 85) #[] #[])/\z.cell? ⟨w.heap.size,5,none⟩=some (.func (.func 86) #[] #[])/\
  z.cell? ⟨w.heap.size,6,none⟩=some (.func (.func 87) #[] #[])):=λz G=>by
  have hb:=G.block w.heap.size W (by simp);exact⟨(aO (a:=⟨w.heap.size,0,none⟩) hb).trans q0,(aO (a:=⟨w.heap.size,1,none⟩) hb).trans q1,(aO (a:=⟨w.heap.size,2,none⟩) hb).trans q2,(aO (a:=⟨w.heap.size,3,none⟩) hb).trans q3,(aO (a:=⟨w.heap.size,4,none⟩) hb).trans q4,(aO (a:=⟨w.heap.size,5,none⟩) hb).trans q5,(aO (a:=⟨w.heap.size,6,none⟩) hb).trans q6⟩
 clear ag q0 q1 q2 q3 q4 q5 q6 W;go_wp2_with fail;go_loopg [8] 7 (λgh s8 z=>∃k:Nat,k+gh=7/\s8= .int .i64 (k:Int)/\Hid (ay [] w1 z/\∀j,j<k->pP j))
 case atStart=>exact⟨0,by omega,rfl,ay.refl _ _,λj hj=>by omega⟩
 case round=>
  obtain⟨k,G,rfl,HI⟩:=hrel;cases gk with
  |zero=>
   obtain rfl:k=7:=by omega
   have HF:Hid (Du w pP (.returned (.tuple #[(0:Int),true])) wr):=⟨0,rfl,.inl ⟨rfl,HI.out.2⟩,by omega,jK.out.trans' HI.out.1⟩;clear HI HQ ai aj ac ae aa af ah;go_wp2_with fail;go_ret2;exact HF.out
  |succ gg=>
   obtain⟨J,CS⟩:=hh2 HI.out.2 HI.out.1;obtain⟨q0,q1,q2,q3,q4,q5,q6⟩:=HQ.out _ CS.out;have V:=ar (jK.out.trans' CS.out);have yl:k=0\/k=1\/k=2\/k=3\/k=4\/k=5\/k=6:=by omega
   have W:(k:Int)<7:=by omega
   have cJ:(0:Int)<=(k:Int):=by omega
   rcases yl with h|h|h|h|h|h|h
   have q:wr.cell? ⟨w.heap.size,k,none⟩=some (.func (.func 81) #[] #[]):=by rw[h];exact q0
   rotate_left
   have q:wr.cell? ⟨w.heap.size,k,none⟩=some (.func (.func 82) #[] #[]):=by rw[h];exact q1
   rotate_left
   have q:wr.cell? ⟨w.heap.size,k,none⟩=some (.func (.func 83) #[] #[]):=by rw[h];exact q2
   rotate_left
   have q:wr.cell? ⟨w.heap.size,k,none⟩=some (.func (.func 84) #[] #[]):=by rw[h];exact q3
   rotate_left
   have q:wr.cell? ⟨w.heap.size,k,none⟩=some (.func (.func 85) #[] #[]):=by rw[h];exact q4
   rotate_left
   have q:wr.cell? ⟨w.heap.size,k,none⟩=some (.func (.func 86) #[] #[]):=by rw[h];exact q5
   rotate_left
   have q:wr.cell? ⟨w.heap.size,k,none⟩=some (.func (.func 87) #[] #[]):=by rw[h];exact q6
   rotate_left
   all_goals
    have HE:=ar h;clear h HI HQ q0 q1 q2 q3 q4 q5 q6;go_wp2_with fail
    first
     |refine(ai.out _ V.out).mono ?_
     |refine(aj.out _ V.out).mono ?_
     |refine(ac.out _ V.out).mono ?_
     |refine(ae.out _ V.out).mono ?_
     |refine(aa.out _ V.out).mono ?_
     |refine(af.out _ V.out).mono ?_
     |refine(ah.out _ V.out).mono ?_
    rintro e w2 ⟨r,rfl,hr,U⟩;rw[<-HE.out] at hr;cases r
    ·have HF:Hid (Du w pP (.returned (.tuple #[((k+1:Nat):Int),false])) w2):=⟨k+1,rfl,.inr ⟨by omega,by omega,λh=>(by cases hr.2 h),J.out⟩,by omega,V.out.trans' U⟩
     clear J CS hr U;go_wp2_with fail;go_ret2;exact HF.out
    ·have HN:Hid (ay [] w1 w2/\∀j,j<k+1->pP j):=⟨CS.out.trans' U,λj hj=>by
      by_cases e:j=k
      ·rw[e];exact hr.1 rfl
      ·exact J.out j (by omega)⟩
     clear J CS hr U;go_wp2_with fail;go_roundg gg;case measure=>omega
     case rel=>exact⟨k+1,by omega,by go_num,HN.out⟩
def On (s:iV):Prop:=s.now.length=3128/\In64 s.now/\∀k:Nat,k<s.now.length->s.refusal (k:Int)=0/\s.load (k:Int)=s.now.getD k 0
def L6 (w:World) (b:Nat) (R:iV->World->Prop) (e:Ending) (w':World):Prop:=
 (∃x s,e= .returned (.tuple #[.pointer none,(x:Int)])/\x=10/\On s/\(∀M,¬∃T own,mN s.now T own [] M)/\R s w')\/
 (∃f s,e= .returned (.tuple #[(f:Nat),(0:Int)])/\On s/\ZY w' f b/\w.heap.size<=f/\(∃M T own,mN s.now T own [] M)/\R s w')
theorem KB (hl:X.length=3128)(z:In64 X)(hs:eK w b V X [])(U:b<w.heap.size/\V<w.heap.size):
  Calls prog 15 #[b] w λe w'=>∃k:Nat,e= .returned (.tuple #[(k:Int),(decide (k=0))])/\ay [] w w'/\Hid (k=0↔∃M T own,mN X T own [] M):=by
 by_cases hx:∃M T own,mN X T own [] M
 ·obtain⟨M,T,own,Fk⟩:=id hx
  have G:gU w b V X [] T own:=⟨hs,z,Fk.st.gots,U⟩;refine(O9 G).mono ?_;rintro e w' ⟨k,rfl,J,-,W⟩;refine⟨k,rfl,W,λ_=>hx,λ_=> ?_⟩;rw[Ad] at J;exact J.uniq (.inl ⟨rfl,Fk.points⟩)
 ·obtain⟨T,own,hg⟩:=abY X
  have G:gU w b V X [] T own:=⟨hs,z,hg,U⟩;refine(O9 G).mono ?_;rintro e w' ⟨k,rfl,J,-,W⟩;refine⟨k,rfl,W,λh0=> ?_,λh=>absurd h hx⟩;rw[Ad] at J;rcases J with ⟨-,h4⟩|⟨h4,-⟩
  ·obtain⟨M,hm⟩:=aez hl z hg h4
   exact⟨M,T,own,hm⟩
  ·omega
theorem Pa{R:iV->World->Prop}(hR:∀s wa wb,ay [] wa wb->R s wa->R s wb)(h:Calls prog 41 #[b] w λe w'=>e=(0:Int)/\∃s,On s/\fw w' b gn gl gf s/\w.heap.size<=w'.heap.size/\R s w'):
  Calls prog 19 #[b] w (L6 w b R):=by
 obtain⟨H,HR⟩:=hh2 h hR;clear h hR;go_in;go_wp2_with fail;refine Rr H.out ?_;rintro w1 ⟨s,J,hp,ac,hr⟩;obtain⟨ah,ag,lU,mY⟩:=hh4 J hr ac (Ig hp J.2.2);have U:Hid (∀z f,ay [] w1 z->ZY z f b->w.heap.size<=f->(∃M T own,mN s.now T own [] M)->L6 w b R (.returned (.tuple #[(f:Nat),(0:Int)])) z):=λz f G hf hw Fk=> .inr ⟨f,s,rfl,J,hf,hw,Fk,HR.out s w1 z G hr⟩
 have V:Hid (∀z,ay [] w1 z->(¬∃M T own,mN s.now T own [] M)->L6 w b R (.returned (.tuple #[.pointer none,(10:Int)])) z):=λz G hn=> .inl ⟨10,s,rfl,rfl,J,λM h2=>hn ⟨M,h2⟩,HR.out s w1 z G hr⟩
 have OZ:kU s.now=s.now:=by
  apply cU (by rw[iF,J.1]);intro k h1 h2;have :=uT s.now k;rw[iF] at h1;rw[aj,aD (by rw[iF];exact h1),eZ] at this;rw[this,aB h1,aj,aD h2];rfl
 have aa:Hid (∀z W,eK z W W s.now []->Calls prog 15 #[(W:Nat)] z λe w3=>∃k:Nat,e= .returned (.tuple #[(k:Int),(decide (k=0))])/\ay [] z w3/\Hid (k=0↔∃M T own,mN s.now T own [] M)):=λz W hs=>KB J.1 J.2.1 hs ⟨hs.raw.lt,hs.raw.lt⟩
 have af:=ar OZ;clear J hp ac hr HR OZ;generalize L6 w b R=Q,s.now=X at *;go_wp2_with fail;refine mY.out.mono ?_;rintro e z ⟨v,g,rfl,EK,hg,G⟩;have HN:=Bb EK;rw[af.out] at HN;obtain⟨HN,fx⟩:=hh2 HN G;clear EK hg G mY af;go_wp2_with fail;refine HN.out.mono ?_;rintro e w3 ⟨W,rfl,ai,ae,G⟩;obtain⟨HS,oI⟩:=hh2 (aa.out w3 W ae) (fx.out.trans' G);clear ai ae G HN aa fx;go_wp2_with fail;refine HS.out.mono ?_;rintro e w4 ⟨k,rfl,G,M4⟩;have qb:=ar (oI.out.trans' G);clear G HS oI;by_cases cJ:k=0
 ·have HF:Hid (Q (.returned (.tuple #[w4.heap.size,(0:Int)])) (w4.alloc (.cells #[b] 75))):=U.out _ _ (qb.out.alloc _) (bh.new _ _ _) (by have :=qb.out.size;have :=lU.out;omega) (M4.out.1 cJ)
  subst cJ;clear U V M4 ah ag lU;go_wp2_with fail;exact HF.out
 ·have hd:decide (k=0)=false:=aQ cJ
  have HF:=ar (V.out _ qb.out (λh=>cJ (M4.out.2 h)));clear U V M4 ah ag lU cJ;go_wp2_with fail;exact HF.out
theorem RR (h:In64 X):Ev X:=λx G=>by
 obtain⟨i,z,rfl⟩:=bY G;have :=h i;rw[aj,aD z,eZ] at this;omega
theorem Pb{xs:List Int}(h:fw w b gn gl gf (calm xs d))(G:xs.length=3128)(hu:Ev xs)(J:xs.getD 8 0=0):
  Calls prog 41 #[b] w λe w'=>e=(0:Int)/\ay [] w w':=by
 have V:rI xs=none:=by
  unfold rI BQ;rw[J,aA ?_];rintro⟨h1,-⟩;simp at h1
 obtain⟨W,U⟩:=hh2 (zZ (Hr h G) (Rl h G) hu V) (λwx (z:ay [] w wx)=>Dc (h.keep z (by simp) (by simp)) 8 (by omega) (by rw[G];omega));rw[show(8:Int).toNat=8 from rfl,J] at U;clear h G hu V J;go_in;go_wp2_with fail;refine Rr W.out λw1 z=> ?_;obtain⟨xw,HK⟩:=hh2 (U.out w1 z) z;clear z U W;go_wp2_with fail;refine C' xw.out ?_;go_wp2_with fail;go_ret;exact⟨rfl,HK.out⟩
theorem TA (J:X.length=3128)(h:In64 X):On (calm X d):=by
 refine⟨J,h,λk G=> ?_⟩;have z:(k:Int)<X.length:=by have :k<X.length:=G;omega
 exact⟨wW (by omega) z,by rw[Kn (by omega) z];rfl⟩
structure Live (W0:World) (f b gn gl gf:Nat) (M:Nat->Nd) (X:List Int) (n:Int) (w:World):Prop where
 fs:ZY w f b
 ws:RI X M
 pm:∃d,(0<=d/\d<=n)/\fw w b gn gl gf (calm X d)
 keeps:ay [] W0 w
 new:W0.heap.size<=f/\W0.heap.size<=b/\W0.heap.size<=gn/\W0.heap.size<=gl/\W0.heap.size<=gf
 off:f∉[b,gn,gl,gf]
theorem Live.keep{U:World}(h:Live U f b gn gl gf M X n w){l:List Nat}(G:ay l w w')(V:∀y∈l,U.heap.size<=y/\y∉[f,b,gn,gl,gf]):Live U f b gn gl gf M X n w':=by
 obtain⟨d,hd,W⟩:=h.pm;have z:∀y,y∈[f,b,gn,gl,gf]->y∉l:=λy J hm=>(V y hm).2 J
 exact⟨h.fs.keep G (z _ (by simp)),h.ws,⟨d,hd,W.keep G (z _ (by simp)) (λ_=>⟨z _ (by simp),z _ (by simp),z _ (by simp)⟩)⟩,h.keeps.trans G (λy J=> .inr (V y J).1),h.new,h.off⟩
theorem Live.keep0{z:World}(h:Live z f b gn gl gf M X n w)(G:ay [] w w'):Live z f b gn gl gf M X n w':=h.keep G (by simp)
def ac8 (h:World) (f b gn gl gf:Nat) (M:Nat->Nd) (X:List Int) (n:Int) (o:jB) (w:World) (e:Ending) (w':World):Prop:=
 ∃r Z,e= .returned (.agg Z)/\xb w.heap.size w' r Z/\ay [b,gn,gl,gf] w w'/\
  ((r.E≠0/\Live h f b gn gl gf M X n w'/\((r.E=7/\r=cV 7/\Dk o.K=true/\((kF M o).2.E=0\/(kF M o).2.E=7)/\((aZ X).length<40\/(kF M o).2.E=7))\/r=(kF M o).2))\/
  (r.E=0/\(kF M o).2.E=0/\aeG o r (kF M o).2/\∃z,Live h f b gn gl gf (kF M o).1 z (n+3000) w'))
theorem KC{W0:World}{vp vq vd:Value}(af:Fp M o)(h:Live W0 f b gn gl gf M X n w)(hT:lD W0)(hn:n<=1000000000)(hI:Ie w o vp vq vd):
  Calls prog 10 #[f,BV o vp vq vd] w (ac8 W0 f b gn gl gf M X n o w):=by
 obtain⟨d,hd,hp⟩:=h.pm;have J:=h.ws.len;have ag:=hp.old (by show X.length≠0;omega);have V:∀y∈[b,gn,gl,gf],y<w.heap.size:=λy hy=>by
  simp only[aL,aK,bC] at hy;omega
 have rq:=TA (d:=d) J h.ws.w64;have aa:=ab1 h.ws.tree h.ws.few (o:=o) hI.ds;refine(acq (X:=X) (M:=M) (ks:=[b,gn,gl,gf]) (C:=λps x w'=>x=0/\fw w' b gn gl gf (calm (nP X ps) (d+(Ck ps:Nat)))) af h.fs hp rfl rq.2.2 h.ws (hT.keep h.keeps) hI V ?_ ?_).mono ?_
 ·rintro ps x wa wb l hl z ⟨rfl,W⟩
  have G:∀y,y∈[b,gn,gl,gf]->y∉l:=λy hy hm=>by have :=hl y hm;have :=V y hy;omega
  exact⟨rfl,W.keep z (G _ (by simp)) (λ_=>⟨G _ (by simp),G _ (by simp),G _ (by simp)⟩)⟩
 ·intro w1 v g qs r0 z hO h0 hr hg
  obtain⟨-,-,hl⟩:=hO.E_zero h0;obtain⟨c1,c2,c3,-,-⟩:=h.ws.lands hl aa.1;refine(VM (hp.keep z (by simp) (by simp)) hd.1 (by omega) J hr c1 c2 c3 (λ_ hm=>by have :=V _ hm;omega)).mono ?_;rintro e w2 ⟨rfl,W,h2⟩;exact⟨0,rfl,h2,rfl,W⟩
 ·rintro e w' ⟨r,Z,rfl,W,⟨z,h2,r0,qs,hO,rfl⟩|⟨z,r0,qs,x,hO,h0,⟨rfl,ae⟩,⟨-,rfl⟩|⟨hx,-⟩⟩⟩
  ·refine⟨_,Z,rfl,W,z.mono (by simp),.inl ⟨h2,h.keep0 z,?_⟩⟩
   have ac:r0.E≠0:=h2;rcases hO with ⟨U,a2,a3,a4⟩|⟨U,a2⟩|⟨U,-⟩
   ·exact .inl ⟨U,by rw[U],a2,a3,a4⟩
   ·exact .inr a2.symm
   ·exact absurd U ac
  ·obtain⟨U,a2,hl⟩:=hO.E_zero h0
   obtain⟨c1,c2,c3,c4,-⟩:=h.ws.lands hl aa.1;have Ua:=TH (dg X (az X qs) 3128);refine⟨r,Z,rfl,W,z,.inr ⟨h0,U,a2,_,h.fs.keep z h.off,c4,⟨_,⟨by omega,by omega⟩,ae⟩,h.keeps.trans z λy hy=> .inr ?_,h.new,h.off⟩⟩;have :=h.new;simp only[aL,aK,bC] at hy;omega
  ·exact absurd rfl hx
def Cc (J:Array Value):List Value:=[.func (.func 53) #[J] #[],.func (.func 54) #[J] #[],.func (.func 55) #[J] #[],.func (.func 56) #[J] #[],.func (.func 57) #[J] #[],.func (.func 58) #[J] #[],.func (.func 59) #[J] #[],.func (.func 60) #[J] #[],.func (.func 61) #[J] #[],.func (.func 62) #[J] #[],.func (.func 63) #[J] #[],.func (.func 64) #[J] #[],.func (.func 65) #[J] #[]]
theorem aak (J:Array Value):∀u∈Cc J,u.oneCell'=true:=by
 intro u h;simp only[Cc,aL,aK,bC] at h;rcases h with rfl|rfl|rfl|rfl|rfl|rfl|rfl|rfl|rfl|rfl|rfl|rfl|rfl<;>rfl
theorem Wp:(prog.info? 120).map (·.size)=some 13:=by kernel_rfl
theorem Il (w:World)(J Z:Array Value)(h:Z.size=13):∃w',(storeVar 120 w.heap.size (.agg (Cc J).toArray)).run prog (w.alloc (.cells Z 120))= .ok () w'/\bh w' w.heap.size (Cc J).toArray 120/\ay [w.heap.size] (w.alloc (.cells Z 120)) w':=
 bH (P:= prog) (cs:=Cc J) (by exact Wp) (bh.new _ _ _) (by rw[h];rfl) (aak J)
theorem acy (w:World)(b:Nat){o:jB}(h vq vd:Value)(hK:¬(0<=o.K/\o.K<=12)):
  Calls prog 27 #[cA b o h vq vd] w λe w'=>e= .returned (.func (.func 66) #[cA b o h vq vd] #[])/\ay [] w w':=by
 have G:=bh.new w (cA b o h vq vd) 79;have c1:(w.alloc (.cells (cA b o h vq vd) 79)).cell? ⟨w.heap.size,1,none⟩=some (.int .i64 o.K):=by rw[G.cell];rfl
 have V:Hid (∀wx,ay [] (w.alloc (.cells (cA b o h vq vd) 79)) wx->(loadVar 79 w.heap.size).run prog wx= .ok (.agg (cA b o h vq vd)) wx):=λwx hk=>jJ (G.keep hk (by simp))
 obtain⟨W,hW⟩:∃W,w.alloc (.cells (cA b o h vq vd) 79)=W:=⟨_,rfl⟩;rw[hW] at G c1 V;have ju:=ar (V.out W (ay.refl _ _));generalize hJ:cA b o h vq vd=J at *;obtain⟨w2,q1,q2,q3⟩:=Il W J #[.nilFunc,.nilFunc,.nilFunc,.nilFunc,.nilFunc,.nilFunc,.nilFunc,.nilFunc,.nilFunc,.nilFunc,.nilFunc,.nilFunc,.nilFunc] rfl;have U:ay [] W w2:=((ay.refl _ _).alloc _).trans q3 (by intro x hx;rw[au] at hx;omega);have z:ay [] w w2:=by
  have :ay [] w W:=by rw[<-hW];exact(ay.refl _ _).alloc _
  exact this.trans' U
 have c2:w2.cell? ⟨w.heap.size,1,none⟩=some (.int .i64 o.K):=by rw[(G.keep U (by simp)).cell,<-hJ];rfl
 obtain⟨vV,HS,fx⟩:=hh3 (V.out w2 U) q1 z;clear V q1 q2 q3 U z G c1;by_cases h0:o.K<0
 ·have b1:decide (o.K<0)=true:=bu h0
  generalize o.K=K at *;clear hJ;go_in;go_wp2_with(with_reducible first|refine gL 79 ju.out ?_|refine gS 120 HS.out ?_|refine gL 79 vV.out ?_);go_ret;exact⟨rfl,fx.out⟩
 ·have b1:decide (o.K<0)=false:=aQ h0
  have b2:(13:Int)<=o.K:=by omega
  generalize o.K=K at *;clear hJ;go_in;go_wp2_with(with_reducible first|refine gL 79 ju.out ?_|refine gS 120 HS.out ?_|refine gL 79 vV.out ?_);go_ret;exact⟨rfl,fx.out⟩
theorem Pd (w:World)(b:Nat){o:jB}(h vq vd:Value){k:Nat}(hK:o.K=(k:Int))(hk:k<13):
  Calls prog 27 #[cA b o h vq vd] w λe w'=>e= .returned ((Cc (cA b o h vq vd)).getD k undef)/\ay [] w w':=by
 have G:=bh.new w (cA b o h vq vd) 79;have c1:(w.alloc (.cells (cA b o h vq vd) 79)).cell? ⟨w.heap.size,1,none⟩=some (.int .i64 o.K):=by rw[G.cell];rfl
 have lY:Hid (∀wx,ay [] (w.alloc (.cells (cA b o h vq vd) 79)) wx->(loadVar 79 w.heap.size).run prog wx= .ok (.agg (cA b o h vq vd)) wx):=λwx hk=>jJ (G.keep hk (by simp))
 obtain⟨W,hW⟩:∃W,w.alloc (.cells (cA b o h vq vd) 79)=W:=⟨_,rfl⟩;rw[hW] at G c1 lY;have ju:=ar (lY.out W (ay.refl _ _));generalize hJ:cA b o h vq vd=J at *;obtain⟨U,q1,q2,q3⟩:=Il W J #[.nilFunc,.nilFunc,.nilFunc,.nilFunc,.nilFunc,.nilFunc,.nilFunc,.nilFunc,.nilFunc,.nilFunc,.nilFunc,.nilFunc,.nilFunc] rfl;have V:ay [] W U:=((ay.refl _ _).alloc _).trans q3 (by intro x hx;rw[au] at hx;omega);have z:ay [] w U:=by
  have :ay [] w W:=by rw[<-hW];exact(ay.refl _ _).alloc _
  exact this.trans' V
 have c2:U.cell? ⟨w.heap.size,1,none⟩=some (.int .i64 o.K):=by rw[(G.keep V (by simp)).cell,<-hJ];rfl
 obtain⟨vV,HS,fx⟩:=hh3 (lY.out U V) q1 z;have c5:U.cell? ⟨W.heap.size,k,none⟩=some ((Cc J).getD k undef):=by
  rw[q2.cell,aF,aj,aD (show k<(Cc J).length from hk)];rfl
 rw[hK] at c2;have b1:(0:Int)<=(k:Int):=by omega
 have b2:(k:Int)<13:=by omega
 have b3:decide ((k:Int)<0)=false:=aQ (by omega);have b4:¬(13:Int)<=(k:Int):=by omega
 clear lY q1 q2 q3 V z G c1 hJ hK;generalize (Cc J).getD k undef=fv at *;go_in;go_wp2_with(with_reducible first|refine gL 79 ju.out ?_|refine gS 120 HS.out ?_);go_ret;exact⟨rfl,fx.out⟩
theorem Wq (h:rB w b V B [] T own [] M)(hT:dw M)(o:jB)(z vq vd:Value){d:Nat}{nm:ByteArray}{f:Int}(hf:bg (M d).E nm=f)(az:0<=f)(th:Bool):
  Calls prog 112 #[cA b o z vq vd,cG d nm th f] w (cO w b V B [] 1400 (λr qs=>r=0/\z7 B qs (Cg M d nm))):=by
 obtain⟨W,hW,cJ,jR,sw,ax⟩:∃W,(w.alloc (.cells (cA b o z vq vd) 79)).alloc (.cells (cG d nm th f) 165)=W/\ay [] w W/\bh W w.heap.size (cA b o z vq vd) 79/\bh W (w.heap.size+1) (cG d nm th f) 165/\W.heap.size=w.heap.size+2:=
  ⟨_,rfl,((ay.refl _ _).alloc _).alloc _,(bh.new w _ _).alloc _,bh.new2 w _ _ _ _,by rw[aX,aX]⟩
 have ac:=h.lt;obtain⟨j,rfl⟩:∃j:Nat,f=(j:Int):=⟨f.toNat,by omega⟩;have BX:=jb hT (d:=d) (nm:=nm) (by omega);rw[hf,aG] at BX;have ae:=hT.notSelf BX.1;have ai:=(hT.dir BX.1).1;have aa:oN M d (ja (M d).E nm) j=M j:=by rw[pZ,aA (cY ae)]
 have hL:=(OT hT (h.nd.snd hT).few BX.2.1).1;have ak:Hid (Calls prog 153 #[cA b o z vq vd,.agg (cG d nm th (j:Int))] W λe w1=>e=(0:Int)/\ay [b,V] W w1/\
   Calls prog 154 #[cA b o z vq vd,(j:Int)] w1 λe w2=>e=(0:Int)/\cO w b V B [] 1400 (λr qs=>r=0/\z7 B qs (Cg M d nm)) (.returned (0:Int)) w2):=by
  refine(OS (h.keep0 cJ) (by simp) o z vq vd ai nm th (j:Int)).mono ?_;rintro e w1 ⟨r,q1,kX,rfl,h1,h2,h3,h4,rfl,ag,pq⟩;refine⟨rfl,h3,?_⟩;obtain⟨T1,aD,g1,-⟩:=id ag;have av:=(h.keep0 cJ).go h2 h3 h1 g1;refine(Kt av (by rw[bQ];omega) o z vq vd (i:=j) (by rw[aa];exact BX.2.1) (by rw[aa];exact hL)).mono ?_;rintro e w2 ⟨r,q2,lS,rfl,e1,e2,e3,e4,e5⟩;have ah:=e5;rw[bz] at ah;obtain⟨rfl,hl⟩:=L4 (by rw[hf,aG]) (cY ae) ag ah;have hs:=h3.size;have aB:=e3.size;refine⟨rfl,0,q1++q2,lS,rfl,by omega,by rw[<-aV];exact e2,((cJ.mono (by simp)).trans' h3).trans e3 (λy hy=> ?_),by rw[aC];omega,rfl,hl⟩;simp only[aL,aK,bC] at hy ⊢;omega
 have lY:Hid (∀G,ay [b,V] W G->(loadVar 79 w.heap.size).run prog G= .ok (.agg (cA b o z vq vd)) G):=λG hk=>jJ (jR.keep hk (eD ac (by omega)))
 have af:=ar (jr sw);have aj:Hid (∀G,ay [b,V] W G->G.cell? ⟨w.heap.size+1,3,none⟩=some (.int .i64 (j:Int))):=λG hk=>by
  rw[(sw.keep hk (eD ac (by omega))).cell];rfl
 have ju:=ar (lY.out W (ay.refl _ _));clear h hT cJ jR sw ax ac BX ae ai aa hL hf az;generalize cO w b V B [] 1400 (λr qs=>r=0/\z7 B qs (Cg M d nm))=Q,cA b o z vq vd=J,cG d nm th (j:Int)=Zs at *;generalize (j:Int)=ji at *;go_in;go_wp2_with(with_reducible first|refine gL 79 ju.out ?_|refine gL 165 af.out ?_);refine Rr ak.out ?_;rintro w1 ⟨U,au⟩;obtain⟨HU,Ws⟩:=hh2 au (lY.out w1 U);have c1:=aj.out w1 U;clear U au lY aj ak ju af hW;go_wp2_with(with_reducible refine gL 79 Ws.out ?_);refine Rr HU.out λw2 hq=> ?_;have HF:=ar hq;clear hq HU;go_wp2_with fail
 first|exact HF.out|(go_ret;exact HF.out)
theorem aam (V:o.K=5\/o.K=6)(G:¬(o.P=[]/\o.K=5))(J:kJ M o.P=0)(U:o.K=5->(M (bg (M (bq M o.P).1).E (aS o.P)).toNat).K≠2)
  (z:o.K=6->(M (bg (M (bq M o.P).1).E (aS o.P)).toNat).K=2/\(M (bg (M (bq M o.P).1).E (aS o.P)).toNat).E=[]):kF M o=(Cg M (bq M o.P).1 (aS o.P),fy):=by
 rw[Ca V G J,aA (λh=>U h.1 h.2),aA (λh=>h.2 (z h.1).1),aA (λh=>h.2 (z h.1).2)]
theorem sK (h:World){S0 Z0:Array Value}(hS:S0.size=4)(hZ:Z0.size=18)(d:Nat)(nm:ByteArray)(th:Bool)(i:Int){n:bT}{v:Value}(hB:n.B.length=13)(W:v.oneCell'=true):
  ∃G z,(storeVar 165 h.heap.size (.agg (cG d nm th i))).run prog ((h.alloc (.cells S0 165)).alloc (.cells Z0 111))= .ok () G/\(storeVar 111 (h.heap.size+1:Nat) (.agg (aM n v))).run prog G= .ok () z/\
   bh z h.heap.size (cG d nm th i) 165/\bh z (h.heap.size+1) (aM n v) 111/\ay [] h z/\z.heap.size≥h.heap.size+2:=by
 obtain⟨G,p1,V,U⟩:=iU (d:=d) (nm:=nm) (th:=th) (i:=i) ((bh.new h S0 165).alloc (.cells Z0 111)) hS;obtain⟨z,q1,q2,q3⟩:=cu (n:=n) (v:=v) ((bh.new2 h S0 165 Z0 111).keep U (by simp)) hZ hB W;have h1:=U.size;have h2:=q3.size;rw[aX,aX] at h1;exact⟨G,z,p1,q1,V.keep q3 (by simp),q2,((((ay.refl [] h).alloc _).alloc _).trans U (by intro y J;rw[au] at J;omega)).trans q3 (by intro y J;rw[au] at J;omega),by omega⟩
structure aeV (w:World) (b gp:Nat) (B:List Int) (M:Nat->Nd) (o:jB) (J:Array Value) (W:World):Prop where
 err:∀r,r≠0->(kF M o).2=cV r->∀w1,ay [] W w1->vS (w.heap.size+1) #[(r:Int),(0:Int),(0:Int),(0:Int),(0:Int),(),()] (fE w b gp B (lu B M o)) w1
 run:kF M o=(Cg M (bq M o.P).1 (aS o.P),fy)->kJ M o.P=0->∀w1,ay [] W w1->Calls prog 112 #[J,cG (bq M o.P).1 (aS o.P) true (bg (M (bq M o.P).1).E (aS o.P))] w1 λe w2=>∃wy,e=(0:Int)/\
  (storeVar 34 (w.heap.size+1:Nat) (.agg #[(0:Int),(0:Int),(0:Int),(0:Int),(0:Int),(),()])).run prog w2= .ok () wy/\(loadVar 34 (w.heap.size+1:Nat)).run prog wy= .ok (.agg #[(0:Int),(0:Int),(0:Int),(0:Int),(0:Int),(),()]) wy/\fE w b gp B (lu B M o) (.returned (.agg #[(0:Int),(0:Int),(0:Int),(0:Int),(0:Int),(),()])) wy
 load:∀wx,ay [] W wx->(loadVar 79 w.heap.size).run prog wx= .ok (.agg J) wx
theorem xd{W:World}(h:rB w b gp B [] T own [] M)(hT:dw M){o:jB}{vp vq vd:Value}{J:Array Value}(cJ:ay [] w W)(jR:bh W w.heap.size (cA b o vp vq vd) 79)(jP:bh W (w.heap.size+1) J 34)(hc:J.size=7)(aa:W.heap.size=w.heap.size+2):aeV w b gp B M o (cA b o vp vq vd) W:=by
 have G:=h.lt;refine⟨λr V U w1 z=> ?_,λU hn w1 z=> ?_,λwx z=>jJ (jR.keep z (by simp))⟩
 ·obtain⟨wy,s1,s2,s3,s4⟩:=lO jP hc z (by simp) r
  exact⟨wy,s1,s2,fE.none h ((cJ.trans' z).trans s4 (by intro y hy;rw[au] at hy;omega)) s3 (.inr (.inl ⟨V,U⟩))⟩
 ·obtain⟨n1,n2⟩:=qK hn
  refine(Wq (h.keep0 (cJ.trans' z)) hT o vp vq vd rfl n2 true).mono ?_;rintro e w2 ⟨r,qs,kX,rfl,h1,h2,h3,h4,rfl,h5⟩;have kp:ay [b,gp] W w2:=(z.mono (by simp)).trans' h3;obtain⟨wy,s1,s2,s3,s4⟩:=yK (r:=fy) jP hc kp (eD G (by omega)) rfl rfl rfl;have hs:=z.size;refine⟨wy,rfl,s1,s2,fE.some G cJ (by omega) (Rq:=λr qs=>lu B M o fy qs) (m:=1400) ⟨0,qs,kX,rfl,by omega,h2,kp,h4,.inr (.inr ⟨rfl,by rw[U];rfl,.inl (by rw[U]),?_⟩)⟩ (by omega) s4 s3 λqs hq=>hq⟩;rw[U];exact h5
theorem Jm (h:rB w b gp B [] T own [] M)(hT:dw M){o:jB}{vp vq vd:Value}{g:Nat}(hP:gN w vp g o.P)(hs:∀s∈o.P,s.size<=9223372036854775807)(hK:o.K=5):
  Calls prog 58 #[cA b o vp vq vd] w (fE w b gp B (lu B M o)):=by
 obtain⟨W,hW,cJ,jR,jP,ae⟩:=mH w (cA b o vp vq vd) (zI fy (.slice none 0 0) (.slice none 0 0));obtain⟨A1,oh⟩:=hh2 (Ib (h.keep0 cJ) hT o vp vq vd (hP.keep cJ (by simp)) hs) (xd h hT cJ jR jP rfl ae);obtain⟨pa,pc,rfl,ai,af,-⟩:=hP.open;have c1:W.cell? ⟨w.heap.size,2,none⟩=some (.slice pa o.P.length pc):=by rw[jR.cell];rfl
 have ju:=ar (oh.out.load W (ay.refl _ _));have ac:Hid (o.P=[]->(kF M o).2=cV 5):=ZV hK;have ub:Hid (o.P≠[]->kJ M o.P≠0->(kF M o).2=cV (kJ M o.P)):=λhp U=>OW (.inl hK) (λh=>hp h.1) U
 have rO:Hid (o.P≠[]->kJ M o.P=0->(nT T (bg (M (bq M o.P).1).E (aS o.P)).toNat).K=2->(kF M o).2=cV 5):=λhp U hk=>by
  rw[Ca (.inl hK) (λh=>hp h.1) U,aB ⟨hK,by rw[<-h.nd.kind];exact hk⟩]
 have V:Hid (o.P≠[]->kJ M o.P=0->(nT T (bg (M (bq M o.P).1).E (aS o.P)).toNat).K≠2->kF M o=(Cg M (bq M o.P).1 (aS o.P),fy)):=λhp U hk=>
  aam (.inl hK) (λh=>hp h.1) U (λ_=>by rw[<-h.nd.kind];exact hk) (λh=>by omega)
 have ou:Hid (kJ M o.P=0->(nT T (bg (M (bq M o.P).1).E (aS o.P)).toNat).B.length=13):=λU=>(h.nd.store (jb hT (qK U).2).2.1).len
 have Gj:=l6;have aj:=pj;have rG:=dz;clear h hT hP hs cJ jR jP ae hK;have e0:cG 0 ⟨#[]⟩ false 0= #[.int .i64 0,.string ⟨#[]⟩,.bool false,.int .i64 0]:=rfl;rcases dY o.P.length with h0|h0
 ·have aa:o.P=[]:=List.length_eq_zero_iff.1 h0
  obtain⟨wy,s1,s2,s3⟩:=oh.out.err 5 (by omega) (ac.out aa) W (ay.refl _ _);obtain⟨HS,HL,HF⟩:=hh3 s1 s2 s3;rw[h0] at c1;clear s1 s2 s3 oh A1 ac ub rO V ou ju ai af aa h0 e0;rw[lN] at *;generalize fE w b gp B (lu B M o)=Q,cA b o _ vq vd=J at *;go_in;go_wp2_with(with_reducible refine gS 34 HS.out ?_);exact aI (bA results58 rfl HL.out) rfl HF.out
 ·have z:o.P≠[]:=λe=>by rw[e] at h0;simp at h0
  obtain⟨ub,rO,V⟩:=hh3 (ub.out z) (rO.out z) (V.out z);have bl:((o.P.length:Int)==0)=false:=by rw[cP];omega
  obtain⟨xA,jV,mY⟩:=hh3 oh.out.run oh.out.err oh.out.load;clear oh ac z h0 ai af;unfold RB at A1;rw[lN] at *;rw[e0] at A1;clear e0;generalize fE w b gp B (lu B M o)=Q,hJ:cA b o _ vq vd=J,kJ M o.P=ne,kF M o=DM,o.P.length=m,ah:aM cg (.slice none 0 0)=Z0 at *;have jt:=ar ah;clear hJ ah;go_in;go_wp2_with(with_reducible refine gL 79 ju.out ?_);refine A1.out.mono ?_;rintro e w1 ⟨G,⟨z,rfl⟩|⟨rfl,v,g,rfl,hE,hg⟩⟩
  ·obtain⟨w2,w3,p1,p2,-,-,p5,-⟩:=sK w1 (S0:= #[.int .i64 0,.string ⟨#[]⟩,.bool false,.int .i64 0]) (Z0:=Z0) rfl (by rw[<-jt.out];rfl) 0 ⟨#[]⟩ false 0 (n:=cg) (v:= .slice none 0 0) rfl rfl
   obtain⟨wy,s1,s2,s3⟩:=jV.out ne z (ub.out z) w3 (G.trans' p5);rw[jt.out] at p2;have b1:(ne != 0)=true:=by simpa using z
   obtain⟨jz,py,HS,HL,HF⟩:=hh5 p1 p2 s1 s2 s3;clear hW p1 p2 p5 G s1 s2 s3 z A1 ub rO V ou xA jV mY ju jt c1;unfold cG at jz;go_wp2_with(with_reducible first|refine gS 165 jz.out ?_|refine gS 111 py.out ?_|refine gS 34 HS.out ?_);exact aI (bA results58 rfl HL.out) rfl HF.out
  ·have ag:=ou.out rfl
   obtain⟨rO,V⟩:=hh2 (rO.out rfl) (V.out rfl);generalize U:nT T (bg (M (bq M o.P).1).E (aS o.P)).toNat=n at *;obtain⟨w2,w3,p1,p2,p3,p4,p5,-⟩:=sK w1 (S0:= #[.int .i64 0,.string ⟨#[]⟩,.bool false,.int .i64 0]) (Z0:=Z0) rfl (by rw[<-jt.out];rfl) (bq M o.P).1 (aS o.P) true (bg (M (bq M o.P).1).E (aS o.P)) (n:=n) (v:=v) ag hE.one;have c2:w3.cell? ⟨w1.heap.size+1,1,none⟩=some (.int .i64 n.K):=by rw[p4.cell];exact(gG v ag).f1
   obtain⟨jz,py,JM⟩:=hh3 p1 p2 (jr p3);have kp:=G.trans' p5;by_cases h2:n.K=2
   ·obtain⟨wy,s1,s2,s3⟩:=jV.out 5 (by omega) (rO.out h2) w3 kp
    obtain⟨HS,HL,HF⟩:=hh3 s1 s2 s3;rw[h2] at c2;clear hW p1 p2 p3 p4 p5 G kp s1 s2 s3 hE hg A1 ub rO V ou xA jV mY ju JM jt c1 h2 U;generalize aM n v=Zn,cG (bq M o.P).1 (aS o.P) true (bg (M (bq M o.P).1).E (aS o.P))=Zs at *;go_wp2_with(with_reducible first|refine gS 165 jz.out ?_|refine gS 111 py.out ?_|refine gS 34 HS.out ?_);exact aI (bA results58 rfl HL.out) rfl HF.out
   ·have HR:=ar (xA.out (V.out h2) rfl w3 kp)
    have yL:=ar (mY.out w3 kp);have b2:(n.K==2)=false:=by simpa using h2
    clear hW p1 p2 p3 p4 p5 G kp hE hg A1 ub rO V ou xA jV mY ju jt c1 h2 U;generalize aM n v=Zn,n.K=nk,cG (bq M o.P).1 (aS o.P) true (bg (M (bq M o.P).1).E (aS o.P))=Zs at *;go_wp2_with(with_reducible first|refine gS 165 jz.out ?_|refine gS 111 py.out ?_|refine gL 79 yL.out ?_|refine gL 165 JM.out ?_);refine HR.out.mono ?_;rintro e w4 ⟨wy,rfl,s1,s2,s3⟩;obtain⟨HS,HL,HF⟩:=hh3 s1 s2 s3;clear s1 s2 s3 HR yL JM jz py;go_wp2_with(with_reducible refine gS 34 HS.out ?_);exact aI (bA results58 rfl HL.out) rfl HF.out
theorem L8 (h:rB w b gp B [] T own [] M)(hT:dw M){o:jB}{vp vq vd:Value}{g:Nat}(hP:gN w vp g o.P)(hs:∀s∈o.P,s.size<=9223372036854775807)(hK:o.K=6):
  Calls prog 59 #[cA b o vp vq vd] w (fE w b gp B (lu B M o)):=by
 obtain⟨W,hW,cJ,jR,jP,ah⟩:=mH w (cA b o vp vq vd) (zI fy (.slice none 0 0) (.slice none 0 0));obtain⟨A1,oh⟩:=hh2 (Ib (h.keep0 cJ) hT o vp vq vd (hP.keep cJ (by simp)) hs) (xd h hT cJ jR jP rfl ah);have c1:W.cell? ⟨w.heap.size,2,none⟩=some vp:=by rw[jR.cell];rfl
 have ju:=ar (oh.out.load W (ay.refl _ _));have hp:¬(o.P=[]/\o.K=5):=λh=>by omega
 have ub:Hid (kJ M o.P≠0->(kF M o).2=cV (kJ M o.P)):=λG=>OW (.inr hK) hp G
 have rO:Hid (kJ M o.P=0->(nT T (bg (M (bq M o.P).1).E (aS o.P)).toNat).K≠2->(kF M o).2=cV 4):=λG hk=>by
  rw[Ca (.inr hK) hp G,aA (λh=>by omega),aB ⟨hK,by rw[<-h.nd.kind];exact hk⟩]
 have Gw:Hid (kJ M o.P=0->(nT T (bg (M (bq M o.P).1).E (aS o.P)).toNat).K=2->(nT T (bg (M (bq M o.P).1).E (aS o.P)).toNat).S=((M (bg (M (bq M o.P).1).E (aS o.P)).toNat).E.length:Int)):=λG hk=>by
  have ai:=(jb hT (qK G).2).2.1;rw[Dq h.nd ai,h.nd.node (by rw[<-h.nd.kind];exact hk)];simp
 have z:Hid (kJ M o.P=0->(nT T (bg (M (bq M o.P).1).E (aS o.P)).toNat).K=2->(M (bg (M (bq M o.P).1).E (aS o.P)).toNat).E≠[]->(kF M o).2=cV 6):=λG hk he=>by
  rw[Ca (.inr hK) hp G,aA (λh=>by omega),aA (λV=>V.2 (by rw[<-h.nd.kind];exact hk)),aB ⟨hK,he⟩]
 have xq:Hid (kJ M o.P=0->(nT T (bg (M (bq M o.P).1).E (aS o.P)).toNat).K=2->(M (bg (M (bq M o.P).1).E (aS o.P)).toNat).E=[]->kF M o=(Cg M (bq M o.P).1 (aS o.P),fy)):=λG hk he=>
  aam (.inr hK) hp G (λh=>by omega) (λ_=>⟨by rw[<-h.nd.kind];exact hk,he⟩)
 have ou:Hid (kJ M o.P=0->(nT T (bg (M (bq M o.P).1).E (aS o.P)).toNat).B.length=13):=λG=>(h.nd.store (jb hT (qK G).2).2.1).len
 have Gj:=l6;have aj:=pj;have rG:=dz;clear h hT hP hs cJ jR jP ah hK hp;have e0:cG 0 ⟨#[]⟩ false 0= #[.int .i64 0,.string ⟨#[]⟩,.bool false,.int .i64 0]:=rfl;obtain⟨xA,jV,mY⟩:=hh3 oh.out.run oh.out.err oh.out.load;clear oh;unfold RB at A1;rw[lN] at *;rw[e0] at A1;clear e0;generalize fE w b gp B (lu B M o)=Q,hJ:cA b o vp vq vd=J,kJ M o.P=ne,kF M o=DM,ag:aM cg (.slice none 0 0)=Z0 at *;have jt:=ar ag;clear hJ ag;go_in;go_wp2_with(with_reducible refine gL 79 ju.out ?_);refine A1.out.mono ?_;rintro e w1 ⟨U,⟨aa,rfl⟩|⟨rfl,v,g,rfl,hE,hg⟩⟩
 ·obtain⟨w2,w3,p1,p2,-,-,p5,-⟩:=sK w1 (S0:= #[.int .i64 0,.string ⟨#[]⟩,.bool false,.int .i64 0]) (Z0:=Z0) rfl (by rw[<-jt.out];rfl) 0 ⟨#[]⟩ false 0 (n:=cg) (v:= .slice none 0 0) rfl rfl
  obtain⟨wy,s1,s2,s3⟩:=jV.out ne aa (ub.out aa) w3 (U.trans' p5);rw[jt.out] at p2;have b1:(ne != 0)=true:=by simpa using aa
  obtain⟨jz,py,HS,HL,HF⟩:=hh5 p1 p2 s1 s2 s3;clear hW p1 p2 p5 U s1 s2 s3 aa A1 ub rO xq Gw z ou xA jV mY ju jt c1;unfold cG at jz;go_wp2_with(with_reducible first|refine gS 165 jz.out ?_|refine gS 111 py.out ?_|refine gS 34 HS.out ?_);exact aI (bA results59 rfl HL.out) rfl HF.out
 ·have ac:=ou.out rfl
  obtain⟨rO,xq,Gw,z⟩:=hh4 (rO.out rfl) (xq.out rfl) (Gw.out rfl) (z.out rfl);generalize ae:(M (bg (M (bq M o.P).1).E (aS o.P)).toNat).E=Ej,G:nT T (bg (M (bq M o.P).1).E (aS o.P)).toNat=n at *;obtain⟨w2,w3,p1,p2,p3,p4,p5,-⟩:=sK w1 (S0:= #[.int .i64 0,.string ⟨#[]⟩,.bool false,.int .i64 0]) (Z0:=Z0) rfl (by rw[<-jt.out];rfl) (bq M o.P).1 (aS o.P) true (bg (M (bq M o.P).1).E (aS o.P)) (n:=n) (v:=v) ac hE.one;have c2:w3.cell? ⟨w1.heap.size+1,1,none⟩=some (.int .i64 n.K):=by rw[p4.cell];exact(gG v ac).f1
  have c3:w3.cell? ⟨w1.heap.size+1,3,none⟩=some (.int .i64 n.S):=by rw[p4.cell];exact(gG v ac).f3
  obtain⟨jz,py,JM⟩:=hh3 p1 p2 (jr p3);have kp:=U.trans' p5;by_cases V:n.K=2
  ·have h4:=Gw.out V
   by_cases he:Ej=[]
   ·have HR:=ar (xA.out (xq.out V he) rfl w3 kp)
    have yL:=ar (mY.out w3 kp);rw[V] at c2;rw[h4,he] at c3;clear hW p1 p2 p3 p4 p5 U kp hE hg A1 ub rO xq Gw z ou xA jV mY ju jt c1 V h4 he G ae;generalize aM n v=Zn,cG (bq M o.P).1 (aS o.P) true (bg (M (bq M o.P).1).E (aS o.P))=Zs at *;go_wp2_with(with_reducible first|refine gS 165 jz.out ?_|refine gS 111 py.out ?_|refine gL 79 yL.out ?_|refine gL 165 JM.out ?_);refine HR.out.mono ?_;rintro e w4 ⟨wy,rfl,s1,s2,s3⟩;obtain⟨HS,HL,HF⟩:=hh3 s1 s2 s3;clear s1 s2 s3 HR yL JM jz py;go_wp2_with(with_reducible refine gS 34 HS.out ?_);exact aI (bA results59 rfl HL.out) rfl HF.out
   ·obtain⟨wy,s1,s2,s3⟩:=jV.out 6 (by omega) (z.out V he) w3 kp
    obtain⟨HS,HL,HF⟩:=hh3 s1 s2 s3;have af:0<Ej.length:=List.length_pos_iff.2 he;have b3:decide ((0:Int)<n.S)=true:=bu (by omega);rw[V] at c2;clear hW p1 p2 p3 p4 p5 U kp s1 s2 s3 hE hg A1 ub rO xq Gw z ou xA jV mY ju JM jt c1 V h4 he G ae af;generalize aM n v=Zn,n.S=ns,cG (bq M o.P).1 (aS o.P) true (bg (M (bq M o.P).1).E (aS o.P))=Zs at *;go_wp2_with(with_reducible first|refine gS 165 jz.out ?_|refine gS 111 py.out ?_|refine gS 34 HS.out ?_);exact aI (bA results59 rfl HL.out) rfl HF.out
  ·obtain⟨wy,s1,s2,s3⟩:=jV.out 4 (by omega) (rO.out V) w3 kp
   obtain⟨HS,HL,HF⟩:=hh3 s1 s2 s3;have b2:(n.K != 2)=true:=by simpa using V
   clear hW p1 p2 p3 p4 p5 U kp s1 s2 s3 hE hg A1 ub rO xq Gw z ou xA jV mY ju JM jt c1 V G ae;generalize aM n v=Zn,n.K=nk,cG (bq M o.P).1 (aS o.P) true (bg (M (bq M o.P).1).E (aS o.P))=Zs at *;go_wp2_with(with_reducible first|refine gS 165 jz.out ?_|refine gS 111 py.out ?_|refine gS 34 HS.out ?_);exact aI (bA results59 rfl HL.out) rfl HF.out
theorem RS (h:∀i,M i=tK X (nT T i))(hN:Q5 T)(ho:∀i,32<=i->(nT T i).E=[])(d i:Nat):Reach T (d:Int) (i:Int)↔kS M d i:=by
 constructor
 ·intro W
  have V:∀x,Reach T (d:Int) x->∃n:Nat,x=(n:Int)/\kS M d n:=by
   intro x hx;induction hx with
   |here=>exact⟨d,rfl,.here⟩
   | @step a b _ hb ih=>
    obtain⟨n,rfl,hn⟩:=ih;have J:=hN _ b hb;obtain⟨m,rfl⟩:∃m:Nat,b=(m:Int):=⟨b.toNat,by omega⟩;unfold o8 at hb;split at hb
    ·obtain⟨e,U,z⟩:=bF.1 hb
     rw[aG] at U;exact⟨m,rfl,hn.step ⟨e,by rw[h];exact U,z⟩⟩
    ·simp at hb
  obtain⟨n,J,h2⟩:=V _ W;rw[show i=n by omega];exact h2
 ·intro hc
  induction hc with
  |here=>exact .here
  | @step a b _ U ih=>
   obtain⟨e,G,z⟩:=U;rw[h] at G;have G:e∈(nT T a).E:=G;have ha:a<32:=by
    rcases dE a 32 with J|J
    ·exact J
    ·rw[ho a J] at G;simp at G
   refine ih.step ?_;unfold o8;rw[aB,aG];exact bF.2 ⟨e,G,z⟩
theorem Wt (J:Array Value)(d:Nat)(nm:ByteArray)(i:Int)(G:Int):
  Calls prog 115 #[J,cG d nm false i,G] w λe w'=>e=(0:Int)/\ay [] w w':=by
 obtain⟨W,hW,h,z⟩:∃W,(w.alloc (.cells J 79)).alloc (.cells (cG d nm false i) 165)=W/\ay [] w W/\bh W (w.heap.size+1) (cG d nm false i) 165 :=
  ⟨_,rfl,((ay.refl _ _).alloc _).alloc _,bh.new2 w _ _ _ _⟩
 have c1:W.cell? ⟨w.heap.size+1,2,none⟩=some (.bool false):=by rw[z.cell];rfl
 have U:Hid (ay [] w W):=h;clear h z;generalize cG d nm false i=V at *;go_in;go_wp2_with fail;go_ret;exact⟨rfl,U.out⟩
theorem Wu (h:rB w b gp B [] T own [] M)(o:jB)(vp vq vd:Value)(d:Nat)(nm:ByteArray){i j:Nat}(hj:(M j).K≠0)(hi:(M i).K=1\/(M i).K=2)(ah:(M j).K=1\/(M j).K=2):
  Calls prog 115 #[cA b o vp vq vd,.agg (cG d nm true (j:Int)),.int .i64 (M i).K] w λe w'=>e=(uA M i j:Int)/\ay [] w w':=by
 obtain⟨W,hW,cJ,jR,sw,ag⟩:∃W,(w.alloc (.cells (cA b o vp vq vd) 79)).alloc (.cells (cG d nm true (j:Int)) 165)=W/\ay [] w W/\bh W w.heap.size (cA b o vp vq vd) 79/\bh W (w.heap.size+1) (cG d nm true (j:Int)) 165/\W.heap.size=w.heap.size+2:=
  ⟨_,rfl,((ay.refl _ _).alloc _).alloc _,(bh.new w _ _).alloc _,bh.new2 w _ _ _ _,by rw[aX,aX]⟩
 have HG:=ar ((h.keep0 cJ).get hj);have U:=(h.nd.store hj).len;have hS:(nT T j).K=2->(nT T j).S=((M j).E.length:Int):=λhk=>by
  rw[Dq h.nd hj,h.nd.node (by rw[<-h.nd.kind];exact hk)];simp
 have V:=h.nd.kind j;have c1:W.cell? w.heap.size=some (.pointer (some ⟨b,0,none⟩)):=by rw[jR.cell];rfl
 have c2:W.cell? ⟨w.heap.size+1,2,none⟩=some (.bool true):=by rw[sw.cell];rfl
 have c3:W.cell? ⟨w.heap.size+1,3,none⟩=some (.int .i64 (j:Int)):=by rw[sw.cell];rfl
 have fI:=ar cJ;have rG:=dz;have aa:Hid (uA M i j=if (M i).K=1/\(M j).K=2 then 5 else if (M i).K=2/\(M j).K=1 then 4 else if (M j).K=2/\(M j).E≠[] then 6 else 0):=rfl;clear h cJ jR sw ag hj;generalize uA M i j=ov,(M i).K=ki,(M j).K=kj,(M j).E=Ej,nT T j=n,(j:Int)=ji,af:aM cg (.slice none 0 0)=Z0 at *;have jt:=ar af;clear af;generalize cA b o vp vq vd=J,cG d nm true ji=Zs at *;go_in;go_wp2_with fail;refine HG.out.mono ?_;rintro e w1 ⟨v,g,va,rfl,hE,hg,ac⟩;obtain⟨w2,p1,p2,p3⟩:=cu (n:=n) (v:=v) (bh.new w1 Z0 111) (by rw[<-jt.out];rfl) U hE.one;have eV:ay [] w1 w2:=((ay.refl _ _).alloc _).trans p3 (by intro x hx;rw[au] at hx;omega);have c4:w2.cell? ⟨w1.heap.size,1,none⟩=some (.int .i64 kj):=by rw[p2.cell,<-V];exact(gG v U).f1
 have c5:w2.cell? ⟨w1.heap.size,3,none⟩=some (.int .i64 n.S):=by rw[p2.cell];exact(gG v U).f3
 have jz:=ar p1;have HF:Hid (ay [] w w2):=fI.out.trans' (ac.trans' eV);have z:=aa.out;rw[V] at hS;clear p1 p2 p3 ac eV hE hg HG fI aa V hW jt c1 c2 c3 U;generalize aM n v=Zn,n.S=ns at *;rcases hi with rfl|rfl<;>rcases ah with rfl|rfl
 ·have G:ov=0:=by rw[z];simp
  subst G;clear hS z;go_wp2_with(with_reducible refine gS 111 jz.out ?_);go_ret;exact⟨rfl,HF.out⟩
 ·have G:ov=5:=by rw[z];simp
  subst G;clear hS z;go_wp2_with(with_reducible refine gS 111 jz.out ?_);go_ret;exact⟨rfl,HF.out⟩
 ·have G:ov=4:=by rw[z];simp
  subst G;clear hS z;go_wp2_with(with_reducible refine gS 111 jz.out ?_);go_ret;exact⟨rfl,HF.out⟩
 ·have hs:=hS rfl
  by_cases he:Ej=[]
  ·have G:ov=0:=by rw[z,he];simp
   subst G;have b1:decide ((0:Int)<ns)=false:=aQ (by rw[hs,he];simp);clear hS z hs he;go_wp2_with(with_reducible refine gS 111 jz.out ?_);go_ret;exact⟨rfl,HF.out⟩
  ·have G:ov=6:=by rw[z];simp[he]
   subst G;have ae:0<Ej.length:=List.length_pos_iff.2 he;have b1:decide ((0:Int)<ns)=true:=bu (by omega);clear hS z hs he ae;go_wp2_with(with_reducible refine gS 111 jz.out ?_);go_ret;exact⟨rfl,HF.out⟩
end
end Go.Proofs.YtepbpdipenedhaaGreatDoor
