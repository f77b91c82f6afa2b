/- Lemmas. -/
import Derived.Test.YtepbpdipenedhaaGreatDoorR31
set_option maxHeartbeats 8000000
set_option maxRecDepth 100000
namespace Go.Proofs.YtepbpdipenedhaaGreatDoor
open Go.Proofs.Tryz
open Go.RowKit Go.Shelf
variable{B D X x:List Int}{T:List (bP×Value)}{own:Nat->List Nat}{w w':World}{b f gf gl gn gp:Nat}{ps:List (Int×Int)}{d n:Int}{M:Nat->Nd}
attribute [local go_sem] jO
theorem Vc (h:qJ X T own){xs:List GX}(z:xs.map kZ=km T 32):(∀x∈xs,jR X x.n)↔xD X T:=by
 constructor
 ·intro W i hi
  rcases h.form i with ⟨J,-,-⟩|⟨-,V,-⟩
  ·have G:(i,nT T i)∈km T 32:=oa.2 ⟨hi,rfl,J⟩
   rw[<-z] at G;obtain⟨x,U,e⟩:=bH.1 G;have :=W x U
   injection e with e1 e2
   rwa[e2] at this
  ·rw[V]
   exact λh=>by cases h
 ·intro W x U
  have G:kZ x∈km T 32:=by rw[<-z];exact bH.2 ⟨x,U,rfl⟩
  obtain⟨J,V,-⟩:=oa.1 G;have :=W x.i J;rwa[<-show x.n=nT T x.i from V] at this
theorem Hz (h:gN w b gp B ps T own):
  Calls prog 87 #[.pointer (some ⟨b,0,none⟩)] w (dh w (xD (aA B ps) T)):=by
 have ub:=eA;obtain⟨Z0,Cn⟩:∃Z0,aR cr (.slice none 0 0)=Z0:=⟨_,rfl⟩;have GA:Hid (Z0.size=18):=by show _=_;rw[<-Cn];rfl
 rw[Cn] at ub;clear Cn;have HS:=au h;clear h;have ah:((w.alloc (.cells #[.pointer (some ⟨b,0,none⟩)] 50)).alloc (.cells #[.bool false] 4)).cell? ⟨w.heap.size,0,none⟩=some (.pointer (some ⟨b,0,none⟩)):=by
  rw[((bh.new w #[.pointer (some ⟨b,0,none⟩)] 50).alloc _).cell];rfl
 refine(callsIn_wide (n:=5)).1 (callsIn_of_wp_marks func87 rfl trivial (wpIn_wide.2 ?_) rfl);simp only[ntmps87,bN,bQ,b8,Nat.reduceAdd,Nat.reduceSub,gj,gy,iF,gM,bY,ib];go_wp2_with fail;refine(Qr b _).mono ?_;rintro e w4 ⟨rfl,V⟩;go_wp2_with fail;rw[<-V];have aQ:w4.heap.size=w.heap.size+3:=by rw[V];simp
 have aj:bh w4 w.heap.size #[.pointer (some ⟨b,0,none⟩)] 50 :=by
  rw[V];exact((bh.new w _ _).alloc _).alloc _
 have mq:bh w4 (w.heap.size+1) #[.bool false] 4 :=by
  have :=(bh.new (w.alloc (.cells #[.pointer (some ⟨b,0,none⟩)] 50)) #[.bool false] 4).alloc (.cells #[.pointer (some ⟨b,0,none⟩)] 50);rw[br] at this;rw[V];exact this
 have uM:bh w4 (w.heap.size+1+1) #[.pointer (some ⟨b,0,none⟩)] 50 :=by
  have :=bh.new ((w.alloc (.cells #[.pointer (some ⟨b,0,none⟩)] 50)).alloc (.cells #[.bool false] 4)) #[.pointer (some ⟨b,0,none⟩)] 50;rw[br,br] at this;rw[V];exact this
 have ac:az [] w w4:=by
  rw[V];exact(((az.refl [] w).alloc _).alloc _).alloc _
 have aH:=HS.out.keep0 ac;have aS:=HS.out.lt;have vU:=CG (n:=5-1) (by omega) aH uM (C:=[w.heap.size+1]) (λk z=>by rw[ay] at z;subst z;omega);have ak:∀xs:List GX,xs.map kZ=km T 32->((∀x∈xs,jR (aA B ps) x.n)↔xD (aA B ps) T):=λxs h=>Vc HS.out.gots h
 have ar:∀i,(nT T i).F≠0->bZ (nT T i):=λi hi=>by
  rcases HS.out.gots.form i with ⟨-,-,U⟩|⟨U,-⟩
  ·exact U.right
  ·exact absurd U hi
 have aC:=HS.out.w64;clear V aH uM ah;generalize hX:aA B ps=X at *;refine(wpIn_wide (n:=5)).1 ?_;refine sw (by omega) (gf:= 162) (lb:= #[.pointer (some ⟨w.heap.size+1+1,0,none⟩)]) rfl (enters_of func162 (by kernel_rfl) rfl) vU (λk z=>by rw[ay] at z;subst z;omega) (λ_=>rfl)
  (λG A=>az [] w A/\bh A w.heap.size #[.pointer (some ⟨b,0,none⟩)] 50/\bh A (w.heap.size+1) #[.bool false] 4/\∀x∈G,jR X x.n)
  (λc G A=>c= .ret/\az [] w A/\bh A (w.heap.size+1) #[.bool false] 4/\∃x∈G,¬jR X x.n)
  (λG A A' h hb=>⟨h.1.below_trans hb (by omega),h.2.1.low hb (by omega),h.2.2.1.low hb (by omega),h.2.2.2⟩)
  (λc G A A' h hb=>⟨h.1,h.2.1.below_trans hb (by omega),h.2.2.1.low hb (by omega),h.2.2.2⟩)
  ⟨ac,aj,mq,λx hx=>by cases hx⟩
  (λl x A A' h z=>h.keep z λk z=>by rw[ay] at z;omega)
  (λx a' W=>∃g5,bh W g5 (aR x.n x.v) 111/\w4.heap.size<=g5/\a'={ tmps:= #[.pointer (some ⟨b,0,none⟩),.pointer (some ⟨w.heap.size,0,none⟩),.pointer (some ⟨w.heap.size+1,0,none⟩),undef,.pointer (some ⟨g5,0,none⟩),.pointer (some ⟨b,0,none⟩),.func (.func 162) #[] #[.pointer (some ⟨w.heap.size+1+1,0,none⟩)],.int .i64 (x.i:Int),.agg (aR x.n x.v),undef,undef,undef,undef,undef,undef,undef,undef,undef],defers:=[] })
  (λl x a' A A' _ hr h z=>by
   obtain⟨g5,U,h2,h3⟩:=h;obtain⟨r,hr⟩:=hr;refine⟨g5,U.keep z λhm=> ?_,h2,h3⟩;rw[ay] at hm;subst hm;rw[U] at hr;cases hr)
  ?assign (λl x A A' h z=>h.keep z (by simp)) ?body ?done ?stop
 case assign=>
  rintro l x W K ⟨U,h2,h3,h4,g,h5,h6⟩ aM hK;obtain⟨w5,p1,p2,p3⟩:=dc (n:=x.n) (v:=x.v) (bh.new W Z0 111) GA.out h4 h6.one;have zz:=au p1;have j6:az [] W w5:=((az.refl [] W).alloc _).trans p3 (by intro x hx;rw[ay] at hx;omega);have HF:=au (hK _ w5 j6 ⟨W.heap.size,p2,by omega,rfl⟩);clear p1 p2 p3 j6 hK U h2 h3 h4 h5 h6;unfold U9;generalize aR x.n x.v=ZN at *
  gi_wp2_with ((with_reducible show wpListIn _ _ _ _ _ (⟨_,.store 111 (.tmp 4) (.tmp 8),_,_,_,_⟩::_) _ _);refine jB (r:=some l) rfl 111 (.tmp 4) (.tmp 8) rfl _ rfl _ rfl _ zz.out ?_)
  exact HF.out
 case body=>
  rintro l G x a' W hl aP ⟨ou,K4,zT,J⟩ hN ⟨aN,av,aF,ax,g,hg,hE⟩ ⟨g5,rI,aO,rfl⟩;have hR:=ar x.i (by rw[<-av];exact aF);rw[<-av] at hR;have c1:W.cell? ⟨g5,1,none⟩=some (.int .i64 x.n.K):=by rw[rI.cell];exact(iX _ ax).f1
  have c0:W.cell? ⟨w.heap.size,0,none⟩=some (.pointer (some ⟨b,0,none⟩)):=by rw[K4.cell];rfl
  have vY:=au (ct rI ax);have aB:Hid (x.n.K=1->Calls prog 134 #[.pointer (some ⟨b,0,none⟩),.agg (aR x.n x.v)] W (dh W (jR X x.n))):=λz=>by
   have :=KG (HS.out.sh.keep ou (by simp) (by simp)) HS.out.w64 x.v ax hR z;rwa[hX] at this
  have ai:Hid (x.n.K≠1->jR X x.n):=λU h2=>absurd h2 U
  have Dy:Hid (∀wx,az [] W wx->wx.cell? ⟨w.heap.size+1,0,none⟩=some (.bool false)/\wx.frozen? ⟨w.heap.size+1,0,none⟩=false):=λwx z=>by
   have hb:=zT.keep z (by simp);exact⟨by rw[hb.cell];rfl,hb.frozen 0⟩
  have mI:Hid (jR X x.n->∀wx,az [] W wx->uH [w.heap.size+1] (λG A=>az [] w A/\bh A w.heap.size #[.pointer (some ⟨b,0,none⟩)] 50/\bh A (w.heap.size+1) #[.bool false] 4/\∀x∈G,jR X x.n) (λc G A=>c= .ret/\az [] w A/\bh A (w.heap.size+1) #[.bool false] 4/\∃x∈G,¬jR X x.n) (G++[x]) W .normal { tmps:= #[],defers:=[] } wx):=λhp wx z=>
   ⟨z.mono (by simp),ou.trans' z,K4.keep z (by simp),zT.keep z (by simp),λy hy=>by
    rcases aU.1 hy with hy|hy
    ·exact J y hy
    ·rw[ay] at hy
     subst hy;exact hp⟩
  have jC:Hid (¬jR X x.n->∀wx,az [] W wx->uH [w.heap.size+1] (λG A=>az [] w A/\bh A w.heap.size #[.pointer (some ⟨b,0,none⟩)] 50/\bh A (w.heap.size+1) #[.bool false] 4/\∀x∈G,jR X x.n) (λc G A=>c= .ret/\az [] w A/\bh A (w.heap.size+1) #[.bool false] 4/\∃x∈G,¬jR X x.n) (G++[x]) W .ret { tmps:= #[],defers:=[] } (wx.setCell ⟨w.heap.size+1,0,none⟩ (.bool false))):=λhp wx z=>
   ⟨(z.mono (l':=[w.heap.size+1]) (by simp)).setCell (.inl (by simp)) _,rfl,(ou.trans' z).setCell (.inr (by simp)) _,(zT.keep z (by simp)).set 0 (.bool false),x,by simp,hp⟩
  clear ou K4 zT J hN av aF hE rI ak ar aj mq ac vU hR hX aC HS;generalize aR x.n x.v=ZN at *;generalize aK:x.n.K=K at *;by_cases QZ:K=1
  ·subst QZ
   have af:=au (aB.out rfl);clear aB ai aK
   gi_wp2_with ((with_reducible show wpListIn _ _ _ _ _ (⟨_,.load 111 (.tmp 4),_,_,_,_⟩::_) _ _);refine o5 (r:=some l) rfl 111 (.tmp 4) rfl _ rfl _ vY.out ?_)
   refine⟨trivial,CallsIn.inRound l (callsIn_wide.2 (af.out.mono ?_))⟩;rintro e w6 ⟨r,rfl,hr,kG⟩;obtain⟨ah,aL⟩:=Dy.out w6 kG;cases r
   ·have HF:=au (jC.out (λh=>by cases hr.2 h) w6 kG)
    clear mI jC Dy hr kG af
    gi_wp2
    exact HF.out
   ·have HF:=au (mI.out (hr.1 rfl) w6 kG)
    clear mI jC Dy hr kG af
    gi_wp2
    exact HF.out
  ·have aT:(K==1)=false:=by simpa using QZ
   have HF:=au (mI.out (ai.out QZ) W (az.refl _ _));clear mI jC Dy aB ai QZ
   gi_wp2
   refine⟨trivial,?_⟩
   gi_wp2
   exact HF.out
 case stop=>
  rintro D c G W hD ae ⟨rfl,ou,zT,x,hx,aI⟩ IJ;have aJ:¬xD X T:=λh=>aI (by
   obtain⟨U,h2,-⟩:=oa.1 (ae.2 x hx);have :=h x.i U;rwa[<-show x.n=nT T x.i from h2] at this)
  have YN:=au IJ;have uN:Hid (∀W',az [D] W W'->W'.cell? ⟨w.heap.size+1,0,none⟩=some (.bool false)/\dh w (xD X T) (.returned (.bool false)) W'):=λW' z=>⟨by rw[(zT.keep z (by rw[ay];omega)).cell];rfl,false,rfl,⟨(λh=>by cases h),λh=>absurd h aJ⟩,ou.trans z (by intro y hy;rw[ay] at hy;omega)⟩
  clear ou zT aI hx ae IJ aJ;refine wpIn_wide.2 ?_;go_wp2_with fail;refine lQ [D] W (by simp) (λD' aa=>by rw[ay] at aa;subst aa;exact YN.out) λW' z=> ?_
  obtain⟨U,h2⟩:=uN.out W' z;exact⟨.bool false,by simp[results,results87,go_sem,U],h2⟩
 case done=>
  rintro D xs W hD aD ⟨ou,K4,zT,J⟩ IJ;have hr:=(ak xs aD).1 J;have ah:W.cell? ⟨w.heap.size+1,0,none⟩=some (.bool false):=by rw[zT.cell];rfl
  have aL:=zT.frozen 0;have aG:=zT.set 0 (.bool true);have ag:az [w.heap.size+1] W (W.setCell ⟨w.heap.size+1,0,none⟩ (.bool true)):=(az.refl _ _).setCell (.inl (by simp)) _;have YN:Hid ((W.setCell ⟨w.heap.size+1,0,none⟩ (.bool true)).heap[D]? =some (.deferred (some []))):=(ag.block D (Array.getElem?_eq_some_iff.1 IJ).1 (by rw[ay];omega)).trans IJ;have uN:Hid (∀W',az [D] (W.setCell ⟨w.heap.size+1,0,none⟩ (.bool true)) W'->W'.cell? ⟨w.heap.size+1,0,none⟩=some (.bool true)/\dh w (xD X T) (.returned (.bool true)) W'):=λW' z=>⟨by rw[(aG.keep z (by rw[ay];omega)).cell];rfl,true,rfl,⟨λ_=>hr,λ_=>rfl⟩,(ou.trans ag (by intro y hy;rw[ay] at hy;omega)).trans z (by intro y hy;rw[ay] at hy;omega)⟩
  clear ou K4 zT J IJ hr aG ag aD ak ar aj mq ac vU hX aC HS;go_wp2_with fail;refine lQ [D] _ (by simp) (λD' aa=>by rw[ay] at aa;subst aa;exact YN.out) λW' z=> ?_
  obtain⟨U,h2⟩:=uN.out W' z;exact⟨.bool true,by simp[results,results87,go_sem,U],h2⟩
end Go.Proofs.YtepbpdipenedhaaGreatDoor
namespace Go.Proofs.YtepbpdipenedhaaGreatDoor
open Go.Proofs.Tryz
open Go.RowKit
variable{B D X x:List Int}{T:List (bP×Value)}{own:Nat->List Nat}{w w':World}{b f gf gl gn gp:Nat}{ps:List (Int×Int)}{d n:Int}{M:Nat->Nd}
theorem Gw (h:gN w b gp B ps T own):
  Calls prog 83 #[.pointer (some ⟨b,0,none⟩)] w (dh w (MN (aA B ps) T)):=by
 have ub:=eA;obtain⟨Z0,Cn⟩:∃Z0,aR cr (.slice none 0 0)=Z0:=⟨_,rfl⟩;have GA:Hid (Z0.size=18):=by show _=_;rw[<-Cn];rfl
 rw[Cn] at ub;clear Cn;have HG:Hid (Calls prog 97 #[.pointer (some ⟨b,0,none⟩),.int .i64 0] w (x9 w (aA B ps) T own 0)):=h.get (i:=0) (by omega);have PR:Hid (∀G,az [] w G->Calls prog 128 #[.pointer (some ⟨b,0,none⟩)] G λe w'=>e= .returned (.agg (dE (dI 32 (lf T))).toArray)/\az [] G w'):=λG hk=>Gv (h.keep0 hk)
 have yU:Hid (∀G,az [] w G->∀i:Nat,i<32->Calls prog 129 #[.pointer (some ⟨b,0,none⟩),.int .i64 (i:Int)] G λe w'=>e= .returned (.bool (decide (dP (aA B ps) (i:Int))))/\az [] G w'):=λG hk i hi=>by
  have :=Ed (h.keep0 hk).sh (i:Int);rwa[show decide ((0<=(i:Int)/\(i:Int)<32)/\dP (aA B ps) (i:Int))=decide (dP (aA B ps) (i:Int)) by rw[decide_eq_decide];exact⟨λh=>h.2,λh=>⟨⟨by omega,by omega⟩,h⟩⟩] at this
 have HP:Hid (∀(r:Bool) w',(r=true↔((nT T 0).K=2/\∀i:Nat,i<32->0<lf T i->¬dP (aA B ps) (i:Int)))->az [] w w'->dh w (MN (aA B ps) T) (.returned (.bool r)) w'):=λr w' hr hk=>⟨r,rfl,hr,hk⟩
 have J:Hid (∀i,i<32->(dE (dI 32 (lf T))).toArray[i]? =some (.int .i64 (lf T i:Int))):=λi hi=>xE hi
 clear h;generalize MN (aA B ps) T=pP at *;generalize aA B ps=X at *;generalize (dE (dI 32 (lf T))).toArray=ZR at *;go_enter func83,ntmps83;go_wp2_with fail;refine HG.out.mono ?_;rintro e w3 ⟨v,g,va,ga,r,rfl,hB,hE,hg,hO,tv,aa,hr⟩;obtain⟨w4,p1,p2,p3⟩:=dc (n:=nT T 0) (v:=v) (bh.new w3 Z0 111) GA.out hB hE.one;have vB:=au p1;have pW:Hid (az [] w w4):=aa.trans' (((az.refl [] w3).alloc _).trans p3 (by intro x hx;rw[ay] at hx;omega));have c1:w4.cell? ⟨w3.heap.size,1,none⟩=some (.int .i64 (nT T 0).K):=by rw[p2.cell];exact(iX _ hB).f1
 clear hB hE hg hO tv aa hr p1 p2 p3 HG;generalize aR (nT T 0) v=ZN at *;generalize hK:(nT T 0).K=K at *;by_cases U:K=2
 ·subst U
  have Pe:=au (PR.out _ pW.out);clear PR;go_wp2_with(with_reducible refine gS 111 vB.out ?_);refine Pe.out.mono ?_;rintro e w5 ⟨rfl,j6⟩;have qG:=au (pW.out.trans' j6);clear j6 Pe vB c1 pW;go_wp2_with fail;go_loopg [19] 32 (λgh s19 G=>∃k:Nat,k+gh=32/\s19= .int .i64 (k:Int)/\Hid (az [] w G/\∀i:Nat,i<k->0<lf T i->¬dP X (i:Int)))
  case atStart=>exact⟨0,by omega,rfl,qG.out,λi hi=>by omega⟩
  case round=>
   clear qG;obtain⟨k,hk,rfl,HI⟩:=hrel;cases gk with
   |zero=>
    obtain rfl:k=32:=by omega
    have HF:=au (HP.out true _ ⟨λ_=>⟨(by first|trivial|rfl),HI.out.2⟩,λ_=>rfl⟩ HI.out.1);clear HI HP yU J;go_wp2_with fail;go_ret;exact HF.out
   |succ gg=>
    have Bp:(k:Int)<32:=by omega
    have uo:k<32:=by omega
    have Bx:=lu 182 3 32 .i64 ZR k _ underlying182 underlying3 nR uo (J.out k uo);have W:=au (yU.out _ HI.out.1 k uo);have V:=au HI.out.2;have sy:=au HI.out.1;have mI:Hid ((0<lf T k->¬dP X (k:Int))->∀i:Nat,i<k+1->0<lf T i->¬dP X (i:Int)):=λhh i hi=>by
     by_cases e:i=k
     ·rw[e];exact hh
     ·exact V.out i (by omega)
    have jC:Hid (¬(0<lf T k->¬dP X (k:Int))->¬((2:Int)=2/\∀i:Nat,i<32->0<lf T i->¬dP X (i:Int))):=λhh ha=>hh (ha.2 k uo)
    clear HI yU J V;generalize lf T k=z at *;by_cases hz:0<z
    ·have ac:(0:Int)<(z:Int):=by omega
     by_cases hf:dP X (k:Int)
     ·rw[bq hf] at W
      have Zp:=au (jC.out λh=>h hz hf);clear mI jC hf hz;go_wp2_with fail;refine W.out.mono ?_;rintro e w6 ⟨rfl,kG⟩;have HF:=au (HP.out false _ ⟨(λh=>by cases h),λh=>absurd h Zp.out⟩ (sy.out.trans' kG));clear kG W sy Zp HP;go_wp2_with fail;go_ret;exact HF.out
     ·rw[aS hf] at W
      have HN:=au (mI.out λ_=>hf);clear mI jC hf hz;go_wp2_with fail;refine W.out.mono ?_;rintro e w6 ⟨rfl,kG⟩;have o8:=au (sy.out.trans' kG);clear kG W sy;go_wp2_with fail;go_roundg gg;case measure=>omega
      case rel=>exact⟨k+1,by omega,by go_num,o8.out,HN.out⟩
    ·have ac:¬(0:Int)<(z:Int):=by omega
     have HN:=au (mI.out λh=>absurd h hz);obtain rfl:z=0:=by omega
     clear mI jC hz W;go_wp2_with fail;go_roundg gg;case measure=>omega
     case rel=>exact⟨k+1,by omega,by go_num,sy.out,HN.out⟩
 ·have hb:(K != 2)=true:=bne_iff_ne.2 U
  have HF:=au (HP.out false _ ⟨(λh=>by cases h),λh=>absurd h.1 U⟩ pW.out);clear PR yU HP U J;go_wp2_with(with_reducible refine gS 111 vB.out ?_);go_ret;exact HF.out
def mR (w:World) (P:Nat->Prop) (e:Ending) (w':World):Prop:=∃k:Nat,e= .returned (.tuple #[.int .i64 (k:Int),.bool (decide (k=0))])/\Ko P k/\k<=7/\az [] w w'
theorem Vd (w:World):Calls prog 37 #[] w λe w'=>e= .returned (.slice (some ⟨w.heap.size,0,none⟩) 7 7)/\az [] w w'/\
  w'.cell? ⟨w.heap.size,0,none⟩=some (.func (.func 81) #[] #[])/\w'.cell? ⟨w.heap.size,1,none⟩=some (.func (.func 82) #[] #[])/\w'.cell? ⟨w.heap.size,2,none⟩=some (.func (.func 83) #[] #[])/\
  w'.cell? ⟨w.heap.size,3,none⟩=some (.func (.func 84) #[] #[])/\w'.cell? ⟨w.heap.size,4,none⟩=some (.func (.func 85) #[] #[])/\w'.cell? ⟨w.heap.size,5,none⟩=some (.func (.func 86) #[] #[])/\
  w'.cell? ⟨w.heap.size,6,none⟩=some (.func (.func 87) #[] #[])/\w.heap.size<w'.heap.size:=by
 go_enter func37,ntmps37;go_wp2_with fail;go_ret;exact⟨(by first|trivial|rfl),(az.refl [] w).alloc _,by rw[(bh.new w _ _).cell];rfl,by rw[(bh.new w _ _).cell];rfl,by rw[(bh.new w _ _).cell];rfl,by rw[(bh.new w _ _).cell];rfl,by rw[(bh.new w _ _).cell];rfl,by rw[(bh.new w _ _).cell];rfl,by rw[(bh.new w _ _).cell];rfl,by simp⟩
theorem NC (h:gN w b gp B ps T own):
  Calls prog 15 #[.pointer (some ⟨b,0,none⟩)] w (mR w (rV (aA B ps) T own)):=by
 have KO:Hid (∀J,az [] w J->Calls prog 81 #[.pointer (some ⟨b,0,none⟩)] J (dh J (rV (aA B ps) T own 0))):=λJ hk=>Hj (h.keep0 hk).sh
 have Oa:Hid (∀J,az [] w J->Calls prog 82 #[.pointer (some ⟨b,0,none⟩)] J (dh J (rV (aA B ps) T own 1))):=λJ hk=>Uf (h.keep0 hk)
 have Qp:Hid (∀J,az [] w J->Calls prog 83 #[.pointer (some ⟨b,0,none⟩)] J (dh J (rV (aA B ps) T own 2))):=λJ hk=>Gw (h.keep0 hk)
 have Ta:Hid (∀J,az [] w J->Calls prog 84 #[.pointer (some ⟨b,0,none⟩)] J (dh J (rV (aA B ps) T own 3))):=λJ hk=>DX (h.keep0 hk)
 have aa:Hid (∀J,az [] w J->Calls prog 85 #[.pointer (some ⟨b,0,none⟩)] J (dh J (rV (aA B ps) T own 4))):=λJ hk=>Hk (h.keep0 hk)
 have Ob:Hid (∀J,az [] w J->Calls prog 86 #[.pointer (some ⟨b,0,none⟩)] J (dh J (rV (aA B ps) T own 5))):=λJ hk=>Hl (h.keep0 hk)
 have KZ:Hid (∀J,az [] w J->Calls prog 87 #[.pointer (some ⟨b,0,none⟩)] J (dh J (rV (aA B ps) T own 6))):=λJ hk=>Hz (h.keep0 hk)
 clear h;generalize rV (aA B ps) T own=pP at *;go_enter func15,ntmps15;go_wp2_with fail;refine(Vd _).mono ?_;rintro e w1 ⟨rfl,ac,q0,q1,q2,q3,q4,q5,q6,ae⟩;have iU:=au ac;have HQ:Hid (∀J,az [] w1 J->J.cell? ⟨w.heap.size,0,none⟩=some (.func (.func 81) #[] #[])/\J.cell? ⟨w.heap.size,1,none⟩=some (.func (.func 82) #[] #[])/\J.cell? ⟨w.heap.size,2,none⟩=some (.func (.func 83) #[] #[])/\
  J.cell? ⟨w.heap.size,3,none⟩=some (.func (.func 84) #[] #[])/\J.cell? ⟨w.heap.size,4,none⟩=some (.func (.func 85) #[] #[])/\J.cell? ⟨w.heap.size,5,none⟩=some (.func (.func 86) #[] #[])/\
  J.cell? ⟨w.heap.size,6,none⟩=some (.func (.func 87) #[] #[])):=λJ hk=>by
  have hb:=hk.block w.heap.size ae (by simp);exact⟨(aO (a:=⟨w.heap.size,0,none⟩) hb).trans q0,(aO (a:=⟨w.heap.size,1,none⟩) hb).trans q1,(aO (a:=⟨w.heap.size,2,none⟩) hb).trans q2,(aO (a:=⟨w.heap.size,3,none⟩) hb).trans q3,(aO (a:=⟨w.heap.size,4,none⟩) hb).trans q4,(aO (a:=⟨w.heap.size,5,none⟩) hb).trans q5,(aO (a:=⟨w.heap.size,6,none⟩) hb).trans q6⟩
 clear ac q0 q1 q2 q3 q4 q5 q6 ae;go_wp2_with fail;go_loopg [8] 7 (λgh s8 J=>∃k:Nat,k+gh=7/\s8= .int .i64 (k:Int)/\Hid (az [] w1 J/\∀j,j<k->pP j))
 case atStart=>exact⟨0,by omega,rfl,az.refl _ _,λj hj=>by omega⟩
 case round=>
  obtain⟨k,hk,rfl,HI⟩:=hrel;cases gk with
  |zero=>
   obtain rfl:k=7:=by omega
   have HF:Hid (mR w pP (.returned (.tuple #[.int .i64 0,.bool true])) wr):=⟨0,rfl,.inl ⟨rfl,HI.out.2⟩,by omega,iU.out.trans' HI.out.1⟩;clear HI HQ KO Oa Qp Ta aa Ob KZ;go_wp2_with fail;go_ret2;exact HF.out
  |succ gg=>
   have z:=au HI.out.2;have W:=au HI.out.1;obtain⟨q0,q1,q2,q3,q4,q5,q6⟩:=HQ.out _ W.out;have nD:=au (iU.out.trans' W.out);have zW:k=0\/k=1\/k=2\/k=3\/k=4\/k=5\/k=6:=by omega
   have af:=gg;rcases zW with rfl|rfl|rfl|rfl|rfl|rfl|rfl
   ·obtain rfl:gg=6:=by omega
    have V:=au (KO.out _ nD.out);clear HI HQ KO Oa Qp Ta aa Ob KZ q1 q2 q3 q4 q5 q6;go_wp2_with fail;refine V.out.mono ?_;rintro e w2 ⟨r,rfl,U,G⟩;cases r
    ·have HF:Hid (mR w pP (.returned (.tuple #[.int .i64 1,.bool false])) w2):=⟨1,rfl,.inr ⟨by omega,by omega,λh=>(by cases U.2 h),z.out⟩,by omega,nD.out.trans' G⟩
     clear z W U G V;go_wp2_with fail;go_ret2;exact HF.out
    ·have HN:Hid (az [] w1 w2/\∀j,j<1->pP j):=⟨W.out.trans' G,λj hj=>by
      by_cases e:j=0
      ·rw[e];exact U.1 rfl
      ·exact z.out j (by omega)⟩
     clear z W U G V;go_wp2_with fail;go_roundg 6;case measure=>omega
     case rel=>exact⟨1,by omega,by go_num,HN.out⟩
   ·obtain rfl:gg=5:=by omega
    have V:=au (Oa.out _ nD.out);clear HI HQ KO Oa Qp Ta aa Ob KZ q0 q2 q3 q4 q5 q6;go_wp2_with fail;refine V.out.mono ?_;rintro e w2 ⟨r,rfl,U,G⟩;cases r
    ·have HF:Hid (mR w pP (.returned (.tuple #[.int .i64 2,.bool false])) w2):=⟨2,rfl,.inr ⟨by omega,by omega,λh=>(by cases U.2 h),z.out⟩,by omega,nD.out.trans' G⟩
     clear z W U G V;go_wp2_with fail;go_ret2;exact HF.out
    ·have HN:Hid (az [] w1 w2/\∀j,j<2->pP j):=⟨W.out.trans' G,λj hj=>by
      by_cases e:j=1
      ·rw[e];exact U.1 rfl
      ·exact z.out j (by omega)⟩
     clear z W U G V;go_wp2_with fail;go_roundg 5;case measure=>omega
     case rel=>exact⟨2,by omega,by go_num,HN.out⟩
   ·obtain rfl:gg=4:=by omega
    have V:=au (Qp.out _ nD.out);clear HI HQ KO Oa Qp Ta aa Ob KZ q0 q1 q3 q4 q5 q6;go_wp2_with fail;refine V.out.mono ?_;rintro e w2 ⟨r,rfl,U,G⟩;cases r
    ·have HF:Hid (mR w pP (.returned (.tuple #[.int .i64 3,.bool false])) w2):=⟨3,rfl,.inr ⟨by omega,by omega,λh=>(by cases U.2 h),z.out⟩,by omega,nD.out.trans' G⟩
     clear z W U G V;go_wp2_with fail;go_ret2;exact HF.out
    ·have HN:Hid (az [] w1 w2/\∀j,j<3->pP j):=⟨W.out.trans' G,λj hj=>by
      by_cases e:j=2
      ·rw[e];exact U.1 rfl
      ·exact z.out j (by omega)⟩
     clear z W U G V;go_wp2_with fail;go_roundg 4;case measure=>omega
     case rel=>exact⟨3,by omega,by go_num,HN.out⟩
   ·obtain rfl:gg=3:=by omega
    have V:=au (Ta.out _ nD.out);clear HI HQ KO Oa Qp Ta aa Ob KZ q0 q1 q2 q4 q5 q6;go_wp2_with fail;refine V.out.mono ?_;rintro e w2 ⟨r,rfl,U,G⟩;cases r
    ·have HF:Hid (mR w pP (.returned (.tuple #[.int .i64 4,.bool false])) w2):=⟨4,rfl,.inr ⟨by omega,by omega,λh=>(by cases U.2 h),z.out⟩,by omega,nD.out.trans' G⟩
     clear z W U G V;go_wp2_with fail;go_ret2;exact HF.out
    ·have HN:Hid (az [] w1 w2/\∀j,j<4->pP j):=⟨W.out.trans' G,λj hj=>by
      by_cases e:j=3
      ·rw[e];exact U.1 rfl
      ·exact z.out j (by omega)⟩
     clear z W U G V;go_wp2_with fail;go_roundg 3;case measure=>omega
     case rel=>exact⟨4,by omega,by go_num,HN.out⟩
   ·obtain rfl:gg=2:=by omega
    have V:=au (aa.out _ nD.out);clear HI HQ KO Oa Qp Ta aa Ob KZ q0 q1 q2 q3 q5 q6;go_wp2_with fail;refine V.out.mono ?_;rintro e w2 ⟨r,rfl,U,G⟩;cases r
    ·have HF:Hid (mR w pP (.returned (.tuple #[.int .i64 5,.bool false])) w2):=⟨5,rfl,.inr ⟨by omega,by omega,λh=>(by cases U.2 h),z.out⟩,by omega,nD.out.trans' G⟩
     clear z W U G V;go_wp2_with fail;go_ret2;exact HF.out
    ·have HN:Hid (az [] w1 w2/\∀j,j<5->pP j):=⟨W.out.trans' G,λj hj=>by
      by_cases e:j=4
      ·rw[e];exact U.1 rfl
      ·exact z.out j (by omega)⟩
     clear z W U G V;go_wp2_with fail;go_roundg 2;case measure=>omega
     case rel=>exact⟨5,by omega,by go_num,HN.out⟩
   ·obtain rfl:gg=1:=by omega
    have V:=au (Ob.out _ nD.out);clear HI HQ KO Oa Qp Ta aa Ob KZ q0 q1 q2 q3 q4 q6;go_wp2_with fail;refine V.out.mono ?_;rintro e w2 ⟨r,rfl,U,G⟩;cases r
    ·have HF:Hid (mR w pP (.returned (.tuple #[.int .i64 6,.bool false])) w2):=⟨6,rfl,.inr ⟨by omega,by omega,λh=>(by cases U.2 h),z.out⟩,by omega,nD.out.trans' G⟩
     clear z W U G V;go_wp2_with fail;go_ret2;exact HF.out
    ·have HN:Hid (az [] w1 w2/\∀j,j<6->pP j):=⟨W.out.trans' G,λj hj=>by
      by_cases e:j=5
      ·rw[e];exact U.1 rfl
      ·exact z.out j (by omega)⟩
     clear z W U G V;go_wp2_with fail;go_roundg 1;case measure=>omega
     case rel=>exact⟨6,by omega,by go_num,HN.out⟩
   ·obtain rfl:gg=0:=by omega
    have V:=au (KZ.out _ nD.out);clear HI HQ KO Oa Qp Ta aa Ob KZ q0 q1 q2 q3 q4 q5;go_wp2_with fail;refine V.out.mono ?_;rintro e w2 ⟨r,rfl,U,G⟩;cases r
    ·have HF:Hid (mR w pP (.returned (.tuple #[.int .i64 7,.bool false])) w2):=⟨7,rfl,.inr ⟨by omega,by omega,λh=>(by cases U.2 h),z.out⟩,by omega,nD.out.trans' G⟩
     clear z W U G V;go_wp2_with fail;go_ret2;exact HF.out
    ·have HN:Hid (az [] w1 w2/\∀j,j<7->pP j):=⟨W.out.trans' G,λj hj=>by
      by_cases e:j=6
      ·rw[e];exact U.1 rfl
      ·exact z.out j (by omega)⟩
     clear z W U G V;go_wp2_with fail;go_roundg 0;case measure=>omega
     case rel=>exact⟨7,by omega,by go_num,HN.out⟩
def On (s:j0):Prop:=s.now.length=3128/\In64 s.now/\∀k:Nat,k<s.now.length->s.refusal (k:Int)=0/\s.load (k:Int)=s.now.getD k 0
def KH (w:World) (b:Nat) (R:j0->World->Prop) (e:Ending) (w':World):Prop:=
 (∃x s,e= .returned (.tuple #[.pointer none,.int .i64 x])/\x=10/\On s/\(∀M,¬∃T own,lY s.now T own [] M)/\R s w')\/
 (∃f s,e= .returned (.tuple #[.pointer (some ⟨f,0,none⟩),.int .i64 0])/\On s/\abL w' f b/\w.heap.size<=f/\(∃M T own,lY s.now T own [] M)/\R s w')
theorem Ve{V:Nat}(hl:X.length=3128)(z:In64 X)(hs:eO w b V X [])(U:b<w.heap.size/\V<w.heap.size):
  Calls prog 15 #[.pointer (some ⟨b,0,none⟩)] w λe w'=>∃k:Nat,e= .returned (.tuple #[.int .i64 (k:Int),.bool (decide (k=0))])/\az [] w w'/\Hid (k=0↔∃M T own,lY X T own [] M):=by
 by_cases W:∃M T own,lY X T own [] M
 ·obtain⟨M,T,own,GG⟩:=id W
  have G:gN w b V X [] T own:=⟨hs,z,GG.st.gots,U⟩;refine(NC G).mono ?_;rintro e w' ⟨k,rfl,J,-,h3⟩;refine⟨k,rfl,h3,λ_=>W,λ_=> ?_⟩;rw[ze] at J;exact J.uniq (.inl ⟨rfl,GG.points⟩)
 ·obtain⟨T,own,hg⟩:=abm X
  have G:gN w b V X [] T own:=⟨hs,z,hg,U⟩;refine(NC G).mono ?_;rintro e w' ⟨k,rfl,J,-,h3⟩;refine⟨k,rfl,h3,λh0=> ?_,λh=>absurd h W⟩;rw[ze] at J;rcases J with ⟨-,h4⟩|⟨h4,-⟩
  ·obtain⟨M,hm⟩:=adK hl z hg h4
   exact⟨M,T,own,hm⟩
  ·omega
theorem YP{R:j0->World->Prop}(hR:∀s wa wb,az [] wa wb->R s wa->R s wb)(h:Calls prog 41 #[.pointer (some ⟨b,0,none⟩)] w λe w'=>e= .returned (.int .i64 0)/\∃s,On s/\fH w' b gn gl gf s/\w.heap.size<=w'.heap.size/\R s w'):
  Calls prog 19 #[.pointer (some ⟨b,0,none⟩)] w (KH w b R):=by
 have H:=au h;have HR:=au hR;clear h hR;go_enter func19,ntmps19;go_wp2_with fail;refine H.out.mono ?_;rintro e w1 ⟨rfl,s,J,hp,aa,hr⟩;have ae:=au J;have ah:=au hr;have ot:=au aa;have p9:=au (Nu hp J.2.2);have V:Hid (∀z f,az [] w1 z->abL z f b->w.heap.size<=f->(∃M T own,lY s.now T own [] M)->KH w b R (.returned (.tuple #[.pointer (some ⟨f,0,none⟩),.int .i64 0])) z):=λz f G hf hw GG=> .inr ⟨f,s,rfl,J,hf,hw,GG,HR.out s w1 z G hr⟩
 have U:Hid (∀z,az [] w1 z->(¬∃M T own,lY s.now T own [] M)->KH w b R (.returned (.tuple #[.pointer none,.int .i64 10])) z):=λz G hn=> .inl ⟨10,s,rfl,rfl,J,λM h2=>hn ⟨M,h2⟩,HR.out s w1 z G hr⟩
 have YD:kF s.now=s.now:=by
  apply dg (by rw[iK,J.1]);intro k h1 h2;have :=wT s.now k;rw[iK] at h1;rw[aj,aG (by rw[iK];exact h1),gD] at this;rw[this,aC h1,aj,aG h2];rfl
 have af:Hid (∀z W,eO z W W s.now []->Calls prog 15 #[.pointer (some ⟨W,0,none⟩)] z λe w3=>∃k:Nat,e= .returned (.tuple #[.int .i64 (k:Int),.bool (decide (k=0))])/\az [] z w3/\Hid (k=0↔∃M T own,lY s.now T own [] M)):=λz W hs=>Ve J.1 J.2.1 hs ⟨hs.raw.lt,hs.raw.lt⟩
 have ac:=au YD;clear J hp aa hr HR YD;generalize KH w b R=Q at *;generalize s.now=X at *;go_wp2_with fail;refine p9.out.mono ?_;rintro e z ⟨v,g,rfl,wP,hg,G⟩;have HN:=EB wP;rw[ac.out] at HN;have HN:=au HN;have fL:=au G;clear wP hg G p9 ac;go_wp2_with fail;refine HN.out.mono ?_;rintro e w3 ⟨W,rfl,ai,ag,G⟩;have HS:=au (af.out w3 W ag);have mV:=au (fL.out.trans' G);clear ai ag G HN af fL;go_wp2_with fail;refine HS.out.mono ?_;rintro e w4 ⟨k,rfl,G,SD⟩;have pW:=au (mV.out.trans' G);clear G HS mV;by_cases dt:k=0
 ·have HF:Hid (Q (.returned (.tuple #[.pointer (some ⟨w4.heap.size,0,none⟩),.int .i64 0])) (w4.alloc (.cells #[.pointer (some ⟨b,0,none⟩)] 75))):=V.out _ _ (pW.out.alloc _) (bh.new _ _ _) (by have :=pW.out.size;have :=ot.out;omega) (SD.out.1 dt)
  subst dt;clear V U SD ae ah ot;go_wp2_with fail;exact HF.out
 ·have hd:decide (k=0)=false:=aS dt
  have HF:=au (U.out _ pW.out (λh=>dt (SD.out.2 h)));clear V U SD ae ah ot dt;go_wp2_with fail;exact HF.out
theorem ad5 (h:In64 X):Et X:=λx z=>by
 obtain⟨i,G,rfl⟩:=cj z;have :=h i;rw[aj,aG G,gD] at this;omega
theorem ND{xs:List Int}(h:fH w b gn gl gf (calm xs d))(G:xs.length=3128)(V:Et xs)(U:xs.getD 8 0=0):
  Calls prog 41 #[.pointer (some ⟨b,0,none⟩)] w λe w'=>e= .returned (.int .i64 0)/\az [] w w':=by
 have W:Ky xs=none:=by
  unfold Ky Hs;rw[U,aB];rintro⟨h1,-⟩;simp at h1
 have HS:=au (Ht h G V W);have J:=au (λwx (z:az [] w wx)=>yc (h.keep z (by simp) (by simp)) 8 (by omega) (by rw[G];omega));rw[show(8:Int).toNat=8 from rfl,U] at J;clear h G V W U;go_enter func41,ntmps41;go_wp2_with fail;refine HS.out.mono ?_;rintro e w1 ⟨rfl,z⟩;have yr:=au (J.out w1 z);have HK:=au z;clear z J HS;go_wp2_with fail;refine yr.out.mono ?_;rintro e w' ⟨rfl,rfl⟩;go_wp2_with fail;go_ret;exact⟨rfl,HK.out⟩
theorem RU (J:X.length=3128)(h:In64 X):On (calm X d):=by
 refine⟨J,h,λk G=> ?_⟩;have z:(k:Int)<X.length:=by have :k<X.length:=G;omega
 exact⟨vN (by omega) z,by rw[Jf (by omega) z];rfl⟩
structure Live (W0:World) (f b gn gl gf:Nat) (M:Nat->Nd) (X:List Int) (n:Int) (w:World):Prop where
 fs:abL w f b
 ws:Ql X M
 pm:∃d,(0<=d/\d<=n)/\fH w b gn gl gf (calm X d)
 keeps:az [] W0 w
 new:W0.heap.size<=f/\W0.heap.size<=b/\W0.heap.size<=gn/\W0.heap.size<=gl/\W0.heap.size<=gf
 off:f∉[b,gn,gl,gf]
theorem Live.keep{U:World}(h:Live U f b gn gl gf M X n w){l:List Nat}(G:az l w w')(V:∀y∈l,U.heap.size<=y/\y∉[f,b,gn,gl,gf]):Live U f b gn gl gf M X n w':=by
 obtain⟨d,hd,hp⟩:=h.pm;have z:∀y,y∈[f,b,gn,gl,gf]->y∉l:=λy J W=>(V y W).2 J
 exact⟨h.fs.keep G (z _ (by simp)),h.ws,⟨d,hd,hp.keep G (z _ (by simp)) (λ_=>⟨z _ (by simp),z _ (by simp),z _ (by simp)⟩)⟩,h.keeps.trans G (λy J=> .inr (V y J).1),h.new,h.off⟩
theorem Live.keep0{z:World}(h:Live z f b gn gl gf M X n w)(G:az [] w w'):Live z f b gn gl gf M X n w':=h.keep G (by simp)
def agp (h:World) (f b gn gl gf:Nat) (M:Nat->Nd) (X:List Int) (n:Int) (o:kM) (w:World) (e:Ending) (w':World):Prop:=
 ∃r Z,e= .returned (.agg Z)/\uG w.heap.size w' r Z/\az [b,gn,gl,gf] w w'/\
  ((r.E≠0/\Live h f b gn gl gf M X n w'/\((r.E=7/\r=fy 7/\CB o.K=true/\((oV M o).2.E=0\/(oV M o).2.E=7)/\((aZ X).length<40\/(oV M o).2.E=7))\/r=(oV M o).2))\/
  (r.E=0/\(oV M o).2.E=0/\adR o r (oV M o).2/\∃z,Live h f b gn gl gf (oV M o).1 z (n+3000) w'))
theorem uI{W0:World}{o:kM}{vp vq vd:Value}(af:p7 M o)(h:Live W0 f b gn gl gf M X n w)(hT:kg W0)(hn:n<=1000000000)(hI:zS w o vp vq vd):
  Calls prog 10 #[.pointer (some ⟨f,0,none⟩),.agg (Gs o vp vq vd)] w (agp W0 f b gn gl gf M X n o w):=by
 obtain⟨d,hd,hp⟩:=h.pm;have J:=h.ws.len;have ag:=hp.old (by show X.length≠0;omega);have U:∀y∈[b,gn,gl,gf],y<w.heap.size:=λy hy=>by
  simp only[aP,aM,bz] at hy;omega
 have zV:=RU (d:=d) J h.ws.w64;have aa:=abp h.ws.tree h.ws.few (o:=o) hI.ds;refine(abN (X:=X) (M:=M) (ks:=[b,gn,gl,gf]) (C:=λps x w'=>x=0/\fH w' b gn gl gf (calm (mM X ps) (d+(Bv ps:Nat)))) af h.fs hp rfl zV.2.2 h.ws (hT.keep h.keeps) hI U ?_ ?_).mono ?_
 ·rintro ps x wa wb l hl z ⟨rfl,W⟩
  have G:∀y,y∈[b,gn,gl,gf]->y∉l:=λy hy hm=>by have :=hl y hm;have :=U y hy;omega
  exact⟨rfl,W.keep z (G _ (by simp)) (λ_=>⟨G _ (by simp),G _ (by simp),G _ (by simp)⟩)⟩
 ·intro w1 v g qs r0 z hO h0 hr hg
  obtain⟨-,-,hl⟩:=hO.E_zero h0;obtain⟨c1,c2,c3,-,-⟩:=h.ws.lands hl aa.1;refine(Uv (hp.keep z (by simp) (by simp)) hd.1 (by omega) J hr c1 c2 c3 (λ_ hm=>by have :=U _ hm;omega)).mono ?_;rintro e w2 ⟨rfl,W,h2⟩;exact⟨0,rfl,h2,rfl,W⟩
 ·rintro e w' ⟨r,Z,rfl,W,⟨z,h2,r0,qs,hO,rfl⟩|⟨z,r0,qs,x,hO,h0,⟨rfl,ac⟩,⟨-,rfl⟩|⟨hx,-⟩⟩⟩
  ·refine⟨_,Z,rfl,W,z.mono (by simp),.inl ⟨h2,h.keep0 z,?_⟩⟩
   have ae:r0.E≠0:=h2;rcases hO with ⟨V,a2,a3,a4⟩|⟨V,a2⟩|⟨V,-⟩
   ·exact .inl ⟨V,by rw[V],a2,a3,a4⟩
   ·exact .inr a2.symm
   ·exact absurd V ae
  ·obtain⟨V,a2,hl⟩:=hO.E_zero h0
   obtain⟨c1,c2,c3,c4,-⟩:=h.ws.lands hl aa.1;have SA:=R9 (cV X (aA X qs) 3128);refine⟨r,Z,rfl,W,z,.inr ⟨h0,V,a2,_,h.fs.keep z h.off,c4,⟨_,⟨by omega,by omega⟩,ac⟩,h.keeps.trans z λy hy=> .inr ?_,h.new,h.off⟩⟩;have :=h.new;simp only[aP,aM,bz] at hy;omega
  ·exact absurd rfl hx
def Bl (J:Array Value):List Value:=[.func (.func 53) #[.agg J] #[],.func (.func 54) #[.agg J] #[],.func (.func 55) #[.agg J] #[],.func (.func 56) #[.agg J] #[],.func (.func 57) #[.agg J] #[],.func (.func 58) #[.agg J] #[],.func (.func 59) #[.agg J] #[],.func (.func 60) #[.agg J] #[],.func (.func 61) #[.agg J] #[],.func (.func 62) #[.agg J] #[],.func (.func 63) #[.agg J] #[],.func (.func 64) #[.agg J] #[],.func (.func 65) #[.agg J] #[]]
theorem YQ (J:Array Value):∀u∈Bl J,u.oneCell'=true:=by
 intro u h;simp only[Bl,aP,aM,bz] at h;rcases h with rfl|rfl|rfl|rfl|rfl|rfl|rfl|rfl|rfl|rfl|rfl|rfl|rfl<;>rfl
theorem Vf:(prog.info? 120).map (·.size)=some 13:=by kernel_rfl
theorem Qs (w:World)(J Z:Array Value)(h:Z.size=13):∃w',(storeVar 120 ⟨w.heap.size,0,none⟩ (.agg (Bl J).toArray)).run prog (w.alloc (.cells Z 120))= .ok () w'/\bh w' w.heap.size (Bl J).toArray 120/\az [w.heap.size] (w.alloc (.cells Z 120)) w':=
 bB (P:= prog) (cs:=Bl J) (by exact Vf) (bh.new _ _ _) (by rw[h];rfl) (YQ J)
theorem uJ (w:World)(b:Nat){o:kM}(h vq vd:Value){k:Nat}(hK:o.K=(k:Int))(hk:k<13):
  Calls prog 27 #[.agg (dZ b o h vq vd)] w λe w'=>e= .returned ((Bl (dZ b o h vq vd)).getD k undef)/\az [] w w':=by
 have G:=bh.new w (dZ b o h vq vd) 79;have c1:(w.alloc (.cells (dZ b o h vq vd) 79)).cell? ⟨w.heap.size,1,none⟩=some (.int .i64 o.K):=by rw[G.cell];rfl
 have sx:Hid (∀wx,az [] (w.alloc (.cells (dZ b o h vq vd) 79)) wx->(loadVar 79 ⟨w.heap.size,0,none⟩).run prog wx= .ok (.agg (dZ b o h vq vd)) wx):=λwx hk=>ny (G.keep hk (by simp))
 obtain⟨W,hW⟩:∃W,w.alloc (.cells (dZ b o h vq vd) 79)=W:=⟨_,rfl⟩;rw[hW] at G c1 sx;have tq:=au (sx.out W (az.refl _ _));generalize hJ:dZ b o h vq vd=J at *;obtain⟨z,q1,q2,q3⟩:=Qs W J #[.nilFunc,.nilFunc,.nilFunc,.nilFunc,.nilFunc,.nilFunc,.nilFunc,.nilFunc,.nilFunc,.nilFunc,.nilFunc,.nilFunc,.nilFunc] rfl;have V:az [] W z:=((az.refl _ _).alloc _).trans q3 (by intro x hx;rw[ay] at hx;omega);have U:az [] w z:=by
  have :az [] w W:=by rw[<-hW];exact(az.refl _ _).alloc _
  exact this.trans' V
 have c2:z.cell? ⟨w.heap.size,1,none⟩=some (.int .i64 o.K):=by rw[(G.keep V (by simp)).cell,<-hJ];rfl
 have YR:=au (sx.out z V);have HS:=au q1;have fL:=au U;have c5:z.cell? ⟨W.heap.size,k,none⟩=some ((Bl J).getD k undef):=by
  rw[q2.cell,aF,aj,aG (show k<(Bl J).length from hk)];rfl
 rw[hK] at c2;have b1:(0:Int)<=(k:Int):=by omega
 have b2:(k:Int)<13:=by omega
 have b3:decide ((k:Int)<0)=false:=aS (by omega);have b4:¬(13:Int)<=(k:Int):=by omega
 clear sx q1 q2 q3 V U G c1 hJ hK;generalize (Bl J).getD k undef=fv at *;go_enter func27,ntmps27;go_wp2_with(first|(with_reducible refine gL 79 tq.out ?_)|(with_reducible refine gS 120 HS.out ?_));go_ret;exact⟨rfl,fL.out⟩
def Qt (w:World) (e:Ending) (w':World):Prop:=
 ∃f b gn gl gf Y,e= .returned (.tuple #[.pointer (some ⟨f,0,none⟩),.pointer (some ⟨b,0,none⟩)])/\Live w f b gn gl gf vR Y 3520 w'/\(aZ Y).length=255
theorem NF (hT:kg w){k:Int}(hk:k=1\/k=2):Calls prog 9 #[.int .i64 k] w (Qt w):=by
 have HN:=acs w 3128;rw[show tD 3128=3128 from rfl] at HN;have HN:=au HN;have aa:Hid (∀V b gn gl gf,az [] w V->(w.heap.size<=b/\w.heap.size<=gn/\w.heap.size<=gl/\w.heap.size<=gf)->fH V b gn gl gf (calm (List.replicate 3128 0) 0)->Calls prog 24 #[.pointer (some ⟨b,0,none⟩),.int .i64 k] V λe w2=>e= .returned (.int .i64 0)/\Hid (∃Y,Calls prog 19 #[.pointer (some ⟨b,0,none⟩)] w2 λe w3=>∃f,e= .returned (.tuple #[.pointer (some ⟨f,0,none⟩),.int .i64 0])/\Hid (Qt w (.returned (.tuple #[.pointer (some ⟨f,0,none⟩),.pointer (some ⟨b,0,none⟩)])) w3))):=λV b gn gl gf J h hp=>by
  refine(ad0 hp (by omega) (by omega) (by simp) (hT.keep J) hk).mono ?_;rintro e w2 ⟨rfl,Y,G,o9,U,ae⟩;refine⟨rfl,Y,?_⟩;have ho:=U.old (by show Y.length≠0;have :=G.len;omega);refine(YP (b:=b) (gn:=gn) (gl:=gl) (gf:=gf) (R:=λs wx=>s=calm Y (0+3520)/\fH wx b gn gl gf s/\az [] w2 wx) (λs wa wb hk ⟨h1,h2,h3⟩=>⟨h1,h2.keep hk (by simp) (by simp),h3.trans' hk⟩) ?_).mono ?_
  ·refine(ND U G.len (ad5 G.w64) G.1).mono ?_
   rintro e w3 ⟨rfl,z⟩;have P4:=U.keep z (by simp) (by simp);exact⟨rfl,_,RU G.len G.w64,P4,z.size,rfl,P4,z⟩
  ·rintro e w3 (⟨x,s,rfl,rfl,-,af,rfl,-⟩|⟨f,s,rfl,-,hf,ag,-,rfl,P4,z⟩)
   ·exfalso
    obtain⟨-,T,own,GG⟩:=G;exact af _ ⟨T,own,GG⟩
   ·refine⟨f,rfl,f,b,gn,gl,gf,Y,rfl,⟨hf,G,⟨_,⟨by omega,by omega⟩,P4⟩,?_,?_,?_⟩,o9⟩
    ·have h1:az [] w w2:=J.trans ae λy hy=> .inr (by simp only[aP,aM,bz] at hy;omega)
     exact h1.trans' z
    ·have :=J.size
     have :=ae.size;exact⟨by omega,h.1,h.2.1,h.2.2.1,h.2.2.2⟩
    ·intro W
     simp only[aP,aM,bz] at W;omega
 clear hT hk;generalize Qt w=Q at *;go_enter func9,ntmps9;go_wp2_with fail;refine HN.out.mono ?_;rintro e V ⟨b,gn,gl,gf,rfl,hp,h,ac⟩;rw[bG] at hp;have HF:=au (aa.out V b gn gl gf ac h (by unfold calm;rw[bG];exact hp));clear hp h ac HN aa;go_wp2_with fail;refine HF.out.mono ?_;rintro e w2 ⟨rfl,W⟩;obtain⟨Y,W⟩:=W.out;have HM:=au W;clear W HF;go_wp2_with fail;refine HM.out.mono ?_;rintro e w3 ⟨f,rfl,hq⟩;clear HM;go_wp2_with fail;exact hq.out
theorem Jp (M:Nat->Nd){o:kM}(G:o.K=0):p7 M o:=by
 intro w b gp B T own vp vq vd h W hI;refine(uJ w b vp vq vd (k:=0) G (by omega)).mono ?_;rintro e w' ⟨rfl,V⟩;refine⟨_,rfl,V,lI func53 rfl rfl _,λw2 z=> ?_⟩;obtain⟨⟨g1,J⟩,U,⟨g3,a3⟩,a4,⟨g5,a5⟩,a6⟩:=hI.keep z;exact NA (h.keep0 z) W J U G
def YS (nm:ByteArray):kM:=⟨0,[nm],[],0,0,[]⟩
theorem ad6:(oV vR (YS ⟨#[97]⟩)).2.E=0/\(oV vR (YS ⟨#[97]⟩)).2.N=1:=by
 rw[Em (.inl rfl)]
 decide+kernel
theorem NG (w:World):(zeroValue 37).run prog w= .ok (.agg #[.int .i64 0,.slice none 0 0,.slice none 0 0,.int .i64 0,.int .i64 0,.slice none 0 0]) w:=by kernel_rfl
theorem nM (w:World)(g:Nat):jg w (.slice none 0 0) g []:=⟨none,0,rfl,by simp,by simp[maxLen],λh=>absurd rfl h⟩
theorem NH (w:World)(s:ByteArray)(T:Nat):jg (w.alloc (.cells #[.string s] T)) (.slice (some ⟨w.heap.size,0,none⟩) 1 1) w.heap.size [s]:=by
 have h:=bh.new w #[.string s] T;refine⟨some ⟨w.heap.size,0,none⟩,1,rfl,aI _,by unfold maxLen;omega,λ_=>⟨h.lt,0,rfl,λj z=> ?_⟩⟩;rw[h.cell,aX,<-aF];rfl
theorem Jq (E N K L I:Int)(vd h:Value)(w:World):(Instr.field 34 (.agg #[.int .i64 E,.int .i64 N,.int .i64 K,.int .i64 L,.int .i64 I,vd,h]) 1).run prog w= .ok (.int .i64 N) w:=by kernel_rfl
theorem Qu (W:kg w):Calls prog 7 #[] w λe w'=>e= .returned (.bool true)/\az [] w w':=by
 have yU:=au (NF W (k:=1) (.inl rfl));have Bq:=au W;clear W;go_enter func7,ntmps7;go_wp2_with fail;refine yU.out.mono ?_;rintro e z ⟨f,b,gn,gl,gf,Y,rfl,hl,o9⟩;have hk:az [] z (z.alloc (.cells #[.string ⟨#[97]⟩] 9)):=(az.refl _ _).alloc _;have hI:zS (z.alloc (.cells #[.string ⟨#[97]⟩] 9)) (YS ⟨#[97]⟩) (.slice (some ⟨z.heap.size,0,none⟩) 1 1) (.slice none 0 0) (.slice none 0 0):=
  ⟨⟨_,NH _ _ _⟩,λs hs=>by rw[ay.1 hs];decide,⟨0,nM _ _⟩,by simp[YS],⟨0,nK _ _⟩,by simp[YS]⟩
 have U:=uI (Jp _ rfl) (hl.keep0 hk) Bq.out (by omega) hI;have J:Hid (Calls prog 10 #[.pointer (some ⟨f,0,none⟩),.agg #[.int .i64 0,.slice (some ⟨z.heap.size,0,none⟩) 1 1,.slice none 0 0,.int .i64 0,.int .i64 0,.slice none 0 0]] (z.alloc (.cells #[.string ⟨#[97]⟩] 9)) λe w'=>∃E K L I vd G,e= .returned (.agg #[.int .i64 E,.int .i64 1,.int .i64 K,.int .i64 L,.int .i64 I,vd,G])/\Hid (az [] w w')):=by
  show Calls _ _ _ _ _;refine U.mono ?_;rintro e w' ⟨r,Z,rfl,⟨vd,G,rfl,-⟩,-,h⟩;obtain⟨e1,e2⟩:=ad6;have hN:r.N=1/\az [] w w':=by
   rcases h with ⟨h0,h1,⟨-,-,-,-,V⟩|rfl⟩|⟨-,-,V,X',h6⟩
   ·rw[o9,e1] at V
    omega
   ·exact absurd e1 h0
   ·refine⟨?_,h6.keeps⟩
    rcases V with rfl|⟨h7,-⟩
    ·exact e2
    ·exact absurd h7 (by decide)
  refine⟨r.E,r.K,r.L,r.I,vd,G,?_,hN.2⟩;rw[GH,hN.1]
 have ac:=NG;clear hl o9 hk hI U yU Bq;go_wp2_with fail;refine J.out.mono ?_;rintro e w2 ⟨E,K,L,I,vd,G,rfl,aa⟩;have ae:=Jq E 1 K L I vd G;clear J;go_wp2_with fail;go_ret;exact⟨rfl,aa.out⟩
def fA (D:List Int):Nat->Nd:=λi=>if i=0 then ⟨2,1,[],[(Ef,1)]⟩ else if i=1 then ⟨1,1,D,[]⟩ else vL
theorem Qv (D:List Int):fA D 1=⟨1,1,D,[]⟩:=rfl
theorem KI:(oV vR (YS Ef)).1=fA []/\(oV vR (YS Ef)).2.E=0:=by
 rw[Em (.inl rfl)];refine⟨?_,by decide+kernel⟩;have e:Dl vR (YS Ef)=(Kq vR 0 1 1 [(Ef,1)],{ jf with N:=1 }):=by kernel_rfl
 rw[e]
 funext i
 by_cases h:i=0
 ·rw[h];rfl
 ·by_cases z:i=1
  ·rw[z];rfl
  ·show Kq vR 0 1 1 [(Ef,1)] i=_
   have G:Kq vR 0 1 1 [(Ef,1)] i=vR i:=by
    unfold Kq sA ng;rw[aB h,aB z]
   rw[G,pO h,fA,aB h,aB z]
theorem ym (D:List Int):cG (fA D) [Ef]=(1,0):=by
 have h:kV [Ef]=true:=by decide+kernel
 unfold cG;rw[aC h];rfl
theorem agq (D G:List Int):ng (fA D) 1 { fA D 1 with D:=G }=fA G:=by
 funext i
 unfold ng fA;by_cases h:i=1
 ·rw[aC h,h];rfl
 ·rw[aB h]
  by_cases z:i=0
  ·rw[aC z,aC z]
  ·rw[aB z,aB z,aB h,aB h]
def opW (f:Int) (x:List Int):kM:=⟨2,[Ef],[],f,0,x⟩
def ZG (k n:Int):kM:=⟨k,[],[],0,n,[]⟩
def RV (k n:Int):kM:=⟨k,[Ef],[],0,n,[]⟩
def KJ (D:List Int) (f:Int) (x:List Int):List Int:=if x=[] then D else sO D f.toNat x
theorem YT (D:List Int)(f:Int)(x:List Int)(h:(oV (fA D) (opW f x)).2.E=0):
  (oV (fA D) (opW f x)).1=fA (KJ D f x)/\(0<=f/\f+x.length<=832):=by
 rw[Bj (.inl rfl)] at h ⊢;have V:(cG (fA D) [Ef]).1=1:=by rw[ym]
 have U:(cG (fA D) [Ef]).2=0:=by rw[ym]
 unfold yX at h ⊢;simp only[opW,V,U,ne_eq,not_true_eq_false,if_false,Qv,show ¬((1:Int)=2) by omega] at h ⊢;by_cases G:(¬(2:Int)=4/\f<0)\/(False/\(0:Int)<0)
 ·rw[aC G] at h
  exact absurd h (show ¬(1:Int)=0 by omega)
 ·rw[aB G] at h ⊢
  simp only[show ¬((2:Int)=3) by omega,show ¬((2:Int)=4) by omega,if_false] at h ⊢;by_cases J:832<f\/(832:Int)-f<x.length
  ·rw[aC J] at h
   exact absurd h (show ¬(8:Int)=0 by omega)
  ·rw[aB J] at h ⊢
   refine⟨?_,by omega,by omega⟩;unfold KJ;by_cases z:x=[]
   ·rw[aC z,aC z]
   ·rw[aB z,aB z]
    exact agq D _
theorem ad7 (D:List Int)(n:Int):(oV (fA D) (ZG 11 n)).1=fA D:=by rw[Yt rfl]
theorem abU (D:List Int):(oV (fA D) (ZG 12 0)).1=fA D:=by rw[RQ rfl]
theorem abV (J:D.length<=832):oV (fA D) (RV 3 2000)=(fA D,{ jf with D:=D }):=by
 rw[Bj (.inr (.inl rfl))];have G:(cG (fA D) [Ef]).1=1:=by rw[ym]
 have z:(cG (fA D) [Ef]).2=0:=by rw[ym]
 have h:(D.drop (0:Int).toNat).take (2000:Int).toNat=D:=by
  rw[show(0:Int).toNat=0 from rfl,show(2000:Int).toNat=2000 from rfl,List.drop_zero,aV (by omega)]
 unfold yX;simp only[RV,G,z,ne_eq,not_true_eq_false,if_false,Qv,show ¬((1:Int)=2) by omega,h];rw[aB (by omega)];simp
theorem abW (D:List Int):oV (fA D) (RV 10 0)=(fA D,{ jf with N:=(D.length:Int),K:=1,L:=1,I:=1 }):=by
 rw[Bk (.inr rfl)];have z:(cG (fA D) [Ef]).1=1:=by rw[ym]
 have h:(cG (fA D) [Ef]).2=0:=by rw[ym]
 unfold A9;simp only[RV,z,h,ne_eq,not_true_eq_false,if_false,if_true,Qv];simp
theorem abX{f:Int}(h:D.length<=832)(G:0<=f)(z:f+x.length<=832):(KJ D f x).length<=832:=by
 unfold KJ;split
 ·exact h
 ·rw[ya];omega
theorem abY (_:D.length<=832)(W:x≠[])(h1:f+x.length<=832):
  nI (KJ D (f:Int) x) 832=(nI D 832).take f++(x++(nI D 832).drop (f+x.length)):=by
 unfold KJ;rw[aB W,aH];have hl:((nI D 832).take f++(x++(nI D 832).drop (f+x.length))).length=832:=by
  rw[aD,aD,aJ,bE,oW];omega
 have z:∀k,k<832->(nI (sO D f x) 832).getD k 0=((nI D 832).take f++(x++(nI D 832).drop (f+x.length))).getD k 0:=λk G=>by
  rw[Bf _ _ G,Jj];have V:((nI D 832).take f).length=f:=by rw[aJ,oW];omega
  simp only[aj];by_cases h:k<f
  ·rw[aB (by omega),aY (by omega),bO,aC h]
   have :=Bf D 832 G;simp only[aj] at this;exact this.symm
  ·rw[aQ (by omega),V]
   by_cases J:k<f+x.length
   ·rw[aC ⟨by omega,J⟩,aY (by omega)]
   ·rw[aB (by omega),aQ (by omega),bT,show f+x.length+(k-f-x.length)=k by omega]
    have :=Bf D 832 G;simp only[aj] at this;exact this.symm
 apply dg (by rw[oW,hl]);intro k h J;have U:=z k (by rw[oW] at h;exact h);rw[aj,aG h,aj,aG J] at U;exact U
end Go.Proofs.YtepbpdipenedhaaGreatDoor
