/- Lemmas. -/
import Derived.Test.YtcecbdeamjigiaaGreatDoorH31
import Derived.LaidMore
import Derived.Stop.Joined
import Derived.Laws.IdiomArrays
set_option maxHeartbeats 8000000
set_option maxRecDepth 100000
namespace Go.Proofs.YtcecbdeamjigiaaGreatDoor
open Go.RowKit Go.Shelf
variable{B X xs:List Int}{T:List (bM×Value)}{own:Nat->List Nat}{w w':World}{b f gf gl gn gp:Nat}{ps:List (Int×Int)}{d n:Int}{M:Nat->Nd}
attribute [local go_sem] Oper.semAt_some
theorem Qt (h:nE X T own){xs:List GX}(V:xs.map js=iO T 32):(∀x∈xs,iC X x.n)↔tK X T:=by
 constructor
 ·intro J i W
  rcases h.form i with ⟨G,-,-⟩|⟨-,z,-⟩
  ·have y:(i,nT T i)∈iO T 32:=lI.2 ⟨W,rfl,G⟩
   rw[<-V] at y;obtain⟨x,U,e⟩:=bB.1 y;have :=J x U
   injection e with e1 e2
   rwa[e2] at this
  ·rw[z]
   exact λh=>by cases h
 ·intro J x U
  have y:js x∈iO T 32:=by rw[<-V];exact bB.2 ⟨x,U,rfl⟩
  obtain⟨G,z,-⟩:=lI.1 y;have :=J x.i G;rwa[<-show x.n=nT T x.i from z] at this
theorem D1 (h:fG w b gp B ps T own):
  Calls Tryz.prog 88 #[.pointer (some ⟨b,0,none⟩)] w (dg w (tK (az B ps) T)):=by
 have xf:=eV;obtain⟨Z0,yJ⟩:∃Z0,aU cB (.slice none 0 0)=Z0:=⟨_,rfl⟩;have C7:Hid (Z0.size=18):=by show _=_;rw[<-yJ];rfl
 rw[yJ] at xf;clear yJ;have HS:=ar h;clear h;have ap:((w.alloc (.cells #[.pointer (some ⟨b,0,none⟩)] 52)).alloc (.cells #[.bool false] 4)).cell? ⟨w.heap.size,0,none⟩=some (.pointer (some ⟨b,0,none⟩)):=by
  rw[((bm.new w #[.pointer (some ⟨b,0,none⟩)] 52).alloc _).cell];rfl
 refine(callsIn_wide (n:=5)).1 (callsIn_of_wp_marks Tryz.func88 rfl trivial (wpIn_wide.2 ?_) rfl);simp only[Tryz.ntmps88,bU,bH,cp,Nat.reduceAdd,Nat.reduceSub,Array.replicate_succ,Array.replicate_zero,List.push_toArray,List.append_toArray,bW,List.cons_append];go_wp2_with fail;refine(Mi b _).mono ?_;rintro e w4 ⟨rfl,V⟩;go_wp2_with fail;rw[<-V];have aG:w4.heap.size=w.heap.size+3:=by rw[V];simp
 have ac:bm w4 w.heap.size #[.pointer (some ⟨b,0,none⟩)] 52 :=by
  rw[V];exact((bm.new w _ _).alloc _).alloc _
 have rW:bm w4 (w.heap.size+1) #[.bool false] 4 :=by
  have :=(bm.new (w.alloc (.cells #[.pointer (some ⟨b,0,none⟩)] 52)) #[.bool false] 4).alloc (.cells #[.pointer (some ⟨b,0,none⟩)] 52);rw[cm] at this;rw[V];exact this
 have uK:bm w4 (w.heap.size+1+1) #[.pointer (some ⟨b,0,none⟩)] 52 :=by
  have :=bm.new ((w.alloc (.cells #[.pointer (some ⟨b,0,none⟩)] 52)).alloc (.cells #[.bool false] 4)) #[.pointer (some ⟨b,0,none⟩)] 52;rw[cm,cm] at this;rw[V];exact this
 have aa:ay [] w w4:=by
  rw[V];exact(((ay.refl [] w).alloc _).alloc _).alloc _
 have XL:=HS.out.keep0 aa;have aB:=HS.out.lt;have rM:=y6 (n:=5-1) (by omega) XL uK (C:=[w.heap.size+1]) (λk z=>by rw[au] at z;subst z;omega);have ai:∀xs:List GX,xs.map js=iO T 32->((∀x∈xs,iC (az B ps) x.n)↔tK (az B ps) T):=λxs h=>Qt HS.out.gots h
 have ae:∀i,(nT T i).F≠0->bP (nT T i):=λi hi=>by
  rcases HS.out.gots.form i with ⟨-,-,U⟩|⟨U,-⟩
  ·exact U.right
  ·exact absurd U hi
 have eT:=HS.out.w64;clear V XL uK ap;generalize hX:az B ps=X at *;refine(wpIn_wide (n:=5)).1 ?_;refine pg (by omega) (gf:= 159) (lb:= #[.pointer (some ⟨w.heap.size+1+1,0,none⟩)]) rfl (enters_of Tryz.func159 (by kernel_rfl) rfl) rM (λk z=>by rw[au] at z;subst z;omega) (λ_=>rfl)
  (λG A=>ay [] w A/\bm A w.heap.size #[.pointer (some ⟨b,0,none⟩)] 52/\bm A (w.heap.size+1) #[.bool false] 4/\∀x∈G,iC X x.n)
  (λc G A=>c= .ret/\ay [] w A/\bm A (w.heap.size+1) #[.bool false] 4/\∃x∈G,¬iC X x.n)
  (λG A A' h hb=>⟨h.1.below_trans hb (by omega),h.2.1.low hb (by omega),h.2.2.1.low hb (by omega),h.2.2.2⟩)
  (λc G A A' h hb=>⟨h.1,h.2.1.below_trans hb (by omega),h.2.2.1.low hb (by omega),h.2.2.2⟩)
  ⟨aa,ac,rW,λx hx=>by cases hx⟩
  (λl x A A' h z=>h.keep z λk z=>by rw[au] at z;omega)
  (λx a' W=>∃g5,bm W g5 (aU x.n x.v) 110/\w4.heap.size<=g5/\a'={ tmps:= #[.pointer (some ⟨b,0,none⟩),.pointer (some ⟨w.heap.size,0,none⟩),.pointer (some ⟨w.heap.size+1,0,none⟩),undef,.pointer (some ⟨g5,0,none⟩),.pointer (some ⟨b,0,none⟩),.func (.func 159) #[] #[.pointer (some ⟨w.heap.size+1+1,0,none⟩)],.int .i64 (x.i:Int),.agg (aU x.n x.v),undef,undef,undef,undef,undef,undef,undef,undef,undef],defers:=[] })
  (λl x a' A A' _ hr h z=>by
   obtain⟨g5,U,h2,h3⟩:=h;obtain⟨r,hr⟩:=hr;refine⟨g5,U.keep z λhm=> ?_,h2,h3⟩;rw[au] at hm;subst hm;rw[U] at hr;cases hr)
  ?assign (λl x A A' h z=>h.keep z (by simp)) ?body ?done ?stop
 case assign=>
  rintro l x W K ⟨U,h2,h3,h4,g,h5,h6⟩ aI hK;obtain⟨w5,p1,p2,p3⟩:=fF (n:=x.n) (v:=x.v) (bm.new W Z0 110) C7.out h4 h6.one;have zz:=ar p1;have jG:ay [] W w5:=((ay.refl [] W).alloc _).trans p3 (by intro x hx;rw[au] at hx;omega);have HF:=ar (hK _ w5 jG ⟨W.heap.size,p2,by omega,rfl⟩);clear p1 p2 p3 jG hK U h2 h3 h4 h5 h6;unfold Qq;generalize aU x.n x.v=ZN at *
  gi_wp2_with ((with_reducible show wpListIn _ _ _ _ _ (⟨_,.store 110 (.tmp 4) (.tmp 8),_,_,_,_⟩::_) _ _);refine iq (r:=some l) rfl 110 (.tmp 4) (.tmp 8) rfl _ rfl _ rfl _ zz.out ?_)
  exact HF.out
 case body=>
  rintro l G x a' W hl aH ⟨su,GZ,vY,J⟩ hN ⟨aF,af,av,Ys,g,hg,hE⟩ ⟨g5,pE,aC,rfl⟩;have hR:=ae x.i (by rw[<-af];exact av);rw[<-af] at hR;have c1:W.cell? ⟨g5,1,none⟩=some (.int .i64 x.n.K):=by rw[pE.cell];exact(jo _ Ys).f1
  have c0:W.cell? ⟨w.heap.size,0,none⟩=some (.pointer (some ⟨b,0,none⟩)):=by rw[GZ.cell];rfl
  have vv:=ar (cH pE Ys);have aj:Hid (x.n.K=1->Calls Tryz.prog 131 #[.pointer (some ⟨b,0,none⟩),.agg (aU x.n x.v)] W (dg W (iC X x.n))):=λz=>by
   have :=GJ (HS.out.sh.keep su (by simp) (by simp)) HS.out.w64 x.v Ys hR z;rwa[hX] at this
  have ah:Hid (x.n.K≠1->iC X x.n):=λU h2=>absurd h2 U
  have Aa:Hid (∀wx,ay [] W wx->wx.cell? ⟨w.heap.size+1,0,none⟩=some (.bool false)/\wx.frozen? ⟨w.heap.size+1,0,none⟩=false):=λwx z=>by
   have hb:=vY.keep z (by simp);exact⟨by rw[hb.cell];rfl,hb.frozen 0⟩
  have lO:Hid (iC X x.n->∀wx,ay [] W wx->qO [w.heap.size+1] (λG A=>ay [] w A/\bm A w.heap.size #[.pointer (some ⟨b,0,none⟩)] 52/\bm A (w.heap.size+1) #[.bool false] 4/\∀x∈G,iC X x.n) (λc G A=>c= .ret/\ay [] w A/\bm A (w.heap.size+1) #[.bool false] 4/\∃x∈G,¬iC X x.n) (G++[x]) W .normal { tmps:= #[],defers:=[] } wx):=λhp wx z=>
   ⟨z.mono (by simp),su.trans' z,GZ.keep z (by simp),vY.keep z (by simp),λy hy=>by
    rcases aP.1 hy with hy|hy
    ·exact J y hy
    ·rw[au] at hy
     subst hy;exact hp⟩
  have jr:Hid (¬iC X x.n->∀wx,ay [] W wx->qO [w.heap.size+1] (λG A=>ay [] w A/\bm A w.heap.size #[.pointer (some ⟨b,0,none⟩)] 52/\bm A (w.heap.size+1) #[.bool false] 4/\∀x∈G,iC X x.n) (λc G A=>c= .ret/\ay [] w A/\bm A (w.heap.size+1) #[.bool false] 4/\∃x∈G,¬iC X x.n) (G++[x]) W .ret { tmps:= #[],defers:=[] } (wx.setCell ⟨w.heap.size+1,0,none⟩ (.bool false))):=λhp wx z=>
   ⟨(z.mono (l':=[w.heap.size+1]) (by simp)).setCell (.inl (by simp)) _,rfl,(su.trans' z).setCell (.inr (by simp)) _,(vY.keep z (by simp)).set 0 (.bool false),x,by simp,hp⟩
  clear su GZ vY J hN af av hE pE ai ae ac rW aa rM hR hX eT HS;generalize aU x.n x.v=ZN at *;generalize ax:x.n.K=K at *;by_cases MH:K=1
  ·subst MH
   have ag:=ar (aj.out rfl);clear aj ah ax
   gi_wp2_with ((with_reducible show wpListIn _ _ _ _ _ (⟨_,.load 110 (.tmp 4),_,_,_,_⟩::_) _ _);refine mh (r:=some l) rfl 110 (.tmp 4) rfl _ rfl _ vv.out ?_)
   refine⟨trivial,CallsIn.inRound l (callsIn_wide.2 (ag.out.mono ?_))⟩;rintro e w6 ⟨r,rfl,hr,jz⟩;obtain⟨ap,aA⟩:=Aa.out w6 jz;cases r
   ·have HF:=ar (jr.out (λh=>by cases hr.2 h) w6 jz)
    clear lO jr Aa hr jz ag
    gi_wp2
    exact HF.out
   ·have HF:=ar (lO.out (hr.1 rfl) w6 jz)
    clear lO jr Aa hr jz ag
    gi_wp2
    exact HF.out
  ·have aD:(K==1)=false:=by simpa using MH
   have HF:=ar (lO.out (ah.out MH) W (ay.refl _ _));clear lO jr Aa aj ah MH
   gi_wp2
   refine⟨trivial,?_⟩
   gi_wp2
   exact HF.out
 case stop=>
  rintro D c G W hD kD ⟨rfl,su,vY,x,hx,aw⟩ EB;have QK:¬tK X T:=λh=>aw (by
   obtain⟨U,h2,-⟩:=lI.1 (kD.2 x hx);have :=h x.i U;rwa[<-show x.n=nT T x.i from h2] at this)
  have Xh:=ar EB;have Aj:Hid (∀Z,ay [D] W Z->Z.cell? ⟨w.heap.size+1,0,none⟩=some (.bool false)/\dg w (tK X T) (.returned (.bool false)) Z):=λZ z=>⟨by rw[(vY.keep z (by rw[au];omega)).cell];rfl,false,rfl,⟨(λh=>by cases h),λh=>absurd h QK⟩,su.trans z (by intro y hy;rw[au] at hy;omega)⟩
  clear su vY aw hx kD EB QK;refine wpIn_wide.2 ?_;go_wp2_with fail;refine jN [D] W (by simp) (λD' FZ=>by rw[au] at FZ;subst FZ;exact Xh.out) λZ z=> ?_
  obtain⟨U,h2⟩:=Aj.out Z z;exact⟨.bool false,by simp[results,Tryz.results88,go_sem,U],h2⟩
 case done=>
  rintro D xs W hD GY ⟨su,GZ,vY,J⟩ EB;have hr:=(ai xs GY).1 J;have ap:W.cell? ⟨w.heap.size+1,0,none⟩=some (.bool false):=by rw[vY.cell];rfl
  have aA:=vY.frozen 0;have aq:=vY.set 0 (.bool true);have ak:ay [w.heap.size+1] W (W.setCell ⟨w.heap.size+1,0,none⟩ (.bool true)):=(ay.refl _ _).setCell (.inl (by simp)) _;have Xh:Hid ((W.setCell ⟨w.heap.size+1,0,none⟩ (.bool true)).heap[D]? =some (.deferred (some []))):=(ak.block D (Array.getElem?_eq_some_iff.1 EB).1 (by rw[au];omega)).trans EB;have Aj:Hid (∀Z,ay [D] (W.setCell ⟨w.heap.size+1,0,none⟩ (.bool true)) Z->Z.cell? ⟨w.heap.size+1,0,none⟩=some (.bool true)/\dg w (tK X T) (.returned (.bool true)) Z):=λZ z=>⟨by rw[(aq.keep z (by rw[au];omega)).cell];rfl,true,rfl,⟨λ_=>hr,λ_=>rfl⟩,(su.trans ak (by intro y hy;rw[au] at hy;omega)).trans z (by intro y hy;rw[au] at hy;omega)⟩
  clear su GZ vY J EB hr aq ak GY ai ae ac rW aa rM hX eT HS;go_wp2_with fail;refine jN [D] _ (by simp) (λD' FZ=>by rw[au] at FZ;subst FZ;exact Xh.out) λZ z=> ?_
  obtain⟨U,h2⟩:=Aj.out Z z;exact⟨.bool true,by simp[results,Tryz.results88,go_sem,U],h2⟩
end Go.Proofs.YtcecbdeamjigiaaGreatDoor
namespace Go.Proofs.YtcecbdeamjigiaaGreatDoor
open Go.RowKit
variable{B X xs:List Int}{T:List (bM×Value)}{own:Nat->List Nat}{w w':World}{b f gf gl gn gp:Nat}{ps:List (Int×Int)}{d n:Int}{M:Nat->Nd}
theorem C2 (h:fG w b gp B ps T own):
  Calls Tryz.prog 84 #[.pointer (some ⟨b,0,none⟩)] w (dg w (Jh (az B ps) T)):=by
 have xf:=eV;obtain⟨Z0,yJ⟩:∃Z0,aU cB (.slice none 0 0)=Z0:=⟨_,rfl⟩;have C7:Hid (Z0.size=18):=by show _=_;rw[<-yJ];rfl
 rw[yJ] at xf;clear yJ;have HG:Hid (Calls Tryz.prog 95 #[.pointer (some ⟨b,0,none⟩),.int .i64 0] w (AR w (az B ps) T own 0)):=h.get (i:=0) (by omega);have LI:Hid (∀y,ay [] w y->Calls Tryz.prog 125 #[.pointer (some ⟨b,0,none⟩)] y λe w'=>e= .returned (.agg (cW (cQ 32 (ju T))).toArray)/\ay [] y w'):=λy Z=>C0 (h.keep0 Z)
 have xL:Hid (∀y,ay [] w y->∀i:Nat,i<32->Calls Tryz.prog 126 #[.pointer (some ⟨b,0,none⟩),.int .i64 (i:Int)] y λe w'=>e= .returned (.bool (decide (dI (az B ps) (i:Int))))/\ay [] y w'):=λy Z i hi=>by
  have :=AP (h.keep0 Z).sh (i:Int);rwa[show decide ((0<=(i:Int)/\(i:Int)<32)/\dI (az B ps) (i:Int))=decide (dI (az B ps) (i:Int)) by rw[decide_eq_decide];exact⟨λh=>h.2,λh=>⟨⟨by omega,by omega⟩,h⟩⟩] at this
 have HP:Hid (∀(r:Bool) w',(r=true↔((nT T 0).K=2/\∀i:Nat,i<32->0<ju T i->¬dI (az B ps) (i:Int)))->ay [] w w'->dg w (Jh (az B ps) T) (.returned (.bool r)) w'):=λr w' hr Z=>⟨r,rfl,hr,Z⟩
 have G:Hid (∀i,i<32->(cW (cQ 32 (ju T))).toArray[i]? =some (.int .i64 (ju T i:Int))):=λi hi=>tL hi
 clear h;generalize Jh (az B ps) T=pP at *;generalize az B ps=X at *;generalize (cW (cQ 32 (ju T))).toArray=ZR at *;go_enter Tryz.func84,Tryz.ntmps84;go_wp2_with fail;refine HG.out.mono ?_;rintro e w3 ⟨v,g,va,ga,r,rfl,hB,hE,hg,hO,sk,aa,hr⟩;obtain⟨w4,p1,p2,p3⟩:=fF (n:=nT T 0) (v:=v) (bm.new w3 Z0 110) C7.out hB hE.one;have wj:=ar p1;have nK:Hid (ay [] w w4):=aa.trans' (((ay.refl [] w3).alloc _).trans p3 (by intro x hx;rw[au] at hx;omega));have c1:w4.cell? ⟨w3.heap.size,1,none⟩=some (.int .i64 (nT T 0).K):=by rw[p2.cell];exact(jo _ hB).f1
 clear hB hE hg hO sk aa hr p1 p2 p3 HG;generalize aU (nT T 0) v=ZN at *;generalize hK:(nT T 0).K=K at *;by_cases J:K=2
 ·subst J
  have Su:=ar (LI.out _ nK.out);clear LI;go_wp2_with(with_reducible refine gS 110 wj.out ?_);refine Su.out.mono ?_;rintro e w5 ⟨rfl,jG⟩;have oH:=ar (nK.out.trans' jG);clear jG Su wj c1 nK;go_wp2_with fail;go_loopg [19] 32 (λgh s19 y=>∃k:Nat,k+gh=32/\s19= .int .i64 (k:Int)/\Hid (ay [] w y/\∀i:Nat,i<k->0<ju T i->¬dI X (i:Int)))
  case atStart=>exact⟨0,by omega,rfl,oH.out,λi hi=>by omega⟩
  case round=>
   clear oH;obtain⟨k,Z,rfl,W⟩:=hrel;cases gk with
   |zero=>
    obtain rfl:k=32:=by omega
    have HF:=ar (HP.out true _ ⟨λ_=>⟨(by first|trivial|rfl),W.out.2⟩,λ_=>rfl⟩ W.out.1);clear W HP xL G;go_wp2_with fail;go_ret;exact HF.out
   |succ gg=>
    have ye:(k:Int)<32:=by omega
    have qA:k<32:=by omega
    have zW:=jx 175 3 32 .i64 ZR k _ Tryz.underlying175 Tryz.underlying3 lz qA (G.out k qA);have V:=ar (xL.out _ W.out.1 k qA);have U:=ar W.out.2;have rv:=ar W.out.1;have lO:Hid ((0<ju T k->¬dI X (k:Int))->∀i:Nat,i<k+1->0<ju T i->¬dI X (i:Int)):=λhh i hi=>by
     by_cases e:i=k
     ·rw[e];exact hh
     ·exact U.out i (by omega)
    have jr:Hid (¬(0<ju T k->¬dI X (k:Int))->¬((2:Int)=2/\∀i:Nat,i<32->0<ju T i->¬dI X (i:Int))):=λhh ha=>hh (ha.2 k qA)
    clear W xL G U;generalize ju T k=z at *;by_cases hz:0<z
    ·have VY:(0:Int)<(z:Int):=by omega
     by_cases hf:dI X (k:Int)
     ·rw[bj hf] at V
      have UJ:=ar (jr.out λh=>h hz hf);clear lO jr hf hz;go_wp2_with fail;refine V.out.mono ?_;rintro e w6 ⟨rfl,jz⟩;have HF:=ar (HP.out false _ ⟨(λh=>by cases h),λh=>absurd h UJ.out⟩ (rv.out.trans' jz));clear jz V rv UJ HP;go_wp2_with fail;go_ret;exact HF.out
     ·rw[aT hf] at V
      have HN:=ar (lO.out λ_=>hf);clear lO jr hf hz;go_wp2_with fail;refine V.out.mono ?_;rintro e w6 ⟨rfl,jz⟩;have mX:=ar (rv.out.trans' jz);clear jz V rv;go_wp2_with fail;go_roundg gg;case measure=>omega
      case rel=>exact⟨k+1,by omega,by go_num,mX.out,HN.out⟩
    ·have VY:¬(0:Int)<(z:Int):=by omega
     have HN:=ar (lO.out λh=>absurd h hz);obtain rfl:z=0:=by omega
     clear lO jr hz V;go_wp2_with fail;go_roundg gg;case measure=>omega
     case rel=>exact⟨k+1,by omega,by go_num,rv.out,HN.out⟩
 ·have hb:(K != 2)=true:=bne_iff_ne.2 J
  have HF:=ar (HP.out false _ ⟨(λh=>by cases h),λh=>absurd h.1 J⟩ nK.out);clear LI xL HP J G;go_wp2_with(with_reducible refine gS 110 wj.out ?_);go_ret;exact HF.out
def kH (w:World) (P:Nat->Prop) (e:Ending) (w':World):Prop:=∃k:Nat,e= .returned (.tuple #[.int .i64 (k:Int),.bool (decide (k=0))])/\Gm P k/\k<=7/\ay [] w w'
theorem Qu (w:World):Calls Tryz.prog 40 #[] w λe w'=>e= .returned (.slice (some ⟨w.heap.size,0,none⟩) 7 7)/\ay [] w w'/\
  w'.cell? ⟨w.heap.size,0,none⟩=some (.func (.func 82) #[] #[])/\w'.cell? ⟨w.heap.size,1,none⟩=some (.func (.func 83) #[] #[])/\w'.cell? ⟨w.heap.size,2,none⟩=some (.func (.func 84) #[] #[])/\
  w'.cell? ⟨w.heap.size,3,none⟩=some (.func (.func 85) #[] #[])/\w'.cell? ⟨w.heap.size,4,none⟩=some (.func (.func 86) #[] #[])/\w'.cell? ⟨w.heap.size,5,none⟩=some (.func (.func 87) #[] #[])/\
  w'.cell? ⟨w.heap.size,6,none⟩=some (.func (.func 88) #[] #[])/\w.heap.size<w'.heap.size:=by
 go_enter Tryz.func40,Tryz.ntmps40;go_wp2_with fail;go_ret;exact⟨(by first|trivial|rfl),(ay.refl [] w).alloc _,by rw[(bm.new w _ _).cell];rfl,by rw[(bm.new w _ _).cell];rfl,by rw[(bm.new w _ _).cell];rfl,by rw[(bm.new w _ _).cell];rfl,by rw[(bm.new w _ _).cell];rfl,by rw[(bm.new w _ _).cell];rfl,by rw[(bm.new w _ _).cell];rfl,by simp⟩
theorem J0 (h:fG w b gp B ps T own):
  Calls Tryz.prog 18 #[.pointer (some ⟨b,0,none⟩)] w (kH w (oZ (az B ps) T own)):=by
 have KI:Hid (∀G,ay [] w G->Calls Tryz.prog 82 #[.pointer (some ⟨b,0,none⟩)] G (dg G (oZ (az B ps) T own 0))):=λG Z=>DI (h.keep0 Z).sh
 have Sj:Hid (∀G,ay [] w G->Calls Tryz.prog 83 #[.pointer (some ⟨b,0,none⟩)] G (dg G (oZ (az B ps) T own 1))):=λG Z=>Pw (h.keep0 Z)
 have Uj:Hid (∀G,ay [] w G->Calls Tryz.prog 84 #[.pointer (some ⟨b,0,none⟩)] G (dg G (oZ (az B ps) T own 2))):=λG Z=>C2 (h.keep0 Z)
 have Ot:Hid (∀G,ay [] w G->Calls Tryz.prog 85 #[.pointer (some ⟨b,0,none⟩)] G (dg G (oZ (az B ps) T own 3))):=λG Z=>Aw (h.keep0 Z)
 have Xi:Hid (∀G,ay [] w G->Calls Tryz.prog 86 #[.pointer (some ⟨b,0,none⟩)] G (dg G (oZ (az B ps) T own 4))):=λG Z=>DJ (h.keep0 Z)
 have Kb:Hid (∀G,ay [] w G->Calls Tryz.prog 87 #[.pointer (some ⟨b,0,none⟩)] G (dg G (oZ (az B ps) T own 5))):=λG Z=>DK (h.keep0 Z)
 have M5:Hid (∀G,ay [] w G->Calls Tryz.prog 88 #[.pointer (some ⟨b,0,none⟩)] G (dg G (oZ (az B ps) T own 6))):=λG Z=>D1 (h.keep0 Z)
 clear h;generalize oZ (az B ps) T own=pP at *;go_enter Tryz.func18,Tryz.ntmps18;go_wp2_with fail;refine(Qu _).mono ?_;rintro e w1 ⟨rfl,dc,q0,q1,q2,q3,q4,q5,q6,aa⟩;have iH:=ar dc;have HQ:Hid (∀G,ay [] w1 G->G.cell? ⟨w.heap.size,0,none⟩=some (.func (.func 82) #[] #[])/\G.cell? ⟨w.heap.size,1,none⟩=some (.func (.func 83) #[] #[])/\G.cell? ⟨w.heap.size,2,none⟩=some (.func (.func 84) #[] #[])/\
  G.cell? ⟨w.heap.size,3,none⟩=some (.func (.func 85) #[] #[])/\G.cell? ⟨w.heap.size,4,none⟩=some (.func (.func 86) #[] #[])/\G.cell? ⟨w.heap.size,5,none⟩=some (.func (.func 87) #[] #[])/\
  G.cell? ⟨w.heap.size,6,none⟩=some (.func (.func 88) #[] #[])):=λG Z=>by
  have hb:=Z.block w.heap.size aa (by simp);exact⟨(aL (a:=⟨w.heap.size,0,none⟩) hb).trans q0,(aL (a:=⟨w.heap.size,1,none⟩) hb).trans q1,(aL (a:=⟨w.heap.size,2,none⟩) hb).trans q2,(aL (a:=⟨w.heap.size,3,none⟩) hb).trans q3,(aL (a:=⟨w.heap.size,4,none⟩) hb).trans q4,(aL (a:=⟨w.heap.size,5,none⟩) hb).trans q5,(aL (a:=⟨w.heap.size,6,none⟩) hb).trans q6⟩
 clear dc q0 q1 q2 q3 q4 q5 q6 aa;go_wp2_with fail;go_loopg [8] 7 (λgh s8 G=>∃k:Nat,k+gh=7/\s8= .int .i64 (k:Int)/\Hid (ay [] w1 G/\∀j,j<k->pP j))
 case atStart=>exact⟨0,by omega,rfl,ay.refl _ _,λj hj=>by omega⟩
 case round=>
  obtain⟨k,Z,rfl,HI⟩:=hrel;cases gk with
  |zero=>
   obtain rfl:k=7:=by omega
   have HF:Hid (kH w pP (.returned (.tuple #[.int .i64 0,.bool true])) wr):=⟨0,rfl,.inl ⟨rfl,HI.out.2⟩,by omega,iH.out.trans' HI.out.1⟩;clear HI HQ KI Sj Uj Ot Xi Kb M5;go_wp2_with fail;go_ret2;exact HF.out
  |succ gg=>
   have y:=ar HI.out.2;have V:=ar HI.out.1;obtain⟨q0,q1,q2,q3,q4,q5,q6⟩:=HQ.out _ V.out;have pM:=ar (iH.out.trans' V.out);have AJ:k=0\/k=1\/k=2\/k=3\/k=4\/k=5\/k=6:=by omega
   have ac:=gg;rcases AJ with rfl|rfl|rfl|rfl|rfl|rfl|rfl
   ·obtain rfl:gg=6:=by omega
    have U:=ar (KI.out _ pM.out);clear HI HQ KI Sj Uj Ot Xi Kb M5 q1 q2 q3 q4 q5 q6;go_wp2_with fail;refine U.out.mono ?_;rintro e W ⟨r,rfl,J,z⟩;cases r
    ·have HF:Hid (kH w pP (.returned (.tuple #[.int .i64 1,.bool false])) W):=⟨1,rfl,.inr ⟨by omega,by omega,λh=>(by cases J.2 h),y.out⟩,by omega,pM.out.trans' z⟩
     clear y V J z U;go_wp2_with fail;go_ret2;exact HF.out
    ·have HN:Hid (ay [] w1 W/\∀j,j<1->pP j):=⟨V.out.trans' z,λj hj=>by
      by_cases e:j=0
      ·rw[e];exact J.1 rfl
      ·exact y.out j (by omega)⟩
     clear y V J z U;go_wp2_with fail;go_roundg 6;case measure=>omega
     case rel=>exact⟨1,by omega,by go_num,HN.out⟩
   ·obtain rfl:gg=5:=by omega
    have U:=ar (Sj.out _ pM.out);clear HI HQ KI Sj Uj Ot Xi Kb M5 q0 q2 q3 q4 q5 q6;go_wp2_with fail;refine U.out.mono ?_;rintro e W ⟨r,rfl,J,z⟩;cases r
    ·have HF:Hid (kH w pP (.returned (.tuple #[.int .i64 2,.bool false])) W):=⟨2,rfl,.inr ⟨by omega,by omega,λh=>(by cases J.2 h),y.out⟩,by omega,pM.out.trans' z⟩
     clear y V J z U;go_wp2_with fail;go_ret2;exact HF.out
    ·have HN:Hid (ay [] w1 W/\∀j,j<2->pP j):=⟨V.out.trans' z,λj hj=>by
      by_cases e:j=1
      ·rw[e];exact J.1 rfl
      ·exact y.out j (by omega)⟩
     clear y V J z U;go_wp2_with fail;go_roundg 5;case measure=>omega
     case rel=>exact⟨2,by omega,by go_num,HN.out⟩
   ·obtain rfl:gg=4:=by omega
    have U:=ar (Uj.out _ pM.out);clear HI HQ KI Sj Uj Ot Xi Kb M5 q0 q1 q3 q4 q5 q6;go_wp2_with fail;refine U.out.mono ?_;rintro e W ⟨r,rfl,J,z⟩;cases r
    ·have HF:Hid (kH w pP (.returned (.tuple #[.int .i64 3,.bool false])) W):=⟨3,rfl,.inr ⟨by omega,by omega,λh=>(by cases J.2 h),y.out⟩,by omega,pM.out.trans' z⟩
     clear y V J z U;go_wp2_with fail;go_ret2;exact HF.out
    ·have HN:Hid (ay [] w1 W/\∀j,j<3->pP j):=⟨V.out.trans' z,λj hj=>by
      by_cases e:j=2
      ·rw[e];exact J.1 rfl
      ·exact y.out j (by omega)⟩
     clear y V J z U;go_wp2_with fail;go_roundg 4;case measure=>omega
     case rel=>exact⟨3,by omega,by go_num,HN.out⟩
   ·obtain rfl:gg=3:=by omega
    have U:=ar (Ot.out _ pM.out);clear HI HQ KI Sj Uj Ot Xi Kb M5 q0 q1 q2 q4 q5 q6;go_wp2_with fail;refine U.out.mono ?_;rintro e W ⟨r,rfl,J,z⟩;cases r
    ·have HF:Hid (kH w pP (.returned (.tuple #[.int .i64 4,.bool false])) W):=⟨4,rfl,.inr ⟨by omega,by omega,λh=>(by cases J.2 h),y.out⟩,by omega,pM.out.trans' z⟩
     clear y V J z U;go_wp2_with fail;go_ret2;exact HF.out
    ·have HN:Hid (ay [] w1 W/\∀j,j<4->pP j):=⟨V.out.trans' z,λj hj=>by
      by_cases e:j=3
      ·rw[e];exact J.1 rfl
      ·exact y.out j (by omega)⟩
     clear y V J z U;go_wp2_with fail;go_roundg 3;case measure=>omega
     case rel=>exact⟨4,by omega,by go_num,HN.out⟩
   ·obtain rfl:gg=2:=by omega
    have U:=ar (Xi.out _ pM.out);clear HI HQ KI Sj Uj Ot Xi Kb M5 q0 q1 q2 q3 q5 q6;go_wp2_with fail;refine U.out.mono ?_;rintro e W ⟨r,rfl,J,z⟩;cases r
    ·have HF:Hid (kH w pP (.returned (.tuple #[.int .i64 5,.bool false])) W):=⟨5,rfl,.inr ⟨by omega,by omega,λh=>(by cases J.2 h),y.out⟩,by omega,pM.out.trans' z⟩
     clear y V J z U;go_wp2_with fail;go_ret2;exact HF.out
    ·have HN:Hid (ay [] w1 W/\∀j,j<5->pP j):=⟨V.out.trans' z,λj hj=>by
      by_cases e:j=4
      ·rw[e];exact J.1 rfl
      ·exact y.out j (by omega)⟩
     clear y V J z U;go_wp2_with fail;go_roundg 2;case measure=>omega
     case rel=>exact⟨5,by omega,by go_num,HN.out⟩
   ·obtain rfl:gg=1:=by omega
    have U:=ar (Kb.out _ pM.out);clear HI HQ KI Sj Uj Ot Xi Kb M5 q0 q1 q2 q3 q4 q6;go_wp2_with fail;refine U.out.mono ?_;rintro e W ⟨r,rfl,J,z⟩;cases r
    ·have HF:Hid (kH w pP (.returned (.tuple #[.int .i64 6,.bool false])) W):=⟨6,rfl,.inr ⟨by omega,by omega,λh=>(by cases J.2 h),y.out⟩,by omega,pM.out.trans' z⟩
     clear y V J z U;go_wp2_with fail;go_ret2;exact HF.out
    ·have HN:Hid (ay [] w1 W/\∀j,j<6->pP j):=⟨V.out.trans' z,λj hj=>by
      by_cases e:j=5
      ·rw[e];exact J.1 rfl
      ·exact y.out j (by omega)⟩
     clear y V J z U;go_wp2_with fail;go_roundg 1;case measure=>omega
     case rel=>exact⟨6,by omega,by go_num,HN.out⟩
   ·obtain rfl:gg=0:=by omega
    have U:=ar (M5.out _ pM.out);clear HI HQ KI Sj Uj Ot Xi Kb M5 q0 q1 q2 q3 q4 q5;go_wp2_with fail;refine U.out.mono ?_;rintro e W ⟨r,rfl,J,z⟩;cases r
    ·have HF:Hid (kH w pP (.returned (.tuple #[.int .i64 7,.bool false])) W):=⟨7,rfl,.inr ⟨by omega,by omega,λh=>(by cases J.2 h),y.out⟩,by omega,pM.out.trans' z⟩
     clear y V J z U;go_wp2_with fail;go_ret2;exact HF.out
    ·have HN:Hid (ay [] w1 W/\∀j,j<7->pP j):=⟨V.out.trans' z,λj hj=>by
      by_cases e:j=6
      ·rw[e];exact J.1 rfl
      ·exact y.out j (by omega)⟩
     clear y V J z U;go_wp2_with fail;go_roundg 0;case measure=>omega
     case rel=>exact⟨7,by omega,by go_num,HN.out⟩
def On (s:ic):Prop:=s.now.length=3128/\dD s.now/\∀k:Nat,k<s.now.length->s.refusal (k:Int)=0/\s.load (k:Int)=s.now.getD k 0
def GK (w:World) (b:Nat) (R:ic->World->Prop) (e:Ending) (w':World):Prop:=
 (∃x s,e= .returned (.tuple #[.pointer none,.int .i64 x])/\x=10/\On s/\(∀M,¬∃T own,lQ s.now T own [] M)/\R s w')\/
 (∃f s,e= .returned (.tuple #[.pointer (some ⟨f,0,none⟩),.int .i64 0])/\On s/\W8 w' f b/\w.heap.size<=f/\(∃M T own,lQ s.now T own [] M)/\R s w')
theorem Fk{J:Nat}(hl:X.length=3128)(W:dD X)(Z:eF w b J X [])(z:b<w.heap.size/\J<w.heap.size):
  Calls Tryz.prog 18 #[.pointer (some ⟨b,0,none⟩)] w λe w'=>∃k:Nat,e= .returned (.tuple #[.int .i64 (k:Int),.bool (decide (k=0))])/\ay [] w w'/\Hid (k=0↔∃M T own,lQ X T own [] M):=by
 by_cases V:∃M T own,lQ X T own [] M
 ·obtain⟨M,T,own,CV⟩:=id V
  have y:fG w b J X [] T own:=⟨Z,W,CV.st.gots,z⟩;refine(J0 y).mono ?_;rintro e w' ⟨k,rfl,G,-,U⟩;refine⟨k,rfl,U,λ_=>V,λ_=> ?_⟩;rw[uX] at G;exact G.uniq (.inl ⟨rfl,CV.points⟩)
 ·obtain⟨T,own,hg⟩:=WJ X
  have y:fG w b J X [] T own:=⟨Z,W,hg,z⟩;refine(J0 y).mono ?_;rintro e w' ⟨k,rfl,G,-,U⟩;refine⟨k,rfl,U,λh0=> ?_,λh=>absurd h V⟩;rw[uX] at G;rcases G with ⟨-,h4⟩|⟨h4,-⟩
  ·obtain⟨M,hm⟩:=aay hl W hg h4
   exact⟨M,T,own,hm⟩
  ·omega
theorem Qv{x:Int}{R:World->Prop}(y:x≠0)(h:Calls Tryz.prog 44 #[.pointer (some ⟨b,0,none⟩)] w λe w'=>e= .returned (.int .i64 x)/\R w'):
  Calls Tryz.prog 22 #[.pointer (some ⟨b,0,none⟩)] w λe w'=>e= .returned (.tuple #[.pointer none,.int .i64 x])/\R w':=by
 have H:=ar h;have G:(x != 0)=true:=by simpa using y
 clear h y;go_enter Tryz.func22,Tryz.ntmps22;go_wp2_with fail;refine H.out.mono ?_;rintro e J ⟨rfl,z⟩;go_wp2_with fail;go_ret2;exact⟨rfl,z⟩
theorem J1{R:ic->World->Prop}(hR:∀s wa wb,ay [] wa wb->R s wa->R s wb)(h:Calls Tryz.prog 44 #[.pointer (some ⟨b,0,none⟩)] w λe w'=>e= .returned (.int .i64 0)/\∃s,On s/\dO w' b gn gl gf s/\w.heap.size<=w'.heap.size/\R s w'):
  Calls Tryz.prog 22 #[.pointer (some ⟨b,0,none⟩)] w (GK w b R):=by
 have H:=ar h;have HR:=ar hR;clear h hR;go_enter Tryz.func22,Tryz.ntmps22;go_wp2_with fail;refine H.out.mono ?_;rintro e w1 ⟨rfl,s,G,hp,ac,hr⟩;have aa:=ar G;have Z:=ar hr;have vC:=ar ac;have nJ:=ar (JT hp G.2.2);have J:Hid (∀y f,ay [] w1 y->W8 y f b->w.heap.size<=f->(∃M T own,lQ s.now T own [] M)->GK w b R (.returned (.tuple #[.pointer (some ⟨f,0,none⟩),.int .i64 0])) y):=λy f z hf hw CV=> .inr ⟨f,s,rfl,G,hf,hw,CV,HR.out s w1 y z hr⟩
 have U:Hid (∀y,ay [] w1 y->(¬∃M T own,lQ s.now T own [] M)->GK w b R (.returned (.tuple #[.pointer none,.int .i64 10])) y):=λy z hn=> .inl ⟨10,s,rfl,rfl,G,λM h2=>hn ⟨M,h2⟩,HR.out s w1 y z hr⟩
 have Mc:iQ s.now=s.now:=by
  apply cr (by rw[fc,G.1]);intro k h1 h2;have :=pU s.now k;rw[fc] at h1;rw[aj,aD (by rw[fc];exact h1),eG] at this;rw[this,aB h1,aj,aD h2];rfl
 have S9:Hid (∀y V,eF y V V s.now []->Calls Tryz.prog 18 #[.pointer (some ⟨V,0,none⟩)] y λe w3=>∃k:Nat,e= .returned (.tuple #[.int .i64 (k:Int),.bool (decide (k=0))])/\ay [] y w3/\Hid (k=0↔∃M T own,lQ s.now T own [] M)):=λy V hs=>Fk G.1 G.2.1 hs ⟨hs.raw.lt,hs.raw.lt⟩
 have W:=ar Mc;clear G hp ac hr HR Mc;generalize GK w b R=Q at *;generalize s.now=X at *;go_wp2_with fail;refine nJ.out.mono ?_;rintro e y ⟨v,g,rfl,IE,hg,z⟩;have HN:=pW IE;rw[W.out] at HN;have HN:=ar HN;have fj:=ar z;clear IE hg z nJ W;go_wp2_with fail;refine HN.out.mono ?_;rintro e w3 ⟨V,rfl,tV,sH,z⟩;have HS:=ar (S9.out w3 V sH);have lS:=ar (fj.out.trans' z);clear tV sH z HN S9 fj;go_wp2_with fail;refine HS.out.mono ?_;rintro e w4 ⟨k,rfl,z,Ie⟩;have nK:=ar (lS.out.trans' z);clear z HS lS;by_cases ez:k=0
 ·have HF:Hid (Q (.returned (.tuple #[.pointer (some ⟨w4.heap.size,0,none⟩),.int .i64 0])) (w4.alloc (.cells #[.pointer (some ⟨b,0,none⟩)] 76))):=J.out _ _ (nK.out.alloc _) (bm.new _ _ _) (by have :=nK.out.size;have :=vC.out;omega) (Ie.out.1 ez)
  subst ez;clear J U Ie aa Z vC;go_wp2_with fail;exact HF.out
 ·have hd:decide (k=0)=false:=aT ez
  have HF:=ar (U.out _ nK.out (λh=>ez (Ie.out.2 h)));clear J U Ie aa Z vC ez;go_wp2_with fail;exact HF.out
theorem Un (h:dD X):A8 X:=λx z=>by
 obtain⟨i,y,rfl⟩:=bR z;have :=h i;rw[aj,aD y,eG] at this;omega
theorem zS (h:dO w b gn gl gf (calm xs d))(G:xs.length=3128)(V:A8 xs)(J:xs.getD 8 0=0):
  Calls Tryz.prog 44 #[.pointer (some ⟨b,0,none⟩)] w λe w'=>e= .returned (.int .i64 0)/\ay [] w w':=by
 have W:Gw xs=none:=by
  unfold Gw DU;rw[J,aA];rintro⟨h1,-⟩;simp at h1
 have U:=ar (DV h G V W);have z:=ar (λwx (y:ay [] w wx)=>um (h.keep y (by simp) (by simp)) 8 (by omega) (by rw[G];omega));rw[show(8:Int).toNat=8 from rfl,J] at z;clear h G V W J;go_enter Tryz.func44,Tryz.ntmps44;go_wp2_with fail;refine U.out.mono ?_;rintro e w1 ⟨rfl,y⟩;have qQ:=ar (z.out w1 y);have Z:=ar y;clear y z U;go_wp2_with fail;refine qQ.out.mono ?_;rintro e w' ⟨rfl,rfl⟩;go_wp2_with fail;go_ret;exact⟨rfl,Z.out⟩
theorem A0 (z:X.length=3128)(G:dD X):On (calm X d):=by
 refine⟨z,G,λk y=> ?_⟩;have h:(k:Int)<X.length:=by have :k<X.length:=y;omega
 exact⟨rI (by omega) h,by rw[Fb (by omega) h];rfl⟩
structure Live (W0:World) (f b gn gl gf:Nat) (M:Nat->Nd) (X:List Int) (n:Int) (w:World):Prop where
 fs:W8 w f b
 ws:Mb X M
 pm:∃d,(0<=d/\d<=n)/\dO w b gn gl gf (calm X d)
 keeps:ay [] W0 w
 new:W0.heap.size<=f/\W0.heap.size<=b/\W0.heap.size<=gn/\W0.heap.size<=gl/\W0.heap.size<=gf
 off:f∉[b,gn,gl,gf]
theorem Live.keep{U:World}(h:Live U f b gn gl gf M X n w){l:List Nat}(J:ay l w w')(V:∀y∈l,U.heap.size<=y/\y∉[f,b,gn,gl,gf]):Live U f b gn gl gf M X n w':=by
 obtain⟨d,W,Z⟩:=h.pm;have z:∀y,y∈[f,b,gn,gl,gf]->y∉l:=λy G hm=>(V y hm).2 G
 exact⟨h.fs.keep J (z _ (by simp)),h.ws,⟨d,W,Z.keep J (z _ (by simp)) (λ_=>⟨z _ (by simp),z _ (by simp),z _ (by simp)⟩)⟩,h.keeps.trans J (λy G=> .inr (V y G).1),h.new,h.off⟩
theorem Live.keep0{y:World}(h:Live y f b gn gl gf M X n w)(z:ay [] w w'):Live y f b gn gl gf M X n w':=h.keep z (by simp)
def ac5 (h:World) (f b gn gl gf:Nat) (M:Nat->Nd) (X:List Int) (n:Int) (o:qR) (w:World) (e:Ending) (w':World):Prop:=
 ∃r Z,e= .returned (.agg Z)/\vX w.heap.size w' r Z/\ay [b,gn,gl,gf] w w'/\
  ((r.E≠0/\Live h f b gn gl gf M X n w'/\((r.E=7/\r=fH 7/\GD o.K=true/\((xM M o).2.E=0\/(xM M o).2.E=7)/\((bb X).length<40\/(xM M o).2.E=7))\/r=(xM M o).2))\/
  (r.E=0/\(xM M o).2.E=0/\aaE o r (xM M o).2/\∃y,Live h f b gn gl gf (xM M o).1 y (n+3000) w'))
theorem Qw{W0:World}{o:qR}{vp vq vd:Value}(Dt:GH M o)(h:Live W0 f b gn gl gf M X n w)(hT:kI W0)(hn:n<=1000000000)(hI:L9 w o vp vq vd):
  Calls Tryz.prog 12 #[.pointer (some ⟨f,0,none⟩),.agg (Qa o vp vq vd)] w (ac5 W0 f b gn gl gf M X n o w):=by
 obtain⟨d,hd,hp⟩:=h.pm;have G:=h.ws.len;have af:=hp.old (by show X.length≠0;omega);have Kd:∀y∈[b,gn,gl,gf],y<w.heap.size:=λy V=>by
  simp only[aS,aV,bL] at V;omega
 have sZ:=A0 (d:=d) G h.ws.w64;have aa:=WM h.ws.tree h.ws.few (o:=o) hI.ds;refine(W9 (X:=X) (M:=M) (ks:=[b,gn,gl,gf]) (C:=λps x w'=>x=0/\dO w' b gn gl gf (calm (kz X ps) (d+(xQ ps:Nat)))) Dt h.fs hp rfl sZ.2.2 h.ws (hT.keep h.keeps) hI Kd ?_ ?_).mono ?_
 ·rintro ps x wa wb l hl z ⟨rfl,U⟩
  have QK:∀y,y∈[b,gn,gl,gf]->y∉l:=λy V hm=>by have :=hl y hm;have :=Kd y V;omega
  exact⟨rfl,U.keep z (QK _ (by simp)) (λ_=>⟨QK _ (by simp),QK _ (by simp),QK _ (by simp)⟩)⟩
 ·intro w1 v g qs r0 z hO h0 hr hg
  obtain⟨-,-,hl⟩:=hO.E_zero h0;obtain⟨c1,c2,c3,-,-⟩:=h.ws.lands hl aa.1;refine(PL (hp.keep z (by simp) (by simp)) hd.1 (by omega) G hr c1 c2 c3 (λ_ hm=>by have :=Kd _ hm;omega)).mono ?_;rintro e w2 ⟨rfl,U,h2⟩;exact⟨0,rfl,h2,rfl,U⟩
 ·rintro e w' ⟨r,Z,rfl,U,⟨z,h2,r0,qs,hO,rfl⟩|⟨z,r0,qs,x,hO,h0,⟨rfl,ac⟩,⟨-,rfl⟩|⟨hx,-⟩⟩⟩
  ·refine⟨_,Z,rfl,U,z.mono (by simp),.inl ⟨h2,h.keep0 z,?_⟩⟩
   have ae:r0.E≠0:=h2;rcases hO with ⟨J,W,a3,a4⟩|⟨J,W⟩|⟨J,-⟩
   ·exact .inl ⟨J,by rw[J],W,a3,a4⟩
   ·exact .inr W.symm
   ·exact absurd J ae
  ·obtain⟨J,W,hl⟩:=hO.E_zero h0
   obtain⟨c1,c2,c3,c4,-⟩:=h.ws.lands hl aa.1;have NU:=Nw (cA X (az X qs) 3128);refine⟨r,Z,rfl,U,z,.inr ⟨h0,J,W,_,h.fs.keep z h.off,c4,⟨_,⟨by omega,by omega⟩,ac⟩,h.keeps.trans z λy V=> .inr ?_,h.new,h.off⟩⟩;have :=h.new;simp only[aS,aV,bL] at V;omega
  ·exact absurd rfl hx
def xF (J:Array Value):List Value:=[.func (.func 54) #[.agg J] #[],.func (.func 55) #[.agg J] #[],.func (.func 56) #[.agg J] #[],.func (.func 57) #[.agg J] #[],.func (.func 58) #[.agg J] #[],.func (.func 59) #[.agg J] #[],.func (.func 60) #[.agg J] #[],.func (.func 61) #[.agg J] #[],.func (.func 62) #[.agg J] #[],.func (.func 63) #[.agg J] #[],.func (.func 64) #[.agg J] #[],.func (.func 65) #[.agg J] #[],.func (.func 66) #[.agg J] #[]]
theorem Uo (J:Array Value):∀u∈xF J,u.oneCell'=true:=by
 intro u h;simp only[xF,aS,aV,bL] at h;rcases h with rfl|rfl|rfl|rfl|rfl|rfl|rfl|rfl|rfl|rfl|rfl|rfl|rfl<;>rfl
theorem Qx:(Tryz.prog.info? 115).map (·.size)=some 13:=by kernel_rfl
theorem Mj (w:World)(J Z:Array Value)(h:Z.size=13):∃w',(storeVar 115 ⟨w.heap.size,0,none⟩ (.agg (xF J).toArray)).run Tryz.prog (w.alloc (.cells Z 115))= .ok () w'/\bm w' w.heap.size (xF J).toArray 115/\ay [w.heap.size] (w.alloc (.cells Z 115)) w':=
 br (P:= Tryz.prog) (cs:=xF J) (by exact Qx) (bm.new _ _ _) (by rw[h];rfl) (Uo J)
theorem Up (w:World)(b:Nat){o:qR}(h vq vd:Value){k:Nat}(hK:o.K=(k:Int))(hk:k<13):
  Calls Tryz.prog 29 #[.agg (ix b o h vq vd)] w λe w'=>e= .returned ((xF (ix b o h vq vd)).getD k undef)/\ay [] w w':=by
 have z:=bm.new w (ix b o h vq vd) 79;have c1:(w.alloc (.cells (ix b o h vq vd) 79)).cell? ⟨w.heap.size,1,none⟩=some (.int .i64 o.K):=by rw[z.cell];rfl
 have U:Hid (∀V,ay [] (w.alloc (.cells (ix b o h vq vd) 79)) V->(loadVar 79 ⟨w.heap.size,0,none⟩).run Tryz.prog V= .ok (.agg (ix b o h vq vd)) V):=λV hk=>xC (z.keep hk (by simp))
 obtain⟨W,hW⟩:∃W,w.alloc (.cells (ix b o h vq vd) 79)=W:=⟨_,rfl⟩;rw[hW] at z c1 U;have JY:=ar (U.out W (ay.refl _ _));generalize hJ:ix b o h vq vd=J at *;obtain⟨y,q1,q2,q3⟩:=Mj W J #[.nilFunc,.nilFunc,.nilFunc,.nilFunc,.nilFunc,.nilFunc,.nilFunc,.nilFunc,.nilFunc,.nilFunc,.nilFunc,.nilFunc,.nilFunc] rfl;have Z:ay [] W y:=((ay.refl _ _).alloc _).trans q3 (by intro x hx;rw[au] at hx;omega);have G:ay [] w y:=by
  have :ay [] w W:=by rw[<-hW];exact(ay.refl _ _).alloc _
  exact this.trans' Z
 have c2:y.cell? ⟨w.heap.size,1,none⟩=some (.int .i64 o.K):=by rw[(z.keep Z (by simp)).cell,<-hJ];rfl
 have aa:=ar (U.out y Z);have HS:=ar q1;have fj:=ar G;have c5:y.cell? ⟨W.heap.size,k,none⟩=some ((xF J).getD k undef):=by
  rw[q2.cell,aC,aj,aD (show k<(xF J).length from hk)];rfl
 rw[hK] at c2;have b1:(0:Int)<=(k:Int):=by omega
 have b2:(k:Int)<13:=by omega
 have b3:decide ((k:Int)<0)=false:=aT (by omega);have b4:¬(13:Int)<=(k:Int):=by omega
 clear U q1 q2 q3 Z G z c1 hJ hK;generalize (xF J).getD k undef=fv at *;go_enter Tryz.func29,Tryz.ntmps29;go_wp2_with(first|(with_reducible refine gL 79 JY.out ?_)|(with_reducible refine gS 115 HS.out ?_));go_ret;exact⟨rfl,fj.out⟩
def Mk (w:World) (e:Ending) (w':World):Prop:=
 ∃f b gn gl gf Y,e= .returned (.tuple #[.pointer (some ⟨f,0,none⟩),.pointer (some ⟨b,0,none⟩)])/\Live w f b gn gl gf Au Y 3520 w'/\(bb Y).length=255
theorem Uq (hT:kI w){k:Int}(W:k=1\/k=2):Calls Tryz.prog 11 #[.int .i64 k] w (Mk w):=by
 have Z:=Ra w 3128;rw[show pj 3128=3128 from rfl] at Z;have Z:=ar Z;have Zj:Hid (∀J b gn gl gf,ay [] w J->(w.heap.size<=b/\w.heap.size<=gn/\w.heap.size<=gl/\w.heap.size<=gf)->dO J b gn gl gf (calm (List.replicate 3128 0) 0)->Calls Tryz.prog 24 #[.pointer (some ⟨b,0,none⟩),.int .i64 k] J λe V=>e= .returned (.int .i64 0)/\Hid (∃Y,Calls Tryz.prog 22 #[.pointer (some ⟨b,0,none⟩)] V λe w3=>∃f,e= .returned (.tuple #[.pointer (some ⟨f,0,none⟩),.int .i64 0])/\Hid (Mk w (.returned (.tuple #[.pointer (some ⟨f,0,none⟩),.pointer (some ⟨b,0,none⟩)])) w3))):=λJ b gn gl gf xJ G hp=>by
  refine(Uk hp (by omega) (by omega) (by simp) (hT.keep xJ) W).mono ?_;rintro e V ⟨rfl,Y,z,uP,C9,aa⟩;refine⟨rfl,Y,?_⟩;have ho:=C9.old (by show Y.length≠0;have :=z.len;omega);refine(J1 (b:=b) (gn:=gn) (gl:=gl) (gf:=gf) (R:=λs wx=>s=calm Y (0+3520)/\dO wx b gn gl gf s/\ay [] V wx) (λs wa wb W ⟨h1,h2,h3⟩=>⟨h1,h2.keep W (by simp) (by simp),h3.trans' W⟩) ?_).mono ?_
  ·refine(zS C9 z.len (Un z.w64) z.1).mono ?_
   rintro e w3 ⟨rfl,h⟩;have DT:=C9.keep h (by simp) (by simp);exact⟨rfl,_,A0 z.len z.w64,DT,h.size,rfl,DT,h⟩
  ·rintro e w3 (⟨x,s,rfl,rfl,-,ac,rfl,-⟩|⟨f,s,rfl,-,hf,ae,-,rfl,DT,h⟩)
   ·exfalso
    obtain⟨-,T,own,CV⟩:=z;exact ac _ ⟨T,own,CV⟩
   ·refine⟨f,rfl,f,b,gn,gl,gf,Y,rfl,⟨hf,z,⟨_,⟨by omega,by omega⟩,DT⟩,?_,?_,?_⟩,uP⟩
    ·have h1:ay [] w V:=xJ.trans aa λy hy=> .inr (by simp only[aS,aV,bL] at hy;omega)
     exact h1.trans' h
    ·have :=xJ.size
     have :=aa.size;exact⟨by omega,G.1,G.2.1,G.2.2.1,G.2.2.2⟩
    ·intro U
     simp only[aS,aV,bL] at U;omega
 clear hT W;generalize Mk w=Q at *;go_enter Tryz.func11,Tryz.ntmps11;go_wp2_with fail;refine Z.out.mono ?_;rintro e J ⟨b,gn,gl,gf,rfl,hp,G,dc⟩;rw[bh] at hp;have HF:=ar (Zj.out J b gn gl gf dc G (by unfold calm;rw[bh];exact hp));clear hp G dc Z Zj;go_wp2_with fail;refine HF.out.mono ?_;rintro e V ⟨rfl,U⟩;obtain⟨Y,U⟩:=U.out;have HM:=ar U;clear U HF;go_wp2_with fail;refine HM.out.mono ?_;rintro e w3 ⟨f,rfl,hq⟩;clear HM;go_wp2_with fail;exact hq.out
theorem Qy (M:Nat->Nd){o:qR}(z:o.K=0):GH M o:=by
 intro w b gp B T own Z vq vd h J V;refine(Up w b Z vq vd (k:=0) z (by omega)).mono ?_;rintro e w' ⟨rfl,G⟩;refine⟨_,rfl,G,CX Tryz.func54 rfl rfl _,λw2 y=> ?_⟩;obtain⟨⟨g1,U⟩,W,⟨g3,a3⟩,a4,⟨g5,a5⟩,a6⟩:=V.keep y;exact JZ (h.keep0 y) J U W z
def opA (nm:ByteArray):qR:=⟨0,[nm],[],0,0,[]⟩
theorem aaS:(xM Au (opA ⟨#[97]⟩)).2.E=0/\(xM Au (opA ⟨#[97]⟩)).2.N=1:=by
 rw[GG (.inl rfl)]
 decide+kernel
theorem Ur (w:World):(zeroValue 37).run Tryz.prog w= .ok (.agg #[.int .i64 0,.slice none 0 0,.slice none 0 0,.int .i64 0,.int .i64 0,.slice none 0 0]) w:=by kernel_rfl
theorem Ml (w:World)(g:Nat):jQ w (.slice none 0 0) g []:=⟨none,0,rfl,by simp,by simp[maxLen],λh=>absurd rfl h⟩
theorem Us (w:World)(s:ByteArray)(T:Nat):jQ (w.alloc (.cells #[.string s] T)) (.slice (some ⟨w.heap.size,0,none⟩) 1 1) w.heap.size [s]:=by
 have h:=bm.new w #[.string s] T;refine⟨some ⟨w.heap.size,0,none⟩,1,rfl,aG _,by unfold maxLen;omega,λ_=>⟨h.lt,0,rfl,λj y=> ?_⟩⟩;rw[h.cell,aX,<-aC];rfl
theorem Qz (E N K L I:Int)(vd h:Value)(w:World):(Instr.field 34 (.agg #[.int .i64 E,.int .i64 N,.int .i64 K,.int .i64 L,.int .i64 I,vd,h]) 1).run Tryz.prog w= .ok (.int .i64 N) w:=by kernel_rfl
theorem Mm (W:kI w):Calls Tryz.prog 9 #[] w λe w'=>e= .returned (.bool true)/\ay [] w w':=by
 have xL:=ar (Uq W (k:=1) (.inl rfl));have J:=ar W;clear W;go_enter Tryz.func9,Tryz.ntmps9;go_wp2_with fail;refine xL.out.mono ?_;rintro e y ⟨f,b,gn,gl,gf,Y,rfl,hl,uP⟩;have hk:ay [] y (y.alloc (.cells #[.string ⟨#[97]⟩] 9)):=(ay.refl _ _).alloc _;have hI:L9 (y.alloc (.cells #[.string ⟨#[97]⟩] 9)) (opA ⟨#[97]⟩) (.slice (some ⟨y.heap.size,0,none⟩) 1 1) (.slice none 0 0) (.slice none 0 0):=
  ⟨⟨_,Us _ _ _⟩,λs hs=>by rw[au.1 hs];decide,⟨0,Ml _ _⟩,by simp[opA],⟨0,vW _ _⟩,by simp[opA]⟩
 have U:=Qw (Qy _ rfl) (hl.keep0 hk) J.out (by omega) hI;have z:Hid (Calls Tryz.prog 12 #[.pointer (some ⟨f,0,none⟩),.agg #[.int .i64 0,.slice (some ⟨y.heap.size,0,none⟩) 1 1,.slice none 0 0,.int .i64 0,.int .i64 0,.slice none 0 0]] (y.alloc (.cells #[.string ⟨#[97]⟩] 9)) λe w'=>∃E K L I vd G,e= .returned (.agg #[.int .i64 E,.int .i64 1,.int .i64 K,.int .i64 L,.int .i64 I,vd,G])/\Hid (ay [] w w')):=by
  show Calls _ _ _ _ _;refine U.mono ?_;rintro e w' ⟨r,Z,rfl,⟨vd,G,rfl,-⟩,-,h⟩;obtain⟨e1,e2⟩:=aaS;have hN:r.N=1/\ay [] w w':=by
   rcases h with ⟨h0,h1,⟨-,-,-,-,V⟩|rfl⟩|⟨-,-,V,X',h6⟩
   ·rw[uP,e1] at V
    omega
   ·exact absurd e1 h0
   ·refine⟨?_,h6.keeps⟩
    rcases V with rfl|⟨h7,-⟩
    ·exact e2
    ·exact absurd h7 (by decide)
  refine⟨r.E,r.K,r.L,r.I,vd,G,?_,hN.2⟩;rw[QU,hN.1]
 have ac:=Ur;clear hl uP hk hI U xL J;go_wp2_with fail;refine z.out.mono ?_;rintro e w2 ⟨E,K,L,I,vd,G,rfl,aa⟩;have ae:=Qz E 1 K L I vd G;clear z;go_wp2_with fail;go_ret;exact⟨rfl,aa.out⟩
theorem QA{s:ic}(h:dO w b gn gl gf s)(sZ:On s):
  Calls Tryz.prog 26 #[.pointer (some ⟨b,0,none⟩)] w (gC w s.now):=by
 have H:=ar h;have Pp:=ar sZ.2.2;have hm:=h.n9;have xK:=ar (λV (hk:ay [] w V)=>Bc (h.keep hk (by simp) (by simp)));clear sZ;generalize GY:s.now=xs at *;obtain⟨m,U⟩:∃m,xs.length=m:=⟨_,rfl⟩;rw[U] at xK Pp hm;have BD:=ar (xK.out w (ay.refl _ _));have rO:=sM m (by omega) (m:Int) rfl m (.inr rfl) w;have G:=vT w m (by omega);rw[show List.replicate m (0:Int)=cU 0 xs 0 by rw[iM,U]] at G;have G:=ar G;have z:=ar U;generalize madeCells #[Value.int .u64 0] m=mc at *;clear h GY U;go_enter Tryz.func26,Tryz.ntmps26;go_wp2_with(go_at_call 46;refine BD.out.mono ?_;rintro e w' ⟨rfl,rfl⟩);go_loopg [4,5,6] m (λgh s4 s5 s6 V=>∃k:Nat,k+gh=m/\s4= .int .i64 (k:Int)/\
  Hid (eE V (.slice (some ⟨w.heap.size,0,none⟩) m m) w.heap.size 55 1 m (aR (cU 0 xs k))/\ay [] w V))
 case atStart=>exact⟨0,by omega,rfl,G.out,(ay.refl _ _).alloc _⟩
 case round=>
  obtain⟨k,hk,rfl,y⟩:=hrel;have qQ:=ar (xK.out wr y.out.2);cases gk with
  |zero=>
   obtain rfl:k=m:=by omega
   have W:¬(k:Int)<(k:Int):=by omega
   have aa:Hid (gC w xs (.returned (.slice (some ⟨w.heap.size,0,none⟩) k k)) wr):=by
    obtain⟨ho,eI⟩:=y.out;have e:cU 0 xs k=xs:=by
     have :=jl (0:Int) xs;rwa[z.out] at this
    rw[e] at ho;exact⟨_,_,rfl,ho.reads,aG _,eI⟩
   go_wp2_with fail;refine qQ.out.mono ?_;rintro e w' ⟨rfl,rfl⟩;go_wp2_with fail;go_ret;exact aa.out
  |succ gg=>
   have W:(k:Int)<(m:Int):=by omega
   have Z:=Fp (H.out.keep y.out.2 (by simp) (by simp)) (k:Int);rw[(Pp.out k (by omega)).1,(Pp.out k (by omega)).2] at Z;have HL:=ar Z;have hl:=iU (0:Int) xs k (by rw[z.out];omega);rw[z.out] at hl;obtain⟨-,-,hc,hf⟩:=y.out.1.cell (by omega);have d0:=(hc k (by omega)).trans (cC (l:=cU 0 xs k) (by omega));have f0:=hf k;have HE:=ar (iN (0:Int) xs k (by rw[z.out];omega) (xs.getD k 0) (by simp[show k<xs.length by rw[z.out];omega]));generalize (cU 0 xs k).getD k 0=o1 at *;have J:=y.out.1.set k (.int .u64 (xs.getD k 0));rw[jw] at J;have J:=ar J;have gI:=ar y.out.2;generalize xs.getD k 0=x at *;clear hc hf hl y Z;go_wp2_with fail;refine qQ.out.mono ?_;rintro e w' ⟨rfl,rfl⟩;go_wp2_with(go_at_call 52;refine HL.out.mono ?_;rintro e w' ⟨rfl,rfl⟩);go_roundg gg;case measure=>omega
   case rel=>
    refine⟨k+1,by omega,by go_num,?_,gI.out.setCell (.inr (aG _)) _⟩;rw[<-HE.out];exact J.out
theorem zT:∀l:List Int,dirtyN l l=0
 | []=>rfl
 |a::l=>by simp[dirtyN,zT l]
theorem C3 (h:dO w b gn gl gf (calm xs d)):
  Calls Tryz.prog 27 #[.pointer (some ⟨b,0,none⟩)] w λe w'=>e= .returned (.int .i64 0)/\∃n,w'=w.drewN n:=by
 have :=Q0 h;rw[show(calm xs d).dirtyN=0 from zT xs] at this;exact this
theorem Xj (h:dO w b gn gl gf (calm xs d))(hx:xs.length=3128){f:Int}(hf:¬(f=1\/f=2)):
  Calls Tryz.prog 24 #[.pointer (some ⟨b,0,none⟩),.int .i64 f] w λe w'=>e= .returned (.int .i64 1)/\ay [] w w':=by
 have HN:=ar (pW (w:=w) (v:= .slice none 0 0) (g:=0) (ws:=[]) ⟨none,0,rfl,aG _,by simp[maxLen],λh=>absurd rfl h⟩);have HL:=ar (λwx (G:ay [] w wx)=>xy (h.keep G (by simp) (by simp)) hx);have Ul:Hid (∀z J,w.heap.size<=J->ay [] w z->eF z J J (iQ []) []->Calls Tryz.prog 47 #[.pointer (some ⟨J,0,none⟩),.int .i64 f] z λe V=>e= .returned (.int .i64 1)/\ay [] w V):=λz J hb G U=>by
  refine(TN U ⟨U.raw.lt,U.raw.lt⟩ (by simp) f (zM U (qN 1))).mono ?_;rintro e V ⟨r,qs,gp,rfl,hg,aa,W,-,Z⟩;rcases Z with ⟨rfl,-,-⟩|⟨-,h1,-⟩
  ·exact⟨rfl,G.trans W λy hy=> .inr (by simp only[aS,aV,bL,or_self] at hy;omega)⟩
  ·exact absurd h1 hf
 clear h hx hf;go_enter Tryz.func24,Tryz.ntmps24;go_wp2_with fail;refine HN.out.mono ?_;rintro e z ⟨J,rfl,tV,sH,G⟩;have qQ:=ar (HL.out z G);have HA:=ar (Ul.out z J tV G sH);clear G HL HN Ul sH tV;go_wp2_with fail;refine qQ.out.mono ?_;rintro e w' ⟨rfl,rfl⟩;go_wp2_with fail;refine HA.out.mono ?_;rintro e V ⟨rfl,Z⟩;go_wp2_with fail;go_ret;exact⟨rfl,Z⟩
theorem J2:¬∃M T own,lQ (List.replicate 3128 0) T own [] M:=by
 rintro⟨M,T,own,h⟩;have z:=h.st.sup.1;have y:∀n:Nat,(List.replicate n (0:Int)).getD 0 0=0:=λn=>by cases n<;>rfl
 rw[y] at z;omega
def Yt (w:World) (b gn gl gf:Nat) (h:Prop) (w':World):Prop:=∃Y d,Y.length=3128/\dD Y/\dO w' b gn gl gf (calm Y d)/\ay [] w w'/\((∃M T own,lQ Y T own [] M)↔h)
theorem Mn (hT:kI w){x:Int}(hx:0<=x/\x<=65535)(f:Int):
  Calls Tryz.prog 8 #[.int .u16 x,.int .i64 f] w λe w'=>e= .returned (.bool true)/\ay [] w w':=by
 have ah:=ar (Mm hT);have ai:=ar hT;obtain⟨k,hk⟩:∃k:Nat,x.tmod 5000=(k:Int):=⟨(x.tmod 5000).toNat,by rw[fW (Int.tmod_nonneg _ hx.1)]⟩;have jG:k<5000:=by have :=Int.tmod_lt_of_pos x (show(0:Int)<5000 by omega);omega
 have Mg:=ar (λwx=>Ra wx (k:Int));rw[show pj (k:Int)=k by unfold pj;omega] at Mg;have ap:IntKind.u16.wrap (k:Int)=(k:Int):=by rw[IntKind.wrap_u16];omega
 clear hT;go_enter Tryz.func8,Tryz.ntmps8;go_wp2_with fail;refine ah.out.mono ?_;rintro e w1 ⟨rfl,dc⟩;have iH:=ar dc;clear dc ah;go_wp2_with fail;refine(Mg.out w1).mono ?_;rintro e w2 ⟨b,gn,gl,gf,rfl,hp,pk,ae⟩;rw[bh] at hp;have hp:dO w2 b gn gl gf (calm (List.replicate k 0) 0):=by unfold calm;rw[bh];exact hp
 have mY:=iH.out.trans' ae;by_cases G:k=3128
 ·subst G
  have ho:=hp.old (by show(List.replicate 3128 (0:Int)).length≠0;rw[bh];omega);have OS:(List.replicate 3128 (0:Int)).length=3128:=bh;have hz:∀n i:Nat,(List.replicate n (0:Int)).getD i 0=0:=λn i=>by
   rw[aj,aY];split<;>rfl
  have Xk:dD (List.replicate 3128 0):=λi=>by rw[hz];omega
  have HM:Hid (Calls Tryz.prog 22 #[.pointer (some ⟨b,0,none⟩)] w2 λe U=>e= .returned (.tuple #[.pointer none,.int .i64 10])/\Hid (dO U b gn gl gf (calm (List.replicate 3128 0) 0)/\ay [] w2 U)):=by
   show Calls _ _ _ _ _;refine(J1 (b:=b) (gn:=gn) (gl:=gl) (gf:=gf) (R:=λs wx=>s=calm (List.replicate 3128 0) 0/\dO wx b gn gl gf s/\ay [] w2 wx) (λs wa wb hk ⟨h1,h2,h3⟩=>⟨h1,h2.keep hk (by simp) (by simp),h3.trans' hk⟩) ?_).mono ?_
   ·refine(zS hp OS (Un Xk) (hz _ _)).mono ?_
    rintro e U ⟨rfl,G⟩;have DT:=hp.keep G (by simp) (by simp);exact⟨rfl,_,A0 OS Xk,DT,G.size,rfl,DT,G⟩
   ·rintro e U (⟨x,s,rfl,rfl,-,au,rfl,h1,h2⟩|⟨fq,s,rfl,-,hf,aq,CV,rfl,DT,G⟩)
    ·exact⟨rfl,h1,h2⟩
    ·exact absurd CV J2
  have Ac:∀y,y∈[b,gn,gl,gf]->w1.heap.size<=y:=λy hy=>by simp only[aS,aV,bL] at hy;omega
  have yj:Hid (∀w4 Y d,Y.length=3128->dD Y->dO w4 b gn gl gf (calm Y d)->Calls Tryz.prog 26 #[.pointer (some ⟨b,0,none⟩)] w4 λe w5=>∃v,e= .returned v/\Hid (ay [] w4 w5/\Calls Tryz.prog 25 #[v] w5 λe w6=>∃bs,e= .returned (.pointer (some ⟨bs,0,none⟩))/\Hid (ay [] w4 w6/\Calls Tryz.prog 18 #[.pointer (some ⟨bs,0,none⟩)] w6 λe w7=>∃k:Nat,e= .returned (.tuple #[.int .i64 (k:Int),.bool (decide (k=0))])/\Hid (ay [] w4 w7/\(k=0↔∃M T own,lQ Y T own [] M)/\dO w7 b gn gl gf (calm Y d))))):=λw4 Y d hl eT Ym=>by
   have sZ:=A0 (d:=d) hl eT;refine(QA Ym sZ).mono ?_;rintro e w5 ⟨v,g,rfl,hr,hg,jG⟩;refine⟨v,rfl,jG,?_⟩;have Mc:iQ Y=Y:=by
    apply cr (by rw[fc,hl]);intro j h1 h2;have :=pU Y j;rw[fc] at h1;rw[aj,aD (by rw[fc];exact h1),eG] at this;rw[this,aB h1,aj,aD h2];rfl
   have hN:=pW hr;rw[show(calm Y d).now=Y from rfl,Mc] at hN;refine hN.mono ?_;rintro e w6 ⟨bs,rfl,tV,sH,jz⟩;refine⟨bs,rfl,jG.trans' jz,?_⟩;refine(Fk hl eT sH ⟨sH.raw.lt,sH.raw.lt⟩).mono ?_;rintro e w7 ⟨j,rfl,AJ,Ie⟩;have ag:=(jG.trans' jz).trans' AJ;exact⟨j,rfl,ag,Ie.out,Ym.keep ag (by simp) (by simp)⟩
  have Re:(f=1\/f=2)\/¬(f=1\/f=2):=Classical.em _;have Zj:Hid (∀U,dO U b gn gl gf (calm (List.replicate 3128 0) 0)->ay [] w2 U->((f=1\/f=2)->Calls Tryz.prog 24 #[.pointer (some ⟨b,0,none⟩),.int .i64 f] U λe w4=>e= .returned (.int .i64 0)/\Hid (Yt w b gn gl gf True w4))/\(¬(f=1\/f=2)->Calls Tryz.prog 24 #[.pointer (some ⟨b,0,none⟩),.int .i64 f] U λe w4=>e= .returned (.int .i64 1)/\Hid (Yt w b gn gl gf False w4))):=λU DT G=>by
   have yr:=mY.trans' G;refine⟨λhf=> ?_,λhf=> ?_⟩
   ·refine(Uk DT (by omega) (by omega) OS (ai.out.keep yr) hf).mono ?_
    rintro e w4 ⟨rfl,Y,hY,-,Ym,J⟩;refine⟨rfl,Y,_,hY.len,hY.w64,Ym,yr.trans J λy hy=> .inr (by have :=Ac y hy;have :=iH.out.size;omega),λ_=>trivial,λ_=> ?_⟩;obtain⟨-,T,own,CV⟩:=hY;exact⟨_,T,own,CV⟩
   ·refine(Xj DT OS hf).mono ?_
    rintro e w4 ⟨rfl,J⟩;exact⟨rfl,_,0,OS,Xk,DT.keep J (by simp) (by simp),yr.trans' J,λh=>absurd h J2,λh=>h.elim⟩
  clear hp ho OS hz Xk pk ae mY Ac Mg hx;go_wp2_with fail;refine HM.out.mono ?_;rintro e U ⟨rfl,z⟩;have aa:=ar (Zj.out U z.out.1 z.out.2);clear z HM Zj;rcases Re with(rfl|rfl)|hf
  iterate 2
   ·have M4:=ar (aa.out.1 (by omega))
    clear aa;go_wp2_with fail;refine M4.out.mono ?_;rintro e w4 ⟨rfl,z⟩;obtain⟨Y,d,W,Z,V,y4,y5⟩:=z.out;have HW:=ar (yj.out w4 Y d W Z V);have HY:Hid (ay [] w w4/\∃M T own,lQ Y T own [] M):=⟨y4,y5.2 trivial⟩;clear z W Z V y4 y5 yj M4;go_wp2_with fail;refine HW.out.mono ?_;rintro e w5 ⟨v,rfl,z⟩;have Mg:=ar z.out.2;clear z HW;go_wp2_with fail;refine Mg.out.mono ?_;rintro e w6 ⟨bs,rfl,z⟩;have S9:=ar z.out.2;clear z Mg;go_wp2_with fail;refine S9.out.mono ?_;rintro e w7 ⟨j,rfl,z⟩;obtain⟨W,Z,V⟩:=z.out;obtain rfl:=Z.2 HY.out.2;have ac:=ar (C3 V);have af:=ar (HY.out.1.trans' W);clear z W Z V S9 HY;go_wp2_with fail;refine ac.out.mono ?_;rintro e w8 ⟨rfl,n,rfl⟩;go_wp2_with fail;go_ret;exact⟨rfl,af.out.drewN n⟩
  ·have M4:=ar (aa.out.2 hf)
   have b1:(f==1)=false:=by simp only[cg];omega
   have b2:(f==2)=false:=by simp only[cg];omega
   clear aa hf;go_wp2_with fail;refine M4.out.mono ?_;rintro e w4 ⟨rfl,z⟩;obtain⟨Y,d,W,Z,V,y4,y5⟩:=z.out;have HW:=ar (yj.out w4 Y d W Z V);have HY:Hid (ay [] w w4/\¬∃M T own,lQ Y T own [] M):=⟨y4,λh=>y5.1 h⟩;clear z W Z V y4 y5 yj M4;go_wp2_with fail;refine HW.out.mono ?_;rintro e w5 ⟨v,rfl,z⟩;have Mg:=ar z.out.2;clear z HW;go_wp2_with fail;refine Mg.out.mono ?_;rintro e w6 ⟨bs,rfl,z⟩;have S9:=ar z.out.2;clear z Mg;go_wp2_with fail;refine S9.out.mono ?_;rintro e w7 ⟨j,rfl,z⟩;obtain⟨W,Z,V⟩:=z.out;have hj:decide (j=0)=false:=aT λh=>HY.out.2 (Z.1 h)
   have ac:=ar (C3 V);have af:=ar (HY.out.1.trans' W);clear z W Z V S9 HY;go_wp2_with fail;refine ac.out.mono ?_;rintro e w8 ⟨rfl,n,rfl⟩;go_wp2_with fail;go_ret;exact⟨rfl,af.out.drewN n⟩
 ·have HM:Hid (Calls Tryz.prog 22 #[.pointer (some ⟨b,0,none⟩)] w2 λe U=>e= .returned (.tuple #[.pointer none,.int .i64 1])/\w2=U):=Qv (by omega) (LU hp (by show(List.replicate k (0:Int)).length≠3128;rw[bh];exact G))
  have ak:=ar (Xc hp (by show(List.replicate k (0:Int)).length≠3128;rw[bh];exact G) 1);have hb:((k:Int) != 3128)=true:=by simp only[bne_iff_ne];omega
  have fj:=ar mY;clear hp pk ae mY G Mg hx hk;go_wp2_with fail;refine HM.out.mono ?_;rintro e U ⟨rfl,rfl⟩;go_wp2_with fail;refine ak.out.mono ?_;rintro e w4 ⟨rfl,J⟩;have nK:=ar (fj.out.trans' J);clear J;go_wp2_with fail;go_ret;exact⟨rfl,nK.out⟩
end Go.Proofs.YtcecbdeamjigiaaGreatDoor
namespace Go.Proofs.YtcecbdeamjigiaaGreatDoor
open Go.ChangeShapes Go.WideShapes Go.ChangeAt Go.WideMaps Go.WideElems Go.RowKit
variable{B X xs:List Int}{T:List (bM×Value)}{own:Nat->List Nat}{w w':World}{b f gf gl gn gp:Nat}{ps:List (Int×Int)}{d n:Int}{M:Nat->Nd}
theorem Tryz.gTab: Tryz.prog.globalNamed "math/bits.deBruijn64tab" =some 0 :=by kernel_rfl
theorem Tryz.tTab:(Tryz.prog.globals[0]?).map (·.type)=some 260 :=by kernel_rfl
theorem Tryz.cells_u8: Tryz.prog.cellsOf 5 =1:=by kernel_rfl
theorem Xl{H:Type}:Rows.laid_math_bits_deBruijn64tab (H:=H)= .agg (Lib.deBruijn64tab.map λn:Nat=> .lit (.int .u8 (n:Int))):=rfl
theorem J3{W:World}(h:laidMetH Tryz.prog [("math/bits.deBruijn64tab",Rows.laid_math_bits_deBruijn64tab)] W):kI W:=by
 rw[MakeChecks.laidMetH_plain _ _ _ (by kernel_rfl)] at h;obtain⟨ps,⟨g0,t0,G,f0,p0,q0,V,ah,ae,ac,_,_⟩,_,_⟩:=h;obtain rfl:=Option.some.inj (Tryz.gTab.symm.trans V);obtain rfl:=Option.some.inj (Tryz.tTab.symm.trans ah);obtain⟨xs,m,rfl,hx,U,hn,aa⟩:=DataW.trod_array Tryz.underlying260 ac;rw[Xl] at hx;simp only[Prod.mk.injEq,DataW.agg.injEq] at hx;intro j hj;have z:=aa j hj;rw[Tryz.cells_u8,jT] at z;cases hxj:xs[j]? with
 |none=>rw[List.getElem?_eq_none_iff] at hxj;omega
 |some y=>
  rw[hxj] at z;have af:((G.toList.drop j).take 1).length=1:=by
   rw[aI,bu];have eT: Tryz.prog.cellsOf 260 =64:=by kernel_rfl
   rw[eT] at U;omega
  obtain⟨c,hc⟩:∃c,(G.toList.drop j).take 1=[c]:=by
   match (G.toList.drop j).take 1,af with
   | [c],_=>exact⟨c,rfl⟩
  rw[hc] at z;obtain⟨k,e1,e2,_⟩:=DataW.trod_int Tryz.underlying5 z;have hk:(xs.map (·.1))[j]? =some (.lit (.int .u8 k)):=by rw[bD,hxj,e2];rfl
  rw[<-hx.1,bD] at hk;have Z:j<Lib.deBruijn64tab.length:=hj;rw[aD Z] at hk;have ag:k=((Lib.deBruijn64tab.getD j 0:Nat):Int):=by
   have :((Lib.deBruijn64tab[j]:Nat):Int)=k:=by simpa using hk
   rw[<-this,aj,aD Z];rfl
  have J:=World.var?_cell V ae j;rw[J,<-ag];have h3:((G.toList.drop j).take 1)[0]? =some c:=by rw[hc];rfl
  rw[bN,aB (by omega),bX,dH,dz] at h3;rw[h3];simp only[List.cons.injEq,and_true] at e1;rw[e1]
theorem Ut (os:Os)(args:Array Value):laidMetH Tryz.prog [("math/bits.deBruijn64tab",Rows.laid_math_bits_deBruijn64tab)] ((World.doorLaid Tryz.prog 400 os).forCall (λ_ _=>0) ⟨#[],args,[]⟩).memory:=
 laidMetH_of_parts3 (fuel:=8) (laidMet_of_run' 8 (by kernel_rfl) (by kernel_rfl)) (by kernel_rfl) (by kernel_rfl)
end Go.Proofs.YtcecbdeamjigiaaGreatDoor
