/- Lemmas. -/
import Derived.OrdersHeld
import Derived.Test.YtcecbdeamjigiaaGreatDoorH03
set_option maxHeartbeats 8000000
set_option maxRecDepth 100000
namespace Go.Proofs.YtcecbdeamjigiaaGreatDoor
variable{w:World}{v:Value}
section
variable {P:Program} {ops:Array Oper} {Q:Exit->Act->World->Prop} {md:Region.Mode} {S:World->Prop}
def Steps (P:Program) (S:World->Prop) (v:Value):Result Next->Prop
 | .ok (.value u) w'=>u=v/\S w'
 | .ok .skip w'=>v=undef/\S w'
 | .ok (.enter f args) w'=>Calls P f args w' λe h=>e= .returned v/\S h
 |_=>False
def ba (P:Program) (ops:Array Oper) (S:World->Prop) (o:Oper) (v:Value) (a:Act):Prop:=
 (Region.wanted o (yielded ops a.tmps)=true/\∀w,S w->Steps P S v ((execOp a.eval o).run P w))\/(Region.wanted o (yielded ops a.tmps)=false/\v=undef)
theorem ba.of_same{o:Oper}{v:Value}{a h:Act}(G:ba P ops S o v a)(z:execOp h.eval o=execOp a.eval o)
  (y:Region.wanted o (yielded ops h.tmps)=Region.wanted o (yielded ops a.tmps)):ba P ops S o v h:=by
 unfold ba at *;rw[z,y];exact G
theorem ba.wpOp{i:Nat}{o:Oper}{v:Value}{a:Act}(W:ops[i]? =some o)(V:ba P ops S o v a){K:Act->World->Prop}{w:World}(J:S w)(h:∀w',S w'->K (a.put o.dst v) w'):wpOp P ops Q i K a w:=by
 unfold Go.wpOp;simp only[W];rcases V with ⟨G,hv⟩|⟨G,rfl⟩
 ·have z:=hv w J
  simp only[G,if_true];refine .inl ?_;unfold Oper.wp;generalize (execOp a.eval o).run P w=r at *;cases r with
  |ok n w'=>
   cases n with
   |value u=>obtain⟨rfl,y⟩:=z;exact h _ y
   |skip=>obtain⟨rfl,y⟩:=z;exact h _ y
   |enter f args=>
    refine Calls.mono z λe Z U=> ?_
    obtain⟨rfl,y⟩:=U;exact h _ y
   |_=>exact z.elim
  |halt x w'=>exact z.elim
 ·simp only[G,Bool.false_eq_true,if_false];exact h _ J
def Bx (P:Program) (ops:Array Oper) (S h:World->Prop) (o:Oper) (v:Value) (a:Act):Prop:=
 Region.wanted o (yielded ops a.tmps)=true/\∀w,S w->Steps P h v ((execOp a.eval o).run P w)
theorem Bx.wpOp{S G:World->Prop}{i:Nat}{o:Oper}{v:Value}{a:Act}(Z:ops[i]? =some o)(W:Bx P ops S G o v a){K:Act->World->Prop}{w:World}(V:S w)(h:∀w',G w'->K (a.put o.dst v) w'):wpOp P ops Q i K a w:=by
 unfold Go.wpOp;simp only[Z];obtain⟨U,hv⟩:=W;have z:=hv w V;simp only[U,if_true];refine .inl ?_;unfold Oper.wp;generalize (execOp a.eval o).run P w=r at *;cases r with
 |ok n w'=>
  cases n with
  |value u=>obtain⟨rfl,y⟩:=z;exact h _ y
  |skip=>obtain⟨rfl,y⟩:=z;exact h _ y
  |enter f args=>
   refine Calls.mono z λe aa J=> ?_
   obtain⟨rfl,y⟩:=J;exact h _ y
  |_=>exact z.elim
 |halt x w'=>exact z.elim
def Bz (P:Program) (ops:Array Oper) (S:Bool->World->Prop) (o:Oper) (v:Value) (a:Act):Prop:=∀b,ba P ops (S b) o v a
theorem FH {S:Bool->World->Prop}{j:Nat}{y G:Oper}{v:Value}(hj:ops[j]? =some G)(ae:y.apart ops G=true)
  (af:∀cs b,y.op≠.select cs b) (W:∀cs b,G.op≠.select cs b)
  (hQ:∀c a w,Q (.panic c) (a.put y.dst v) w->Q (.panic c) a w) {K:Act->World->Prop} {a:Act} {w:World}
  (J:Bz P ops S y v a) (h:wpOp P ops Q j K (a.put y.dst v) w):
  wpOp P ops Q j (λa' w'=>Bz P ops S y v a'/\K (a'.put y.dst v) w') a w:=by
 obtain⟨Z,U,h3⟩:=Oper.apart_spec ae;have keep:∀(a:Act),Bz P ops S y v a->∀u,Bz P ops S y v (a.put G.dst u):=λa J u=>
  λb=>(J b).of_same (execOp_put y af a G.dst u h3) (wanted_put y a G.dst u h3)
 have ac:∀d,Bz P ops S y v { a with defers:=d::a.defers }:=λd=>λb=>(J b).of_same rfl rfl
 unfold Go.wpOp at *;simp only[hj] at *;rw[wanted_put G a y.dst v Z] at h;split
 ·rename_i hw
  simp only[hw,if_true] at h;rcases h with h|⟨z,aa⟩
  case inr=>exact .inr ⟨by unfold Oper.asks at *;rw[execOp_put G W a y.dst v Z] at z;exact z,aa⟩
  refine .inl ?_;unfold Oper.wp at *;rw[execOp_put G W a y.dst v Z] at h;generalize (execOp a.eval G).run P w=r at *;cases r with
  |ok n w'=>
   cases n<;>simp only[Oper.upon] at h ⊢
   case value u=>exact⟨keep a J u,by rw[<-Act.put_comm a v u U];exact h⟩
   case skip=>exact⟨keep a J _,by rw[<-Act.put_comm a v undef U];exact h⟩
   case defer d=>
    refine⟨keep _ (ac d) _,?_⟩;rw[<-Act.put_comm _ v undef U,<-Act.put_defers];exact h
   case enter f args=>
    refine Calls.mono h λe ag V=> ?_
    cases e with
    |returned u=>exact⟨keep a J u,by rw[<-Act.put_comm a v u U];exact V⟩
    |panicked c=>exact hQ _ _ _ V
    |outgrown=>exact V
   case row row args=>exact Rows.mono h λu ag V=>⟨keep a J u,by rw[<-Act.put_comm a v u U];exact V⟩
  |halt x w'=>
   cases x<;>simp only[Oper.upon] at h ⊢
   case panic u=>exact hQ _ _ _ h
 ·rename_i hw
  simp only[hw] at h;exact⟨keep a J _,by rw[<-Act.put_comm a v undef U];exact h⟩
def yc (md:Region.Mode) (ops:Array Oper) (h:Array Bool):Prop:=
 ∀k o,ops[k]? =some o->h.getD k true=true->∀e∈o.after,Region.binds md e=true->h.getD e.on false=true
def leads (md:Region.Mode) (ops:Array Oper):Nat->Nat->Nat->Bool
 |0,_,_=>false
 |fuel+1,i,L=>(List.range ops.size).any λk=>k != i&&((ops[k]?).map (·.after.any λe=>Region.binds md e&&e.on==i)).getD false&&(k==L||leads md ops fuel k L)
theorem Er {y:Array Bool}{i:Nat}(h:y.getD i true=false):y.getD i false=false:=by
 rcases dr i y.size with z|z
 ·simp[z] at h ⊢;exact h
 ·simp[Array.getElem?_eq_none z] at h
theorem Hz {y:Array Bool}(hc:yc md ops y):∀(fuel i L:Nat),leads md ops fuel i L=true->y.getD i true=false->L∉Region.ready md ops y:=by
 intro fuel;induction fuel with
 |zero=>intro i L h;simp[leads] at h
 |succ fuel ih=>
  intro i L h hi;unfold leads at h;rw[List.any_eq_true] at h;obtain⟨k,-,hk⟩:=h;simp only[fy,Bool.or_eq_true,bne_iff_ne,ne_eq] at hk;obtain⟨⟨-,dc⟩,z⟩:=hk;cases ho:ops[k]? with
  |none=>simp[ho] at dc
  |some o=>
   have V:o.after.any (λe=>Region.binds md e&&e.on==i)=true:=by simpa[ho] using dc
   obtain⟨e,W,G⟩:=Array.any_eq_true'.1 V;simp only[fy,beq_iff_eq] at G;obtain⟨hb,sZ⟩:=G;have U:y.getD e.on false=false:=by rw[sZ];exact Er hi
   by_cases Z:k=L
   ·subst Z
    intro hm;obtain⟨-,o',RH,J⟩:=mem_ready.1 hm;rw[ho] at RH;cases RH;rw[J e W hb] at U;cases U
   ·rcases z with z|z
    ·exact absurd (by simpa using z) Z
    ·refine ih k L z ?_
     cases hl:y.getD k true with
     |false=>rfl
     |true=>
      rw[hc k o ho hl e W hb] at U;cases U
theorem BA {h:Array Bool}{j:Nat}(Z:yc md ops h)(hj:j∈Region.ready md ops h):yc md ops (h.setIfInBounds j true):=by
 intro k o W V e G J;by_cases z:j=k
 ·subst z
  obtain⟨-,o',U,y⟩:=mem_ready.1 hj;rw[W] at U;cases U;exact getD_set_true (y e G J)
 ·rw[Go.getD_set_ne true z] at V
  exact getD_set_true (Z k o W V e G J)
def td (P:Program) (md:Region.Mode) (ops:Array Oper) (Q:Exit->Act->World->Prop) (S:Bool->World->Prop) (F L:Nat):Nat->Array Bool->Act->Prop
 |0,listed,a=>Region.ready md ops listed=[]/\∀w,S (listed.getD F false) w->Q .normal a w
 |fuel+1,listed,a=>
  (Region.ready md ops listed=[]->∀w,S (listed.getD F false) w->Q .normal a w)/\
  (∀i∈Region.ready md ops listed,i≠L->∀w,S (listed.getD F false) w->wpOp P ops Q i (λh w'=>S ((listed.setIfInBounds i true).getD F false) w'/\td P md ops Q S F L fuel (listed.setIfInBounds i true) h) a w)/\
  (L∈Region.ready md ops listed->∀w,S (listed.getD F false) w->wpOp P ops Q L (wpAny P md ops Q fuel (listed.setIfInBounds L true)) a w)
theorem lf {S:Bool->World->Prop}{F L:Nat}:∀(fuel:Nat) (y:Array Bool) (a:Act),td P md ops Q S F L fuel y a->∀w,S (y.getD F false) w->wpAny P md ops Q fuel y a w
 |0,_,_,h,w,hS=>⟨h.1,h.2 w hS⟩
 |fuel+1,y,a,h,w,hS=>by
  refine⟨λU=>h.1 U w hS,λi J=> ?_⟩;by_cases G:i=L
  ·subst G
   exact h.2.2 J w hS
  ·exact wpOp_mono (λV w' z=>lf fuel _ V z.2 w' z.1) (h.2.1 i J G w hS)
theorem lY {y:Array Bool}{i j:Nat}(h:i≠j):(y.setIfInBounds i true).getD j false=y.getD j false:=by
 simp[Array.getElem?_setIfInBounds_ne h]
theorem FI {S:Bool->World->Prop}{i F L:Nat}{W:Oper}{v:Value}(hi:ops[i]? =some W)(ap:i≠L)(G:i≠F)(ac:∀(j:Nat) (o:Oper) cs b,ops[j]? =some o->o.op≠.select cs b)
  (hQ:∀c a w,Q (.panic c) (a.put W.dst v) w->Q (.panic c) a w) (hL:L≥ops.size\/leads md ops ops.size i L=true):
  ∀(fuel:Nat) (y:Array Bool) (a:Act),yc md ops y->
   (∀j U,ops[j]? =some U->j≠i->y.getD j true=false->(∀e∈U.after,Region.binds md e=true->e.on≠i)->W.apart ops U=true)->
   i∈Region.ready md ops y->Bz P ops S W v a->
   td P md ops Q S F L fuel (y.setIfInBounds i true) (a.put W.dst v)->td P md ops Q S F L (fuel+1) y a:=by
 have aa:∀y:Array Bool,yc md ops y->i∈Region.ready md ops y->L∉Region.ready md ops y:=by
  intro y Z z hm;rcases hL with hL|hL
  ·obtain⟨-,o,ho,-⟩:=mem_ready.1 hm
   rw[Array.getElem?_eq_none hL] at ho;cases ho
  ·exact Hz Z _ i L hL (mem_ready.1 z).1 hm
 intro fuel;induction fuel with
 |zero=>
  intro y a Z _ z hy H;refine⟨λh=>(by rw[h] at z;cases z),λj hj _ w hS=> ?_,λhm=>absurd hm (aa y Z z)⟩;by_cases J:j=i
  ·subst J;exact(hy _).wpOp hi hS λw' Xu=>⟨by rw[lY G];exact Xu,H⟩
  ·have :=ready_mono hj J
   rw[H.1] at this;cases this
 |succ fuel ih=>
  intro y a Z H4 z hy H;refine⟨λh=>(by rw[h] at z;cases z),λj hj ai w hS=> ?_,λhm=>absurd hm (aa y Z z)⟩;by_cases J:j=i
  ·subst J;exact(hy _).wpOp hi hS λw' Xu=>⟨by rw[lY G];exact Xu,H⟩
  ·have h1:=H.2.1 j (ready_mono hj J) ai w (by rw[lY G];exact hS)
   obtain⟨ag,U,V,ae⟩:=mem_ready.1 hj;have ah:∀e∈U.after,Region.binds md e=true->e.on≠i:=λe he hb ak=>by
    have h1:=ae e he hb;have h0:=(mem_ready.1 z).1;rw[ak] at h1;rw[Er h0] at h1;cases h1
   have h2:=FH V (H4 j U V J ag ah) (λcs b=>ac i W cs b hi) (λcs b=>ac j U cs b V) hQ hy h1;have YM:∀k ok,ops[k]? =some ok->k≠i->(y.setIfInBounds j true).getD k true=false->
     (∀e∈ok.after,Region.binds md e=true->e.on≠i)->W.apart ops ok=true:=λk ok hk ye YL aj=>by
    refine H4 k ok hk ye ?_ aj;by_cases af:j=k
    ·subst af;exact ag
    ·rw[Go.getD_set_ne true af] at YL;exact YL
   refine wpOp_mono (λa' w' h3=> ?_) h2;obtain⟨h4,h5,h6⟩:=h3;rw[Array.setIfInBounds_comm _ _ (dx J)] at h6;rw[Array.setIfInBounds_comm _ _ (dx J),lY G] at h5;exact⟨h5,ih (y.setIfInBounds j true) a' (BA Z hj) YM (ready_mono z (dx J)) h4 h6⟩
def dW (n i:Nat):Array Bool:=((List.range n).map λk=>decide (k<i)).toArray
theorem kC (n i:Nat):(dW n i).setIfInBounds i true=dW n (i+1):=by
 apply Array.ext
 ·simp[dW]
 ·intro k G y
  simp only[dW,ag,List.getElem_toArray,List.getElem_set,fx,List.getElem_range];by_cases h:i=k
  ·subst h;simp
  ·rw[aA h]
   exact decide_eq_decide.2 ⟨λh=>by omega,λz=>by omega⟩
theorem jW (n:Nat):dW n 0=Array.replicate n false:=by
 apply Array.ext
 ·simp[dW]
 ·intro k y h
  simp[dW]
def uF (md:Region.Mode) (ops:Array Oper) (m L:Nat):Bool:=
 Region.noSelect ops&&(List.range m).all λi=>Region.free md ops (dW ops.size i) i&&(Region.ready md ops (dW ops.size i)).contains i&&(decide (ops.size<=L)||leads md ops ops.size i L)
theorem NR {m L:Nat}(h:uF md ops m L=true):∀i,i<=m->yc md ops (dW ops.size i):=by
 intro i;induction i with
 |zero=>
  intro _ k o G y;rw[jW] at y;have z:k<ops.size:=(Array.getElem?_eq_some_iff.1 G).1;simp[z] at y
 |succ i ih=>
  intro J;rw[<-kC];simp only[uF,fy,eP,bS] at h;exact BA (ih (by omega)) (by simpa using (h.2 i (by omega)).1.2)
def aJ (P:Program) (ops:Array Oper) (S:World->Prop) (E:Act->World->Prop):List Oper->Act->Prop
 | [],a=>∀w,S w->E a w
 |o::rest,a=>∃v,ba P ops S o v a/\aJ P ops S E rest (a.put o.dst v)
def fX (P:Program) (ops:Array Oper) (S:Bool->World->Prop) (E:Act->Prop):List Oper->Act->Prop
 | [],a=>E a
 |o::rest,a=>∃v,Bz P ops S o v a/\fX P ops S E rest (a.put o.dst v)
theorem aJ.toB{E:Act->World->Prop}:∀(l:List Oper) (a:Act),aJ P ops S E l a->fX P ops (λ_=>S) (λa=>∀w,S w->E a w) l a
 | [],_,h=>h
 |_::l,_,⟨v,h1,h2⟩=>⟨v,λ_=>h1,aJ.toB l _ h2⟩
theorem Es {S:Bool->World->Prop}{m F L:Nat}(J:uF md ops m L=true)(aa:m<=L)(ac:m<=F)(hQ:∀d v c a w,Q (.panic c) (Act.put a d v) w->Q (.panic c) a w){E:Act->Prop}
  (z:∀a,E a->td P md ops Q S F L (ops.size-m) (dW ops.size m) a):
  ∀(l:List Oper) (i:Nat) (a:Act),i+l.length=m->m<=ops.size->(∀k,k<l.length->ops[i+k]? =l[k]?)->fX P ops S E l a->td P md ops Q S F L (ops.size-i) (dW ops.size i) a:=by
 have y:=J;simp only[uF,fy,eP,bS] at y;intro l;induction l with
 |nil=>
  intro i a G V _ h;obtain rfl:i=m:=by simpa using G
  exact z a h
 |cons o rest ih=>
  intro i a G V nA h;rw[bH] at G;obtain⟨v,hv,hr⟩:=h;have Z:ops[i]? =some o:=by simpa using nA 0 (by simp)
  obtain⟨⟨c1,c2⟩,W⟩:=y.2 i (by omega);have U:=ih (i+1) (a.put o.dst v) (by omega) V (λk hk=>by
   have :=nA (k+1) (by simpa using hk);rw[show i+1+k=i+(k+1) by omega,this];simp) hr
  rw[<-kC] at U;rw[show ops.size-i=(ops.size-(i+1))+1 by omega];refine FI Z (by omega) (by omega) (Region.noSelect_spec y.1) (hQ o.dst v) ?_ _ _ a (NR J i (by omega)) (Region.free_spec Z c1) (by simpa using c2) hv U;simp only[Bool.or_eq_true,decide_eq_true_eq] at W;exact W
theorem dv {z:Nat}{a:Act}{w:World}(U:P.follows .mixedOrders=true)(J:uF .any ops ops.size ops.size=true)(y:∀d v c a w,Q (.panic c) (Act.put a d v) w->Q (.panic c) a w)(G:S w.drew)
  (V:Region.ready .any ops (dW ops.size ops.size)=[]) (h:aJ P ops S (Q .normal) ops.toList a):(Code.region z ops true).wp P Q a w:=by
 refine wp_region_any U ?_;rw[<-jW];refine lf (S:=λ_=>S) (F:=ops.size) (L:=ops.size) _ _ _ ?_ _ G;refine Es (m:=ops.size) J (aG _) (aG _) y (E:=λa=>∀w,S w->Q .normal a w) (λa h=> ?_) ops.toList 0 a (by simp) (aG _) (λk W=>by simp) (aJ.toB _ _ h);rw[iT];exact⟨V,h⟩
theorem H5:∀(l:List Oper) (i:Nat) (a:Act) (w:World),i+l.length=ops.size->(∀k,k<l.length->ops[i+k]? =l[k]?)->(∀j,i<=j->j<ops.size->Region.ready md ops (dW ops.size j)=[j])->
  Region.ready md ops (dW ops.size ops.size)=[]->wpList P ops Q l a w->wpAny P md ops Q (ops.size-i) (dW ops.size i) a w:=by
 intro l;induction l with
 |nil=>
  intro i a w G _ _ z h;obtain rfl:i=ops.size:=by simpa using G
  rw[iT];exact⟨z,h⟩
 |cons o rest ih=>
  intro i a w G Z V z h;rw[bH] at G;have ho:ops[i]? =some o:=by simpa using Z 0 (by simp)
  have U:=V i (aG _) (by omega);rw[show ops.size-i=(ops.size-(i+1))+1 by omega];refine⟨λJ=>(by rw[U] at J;cases J),λj W=> ?_⟩;rw[U,au] at W;subst W;rw[kC];have h2:wpOp P ops Q j (wpList P ops Q rest) a w:=by
   unfold Go.wpOp;simp only[ho];unfold wpList at h;exact h
  refine wpOp_mono (λa' w' h'=>ih (j+1) a' w' (by omega) (λk hk=> ?_) (λi hi y=>V i (by omega) y) z h') h2;have :=Z (k+1) (by simpa using hk);rw[show j+1+k=j+(k+1) by omega,this];simp
theorem wP {m r:Nat}(h:((List.range r).all λk=>Region.ready md ops (dW ops.size (m+k)) == [m+k])=true):∀j,m<=j->j<m+r->Region.ready md ops (dW ops.size j)=[j]:=λj z y=>by
 have :=eP.1 h (j-m) (by rw[bS];omega);rw[show m+(j-m)=j by omega] at this;simpa using this
theorem fD {id:Nat}{a:Act}{w:World}{l:List Oper}{o:Oper}{tl:List Oper}(V:P.follows .mixedOrders=true)(nA:ops.toList=l++(o::tl))(ht:uF .any ops l.length l.length=true)(hQ:∀d v c a w,Q (.panic c) (Act.put a d v) w->Q (.panic c) a w)(z:S w.drew)
  (J:((List.range (tl.length+1)).all λk=>Region.ready .any ops (dW ops.size (l.length+k)) == [l.length+k])=true) (G:Region.ready .any ops (dW ops.size ops.size)=[]) (h:aJ P ops S (wpList P ops Q (o::tl)) l a):(Code.region id ops true).wp P Q a w:=by
 have y:ops.size=l.length+(tl.length+1):=by rw[<-df,nA];simp
 have W:=wP J;rw[<-y] at W;refine wp_region_any V ?_;rw[<-jW];refine lf (S:=λ_=>S) (F:=ops.size) (L:=l.length) _ _ _ ?_ _ z;have Z:∀k,ops[k]? =(l++(o::tl))[k]? :=λk=>by rw[<-nA,dz]
 refine Es (m:=l.length) ht (aG _) (by omega) hQ (E:=λa=>∀w,S w->wpList P ops Q (o::tl) a w) (λa h=> ?_) l 0 a (by simp) (by omega) (λk hk=>by rw[Z,aX,aW hk]) (aJ.toB _ _ h);have h1:=W l.length (aG _) (by omega);have RI:∀w,S w->wpAny P .any ops Q (ops.size-l.length) (dW ops.size l.length) a w:=λw z=>
  H5 (o::tl) l.length a w (by simpa using y.symm) (λk hk=>by rw[Z,aM (by omega),cX]) W G (h w z)
 rw[show ops.size-l.length=tl.length+1 by omega] at RI ⊢;refine⟨λh0=>(by rw[h1] at h0;cases h0),λi hi U=> ?_,λV w z=>(RI w z).2 _ V⟩;rw[h1,au] at hi;exact absurd hi U
theorem jX {n F i:Nat}(h:F<n):(dW n i).getD F false=decide (F<i):=by
 simp[dW,h]
theorem adh {S:Bool->World->Prop}{F L:Nat}(j0:∀j,F<j->j<ops.size->Region.ready md ops (dW ops.size j)=[j]){E:Act->World->Prop}
  (y:∀a,(∀w,S true w->E a w)->td P md ops Q S F L (ops.size-L) (dW ops.size L) a):
  ∀(l:List Oper) (i:Nat) (a:Act),F<i->i+l.length=L->L<ops.size->(∀k,k<l.length->ops[i+k]? =l[k]?)->aJ P ops (S true) E l a->td P md ops Q S F L (ops.size-i) (dW ops.size i) a:=by
 intro l;induction l with
 |nil=>
  intro i a _ G _ _ h;obtain rfl:i=L:=by simpa using G
  exact y a h
 |cons o rest ih=>
  intro i a hF G Z W h;rw[bH] at G;obtain⟨v,hv,hr⟩:=h;have ho:ops[i]? =some o:=by simpa using W 0 (by simp)
  have z:=j0 i hF (by omega);have Vk:=ih (i+1) (a.put o.dst v) (by omega) (by omega) Z (λk hk=>by
   have :=W (k+1) (by simpa using hk);rw[show i+1+k=i+(k+1) by omega,this];simp) hr
  rw[show ops.size-i=(ops.size-(i+1))+1 by omega];refine⟨λJ=>(by rw[z] at J;cases J),λj U _ w V=> ?_,λhm=> ?_⟩
  ·rw[z,au] at U
   subst U;rw[jX (by omega),bj (show F<j by omega)] at V;refine hv.wpOp ho V λw' Xu=> ?_
   rw[kC,jX (by omega),bj (show F<j+1 by omega)];exact⟨Xu,Vk⟩
  ·rw[z,au] at hm
   omega
theorem rQ {S:Bool->World->Prop}{id:Nat}{a:Act}{w:World}{l mid:List Oper}{f o:Oper}{tl:List Oper}(J:P.follows .mixedOrders=true)(nA:ops.toList=l++(f::(mid++(o::tl))))(ht:uF .any ops l.length (l.length+1+mid.length)=true)(hQ:∀d v c a w,Q (.panic c) (Act.put a d v) w->Q (.panic c) a w)(y:S false w.drew)
  (ac:((List.range (ops.size-l.length)).all λk=>Region.ready .any ops (dW ops.size (l.length+k)) == [l.length+k])=true) (ae:Region.ready .any ops (dW ops.size ops.size)=[])
  (h:fX P ops S (λa=>∃v,Bx P ops (S false) (S true) f v a/\aJ P ops (S true) (wpList P ops Q (o::tl)) mid (a.put f.dst v)) l a):(Code.region id ops true).wp P Q a w:=by
 have af:ops.size=l.length+(1+(mid.length+(1+tl.length))):=by rw[<-df,nA];simp;omega
 have U:=wP ac;rw[show l.length+(ops.size-l.length)=ops.size by omega] at U;refine wp_region_any J ?_;rw[<-jW];refine lf (S:=S) (F:=l.length) (L:=l.length+1+mid.length) _ _ _ ?_ _ (by rw[jX (by omega)];exact y);have Z:∀k,ops[k]? =(l++(f::(mid++(o::tl))))[k]? :=λk=>by rw[<-nA,dz]
 refine Es (m:=l.length) ht (by omega) (aG _) hQ (λa h=> ?_) l 0 a (by simp) (by omega) (λk W=>by rw[Z,aX,aW W]) h;obtain⟨v,hf,aa⟩:=h;have h1:=U l.length (aG _) (by omega);have Vl:=adh (md:= .any) (Q:=Q) (S:=S) (F:=l.length) (L:=l.length+1+mid.length) (λj hj=>U j (by omega)) (E:=wpList P ops Q (o::tl)) (λa2 h=>by
  have h2:=U (l.length+1+mid.length) (by omega) (by omega);have RI:∀w,S true w->wpAny P .any ops Q (ops.size-(l.length+1+mid.length)) (dW ops.size (l.length+1+mid.length)) a2 w:=λw y=>
   H5 (o::tl) (l.length+1+mid.length) _ w (by simp;omega) (λk W=>by
    rw[Z,aM (by omega),show l.length+1+mid.length+k-l.length=mid.length+k+1 by omega,dS,aM (by omega),cX]) (λj hj=>U j (by omega)) ae (h w y)
  rw[show ops.size-(l.length+1+mid.length)=tl.length+1 by omega] at RI ⊢;refine⟨λz=>(by rw[h2] at z;cases z),λi G V=> ?_,λJ w y=> ?_⟩
  ·rw[h2,au] at G
   exact absurd G V
  ·rw[jX (by omega),bj (by omega)] at y
   exact(RI w y).2 _ J) mid (l.length+1) (a.put f.dst v) (by omega) rfl (by omega) (λk W=>by
    rw[Z,aM (by omega),show l.length+1+k-l.length=k+1 by omega,dS,aW W]) aa
 rw[show ops.size-l.length=(ops.size-(l.length+1))+1 by omega];refine⟨λz=>(by rw[h1] at z;cases z),λi G V w y=> ?_,λJ=> ?_⟩
 ·rw[h1,au] at G
  subst G;rw[jX (by omega),aT (by omega)] at y;refine hf.wpOp (by rw[Z];simp) y λw' Xu=> ?_
  rw[kC,jX (by omega),bj (by omega)];exact⟨Xu,Vl⟩
 ·rw[h1,au] at J
  omega
theorem fX.cons{S:Bool->World->Prop}{E:Act->Prop}{o:Oper}{rest:List Oper}{a:Act}(v:Value)(h:∀b,ba P ops (S b) o v a)(y:fX P ops S E rest (a.put o.dst v)):fX P ops S E (o::rest) a:=⟨v,h,y⟩
theorem fX.done{S:Bool->World->Prop}{E:Act->Prop}{a:Act}(h:E a):fX P ops S E [] a:=h
theorem aJ.cons{E:Act->World->Prop}{o:Oper}{rest:List Oper}{a:Act}(v:Value)(h:ba P ops S o v a)(y:aJ P ops S E rest (a.put o.dst v)):aJ P ops S E (o::rest) a:=⟨v,h,y⟩
theorem aJ.done{E:Act->World->Prop}{a:Act}(h:∀w,S w->E a w):aJ P ops S E [] a:=h
theorem ba.val{o:Oper}{v:Value}{a:Act}(z:Region.wanted o (yielded ops a.tmps)=true)(h:∀w,S w->(execOp a.eval o).run P w= .ok (.value v) w):ba P ops S o v a:=
 .inl ⟨z,λw y=>by rw[h w y];exact⟨rfl,y⟩⟩
theorem ba.off{o:Oper}{a:Act}(h:Region.wanted o (yielded ops a.tmps)=false):ba P ops S o undef a:= .inr ⟨h,rfl⟩
theorem ba.load{o:Oper}{v:Value}{a:Act}(z:Region.wanted o (yielded ops a.tmps)=true)(ty:TypeId)(x:Operand)(U:o.op= .load ty x)(y:Addr)(J:a.eval x= .pointer (some y))(h:∀w,S w->(loadVar ty y).run P w= .ok v w):ba P ops S o v a:=
 .val z λw G=>by
  unfold execOp;simp only[U,J,Instr.loadAt,Instr.sureAddr,bV,eM,b9,h w G]
theorem Bx.store{S G:World->Prop}{o:Oper}{a:Act}(U:Region.wanted o (yielded ops a.tmps)=true)(ty:TypeId)(x y:Operand)(ho:o.op= .store ty x y)(z:Addr)(hx:a.eval x= .pointer (some z))(v:Value)(Z:a.eval y=v)
  (h:∀w,S w->∃w',(storeVar ty z v).run P w= .ok () w'/\G w'):Bx P ops S G o undef a:=
 ⟨U,λw W=>by
  obtain⟨w',V,J⟩:=h w W;unfold execOp;simp only[ho,hx,Z,Instr.storeAt,Instr.sureAddr,bV,eM,b9,V];exact⟨rfl,J⟩⟩
theorem ba.call{o:Oper}{v:Value}{a:Act}(z:Region.wanted o (yielded ops a.tmps)=true)(f:Nat)(args:Array Value)(y:∀w,(execOp a.eval o).run P w= .ok (.enter f args) w)(h:∀w,S w->Calls P f args w λe w'=>e= .returned v/\S w'):ba P ops S o v a:=
 .inl ⟨z,λw G=>by rw[y w];exact h w G⟩
end
end Go.Proofs.YtcecbdeamjigiaaGreatDoor
namespace Go.Proofs.YtcecbdeamjigiaaGreatDoor
open Go.RowKit
variable{w:World}{v:Value}
theorem KH{P:Program}{ty:TypeId}{k:IntKind}{y:Addr}(z:P.underlying ty=some (.int k))(G:w.cell? y=some v):(loadVar ty y).run P w= .ok v w:=by
 have h:(isAgg ty).run P w= .ok false w:=by
  unfold isAgg;rw[bV,cY z w];rfl
 simp[loadVar,h,G]
theorem BB (i:Int)(w:World):Calls Tryz.prog 225 #[.int .i64 i] w λe w'=>e= .returned (.bool (decide (zn i)))/\w=w':=by
 by_cases y:0<i
 ·by_cases z:i<256
  ·rw[bj (show zn i from ⟨y,z⟩)]
   go_enter Tryz.func225,Tryz.ntmps225;go_wp2;go_ret;exact⟨rfl,rfl⟩
  ·rw[aT (show ¬zn i from λh=>z h.2)]
   go_enter Tryz.func225,Tryz.ntmps225;go_wp2;go_ret;exact⟨rfl,rfl⟩
 ·rw[aT (show ¬zn i from λh=>y h.1)]
  go_enter Tryz.func225,Tryz.ntmps225;go_wp2;go_ret;exact⟨rfl,rfl⟩
theorem YO (p b n:Nat)(y:b<256)(z:p<256)(h:n<256):bits .or .u64 ((p:Int)*4294967296) ((b:Int)*256)=((p*4294967296+b*256:Nat):Int)/\bits .or .u64 ((p*4294967296+b*256:Nat):Int) (n:Int)=((p*4294967296+b*256+n:Nat):Int):=by
 constructor
 ·rw[show(p:Int)*4294967296=((p*4294967296:Nat):Int) by omega,show(b:Int)*256=((b*256:Nat):Int) by omega,u64_or_nat _ _ (by omega) (by omega),nat_join 32 _ _ (by exact Nat.mul_mod_left _ _) (show b*256<4294967296 by omega)]
 ·rw[u64_or_nat _ _ (by omega) (by omega),nat_join 8 _ _ (by omega) h]
theorem FJ (p b n x y:Nat)(h:b<256)(G:p<256)(z:n<256)(q1:bits .or .u64 ((p:Int)*4294967296) ((b:Int)*256)=(y:Int))(q2:bits .or .u64 (y:Int) (n:Int)=(x:Int))(w:World):
  Calls Tryz.prog 226 #[.int .i64 (p:Int),.int .i64 (b:Int),.int .i64 (n:Int)] w λe w'=>e= .returned (.int .u64 (x:Int))/\w=w':=by
 go_enter Tryz.func226,Tryz.ntmps226;go_wp2_with fail;go_ret;exact⟨rfl,rfl⟩
theorem vu (p b n:Nat)(h:b<256)(z:p<256)(y:n<256)(w:World):Calls Tryz.prog 226 #[.int .i64 (p:Int),.int .i64 (b:Int),.int .i64 (n:Int)] w λe w'=>e= .returned (.int .u64 (p9 p (b:Int) n))/\w=w':=by
 obtain⟨q1,q2⟩:=YO p b n h z y;have G:p9 p (b:Int) n=((p*4294967296+b*256+n:Nat):Int):=by unfold p9;omega
 rw[G];exact FJ p b n _ _ h z y q1 q2 w
def Words (w:World) (L:List Int) (v:Value) (h:World):Prop:=h.ownsRow (w.heap.size+1) 55 1 v L.length (aR L)/\L.length<=13/\ay [] w h
theorem Words.made{z:World}{L:List Int}(h:Words w L v z):gC w L (.returned v) z:=by
 obtain⟨g,G,J⟩:=eE.of_row h.1;by_cases y:L.length=0
 ·exact⟨v,w.heap.size,rfl,G.reads.anyG (by rw[bg y];rfl) _,aG _,h.2.2⟩
 ·exact⟨v,g,rfl,G.reads,by have :=(J y).1;omega,h.2.2⟩
theorem FK (l:List Int)(hl:l.length=13)(w:World):Calls Tryz.prog 212 #[.agg (zs l).toArray] w (gC w (eB l)):=by
 obtain⟨i0,hi,az,ap,av⟩:=cJ Tryz.info_u64;have au:=bm.new w (zs l).toArray 108;have nu:=ar au;have fS:Hid (ay [] w (w.alloc (.cells (zs l).toArray 108))):=(ay.refl _ _).alloc _;have KI:Hid (∀G k,k<13->ay [] (w.alloc (.cells (zs l).toArray 108)) G->G.cell? ⟨w.heap.size,k,none⟩=some (.int .i64 (l.getD k 0))):=λG k hk eI=>by
  rw[(au.keep eI (by simp)).cell,aC,eR (by omega)]
 clear au;have HL:=ar hl;clear hl;generalize hz:(zs l).toArray=Z at *;clear hz;go_enter Tryz.func212,Tryz.ntmps212;go_wp2_with fail;go_step3;go_wp2_with fail;go_step3;go_wp2_with fail;go_loopg [3,4] 13 (λgh s3 s4 G=>∃f:Nat,f+gh=13/\s4= .int .i64 (f:Int)/\Hid (G.ownsRow (w.heap.size+1) 55 1 s3 (eA l f).length (aR (eA l f))/\¬jy l f/\ay [] (w.alloc (.cells Z 108)) G))
 case atStart=>exact⟨0,by omega,rfl,⟨rfl,.inl ⟨rfl,rfl⟩⟩,λh=>absurd h.1 (by omega),ay.refl _ _⟩
 case round=>
  obtain⟨f,hf,rfl,HR⟩:=hrel;cases gk with
  |zero=>
   obtain rfl:f=13:=by omega
   have HM:Hid (gC w (eB l) (.returned u3) wr):=Words.made ⟨HR.out.1,jM l 13,fS.out.trans' HR.out.2.2⟩;clear hf HR;go_wp2_with fail;rw[Exit.noGoto_ret];go_ret;exact HM.out
  |succ gg=>
   have Vm:f<13:=by omega
   have aL:(f:Int)<13:=by omega
   have aQ:(0:Int)<=(f:Int):=by omega
   have aI:=KI.out wr f Vm HR.out.2.2;have Vn:=ar (BB (l.getD f 0));by_cases hB:zn (l.getD f 0)
   ·rw[bj hB] at Vn
    have ax:Hid (oC l f):=⟨hB,HR.out.2.1⟩;have HB:=ar hB;have aO:0<l.getD f 0:=hB.1;have aM:l.getD f 0<256:=hB.2;have ac:=ar HR.out.1;have gI:=ar HR.out.2.2;have Vo:=ar (jM l f);clear HR hB;generalize J:l.getD f 0=x at *;have HX:=ar J;clear J;go_wp2_with fail;refine(Vn.out _).mono ?_;rintro e w1 ⟨rfl,rfl⟩;go_wp2_with fail;clear aI;obtain⟨a,cap,rfl,q1,q2⟩:=gD ac.out;go_loopg [3,4,5] (12-f) (λgh s3 s4 s5 G=>∃j:Nat,s3= .slice a (eA l f).length cap/\s4= .int .i64 (f:Int)/\j+gh=13/\s5= .int .i64 (j:Int)/\Hid (f<j/\(∀i,f<i->i<j->jy l i)/\G.ownsRow (w.heap.size+1) 55 1 (.slice a (eA l f).length cap) (eA l f).length (aR (eA l f))/\ay [] (w.alloc (.cells Z 108)) G))
    case atStart=>exact⟨f+1,rfl,rfl,by omega,by go_num,by omega,λi h1 h2=>by omega,ac.out,gI.out⟩
    case round=>
     clear ac gI;obtain⟨j,rfl,rfl,hj,rfl,HR⟩:=hrel;obtain⟨af,RJ,aj,eI⟩:=HR.out;have H9:=ar RJ;have ac:=ar aj;have gI:=ar eI;have zi:(0:Int)<=(j:Int):=by omega
     have aH:zn (l.getD f 0):=by rw[HX.out];exact HB.out
     have GL:=ar (RG aH af RJ);have ak:=eI.size;clear HR aj RJ eI aH;have nJ:Hid (∀G k,k<13->ay [] wr G->(loadVar 3 ⟨w.heap.size,k,none⟩).run Tryz.prog G= .ok (.int .i64 (l.getD k 0)) G):=λG k hk eI=>KH Tryz.underlying3 (KI.out G k hk (gI.out.trans' eI))
     by_cases RL:j<13
     ·have aK:(j:Int)<13:=by omega
      have NS:=ar (BB (l.getD j 0));obtain⟨y,hy⟩:∃y,y=l.getD j 0:=⟨_,rfl⟩;obtain⟨z,hz⟩:∃z,z=l.getD (j-1) 0:=⟨_,rfl⟩;rw[<-hy] at NS;rw[<-hy,<-hz] at GL;have QB:Hid (∀G,ay [] wr G->(loadVar 3 ⟨w.heap.size,j,none⟩).run Tryz.prog G= .ok (.int .i64 y) G):=λG hk=>by rw[hy];exact nJ.out G j RL hk
      obtain⟨q,hq⟩:∃q,q=j-1:=⟨_,rfl⟩;have aq:zn z:=by
       have :zn (l.getD f 0):=by rw[HX.out];exact HB.out
       rw[hz];exact MA this H9.out (j-1) (by omega) (by omega)
      have aw:Hid (∀G,ay [] wr G->(loadVar 3 ⟨w.heap.size,q,none⟩).run Tryz.prog G= .ok (.int .i64 z) G):=λG hk=>by rw[hz,hq];exact nJ.out G (j-1) (by omega) hk
      have aP:(j:Int)-1=(q:Int):=by omega
      have YP:IntKind.i64.wrap (q:Int)=(q:Int):=dY _ (by omega);have Vp:(0:Int)<=(q:Int):=by omega
      have aN:(q:Int)<13:=by omega
      have aS:IntKind.i64.wrap (z+1)=z+1:=dY _ (by have :=aq.1;have :=aq.2;omega);clear hy hz nJ hq aq;have Xv:(j<13)=True:=eq_true RL;by_cases hY:zn y
      ·rw[bj hY] at NS
       by_cases ae:y=z+1
       ·have hC:jy l j:=GL.out.2 ⟨RL,hY,ae⟩
        have HN:Hid (f<j+1/\(∀i,f<i->i<j+1->jy l i)/\ay [] wr wr):=by
         refine⟨by omega,λi h1 h2=> ?_,ay.refl _ _⟩;by_cases e:i=j
         ·subst e;exact hC
         ·exact H9.out i h1 (by omega)
        have aa:(y==z+1)=true:=by simp[ae]
        clear hC GL ae;go_wp2_with fail;refine dv (S:=λG=>ay [] wr G) (by kernel_rfl) (by kernel_rfl) (λd _ _ _ _ h=>by cases d<;>exact h) ((ay.refl _ _).drew) (by kernel_rfl) ?_;repeat (first
         |(refine aJ.cons (.int .i64 y) (ba.load rfl 3 (.tmp 23) rfl _ rfl λG J=>QB.out G J) ?_;simp only[Act.put,ag,ah,ai])
         |(refine aJ.cons (.int .i64 y) (ba.load rfl 3 (.tmp 29) rfl _ rfl λG J=>QB.out G J) ?_;simp only[Act.put,ag,ah,ai])
         |(refine aJ.cons (.int .i64 z) (ba.load rfl 3 (.tmp 33) rfl _ rfl λG J=>aw.out G J) ?_;simp only[Act.put,ag,ah,ai])
         |(refine aJ.cons (.bool true) (ba.call rfl 225 #[.int .i64 y] ?he ?h) ?_;(case he=>(intro wz;go_simp));(case h=>exact λG J=>(NS.out G).mono λe w' he=>⟨he.1,he.2▸J⟩);simp only[Act.put,ag,ah,ai])
         |(refine aJ.cons undef (ba.off rfl) ?_;simp only[Act.put,ag,ah,ai])
         |(with_reducible show aJ _ _ _ _ (⟨_,_,4,_,_,_⟩::_) _;refine aJ.cons (.bool true) (ba.val rfl ?h) ?_;(case h=>(intro G J;clear J;first|(go_simp;done)|(go_simp;simp[Xv,aa];done)));simp only[Act.put,ag,ah,ai])
         |(with_reducible show aJ _ _ _ _ (⟨_,_,4,_,_,_⟩::_) _;refine aJ.cons (.bool false) (ba.val rfl ?h) ?_;(case h=>(intro G J;clear J;first|(go_simp;done)|(go_simp;simp[Xv,aa];done)));simp only[Act.put,ag,ah,ai])
         |(refine aJ.cons ?_ (ba.val rfl ?h) ?_;(case h=>(intro G J;clear J;go_simp;rfl));simp only[Act.put,ag,ah,ai]))
        refine aJ.done λG J=> ?_
        have nR:=ar J;have NT:=ar (cO ac.out J (by simp));clear J;go_wp2_with fail;go_roundg (gk-1);case measure=>omega
        case rel=>exact⟨j+1,rfl,rfl,by omega,by go_num,HN.out.1,HN.out.2.1,NT.out,gI.out.trans' nR.out⟩
       ·have Xw:Hid (¬jy l j):=λh=>ae (GL.out.1 h).2.2
        have Xx:=ar af;have aa:(y==z+1)=false:=cg.2 ae;clear GL ae;go_wp2_with fail;refine dv (S:=λG=>ay [] wr G) (by kernel_rfl) (by kernel_rfl) (λd _ _ _ _ h=>by cases d<;>exact h) ((ay.refl _ _).drew) (by kernel_rfl) ?_;repeat (first
         |(refine aJ.cons (.int .i64 y) (ba.load rfl 3 (.tmp 23) rfl _ rfl λG J=>QB.out G J) ?_;simp only[Act.put,ag,ah,ai])
         |(refine aJ.cons (.int .i64 y) (ba.load rfl 3 (.tmp 29) rfl _ rfl λG J=>QB.out G J) ?_;simp only[Act.put,ag,ah,ai])
         |(refine aJ.cons (.int .i64 z) (ba.load rfl 3 (.tmp 33) rfl _ rfl λG J=>aw.out G J) ?_;simp only[Act.put,ag,ah,ai])
         |(refine aJ.cons (.bool true) (ba.call rfl 225 #[.int .i64 y] ?he ?h) ?_;(case he=>(intro wz;go_simp));(case h=>exact λG J=>(NS.out G).mono λe w' he=>⟨he.1,he.2▸J⟩);simp only[Act.put,ag,ah,ai])
         |(refine aJ.cons undef (ba.off rfl) ?_;simp only[Act.put,ag,ah,ai])
         |(with_reducible show aJ _ _ _ _ (⟨_,_,4,_,_,_⟩::_) _;refine aJ.cons (.bool true) (ba.val rfl ?h) ?_;(case h=>(intro G J;clear J;first|(go_simp;done)|(go_simp;simp[Xv,aa];done)));simp only[Act.put,ag,ah,ai])
         |(with_reducible show aJ _ _ _ _ (⟨_,_,4,_,_,_⟩::_) _;refine aJ.cons (.bool false) (ba.val rfl ?h) ?_;(case h=>(intro G J;clear J;first|(go_simp;done)|(go_simp;simp[Xv,aa];done)));simp only[Act.put,ag,ah,ai])
         |(refine aJ.cons ?_ (ba.val rfl ?h) ?_;(case h=>(intro G J;clear J;go_simp;rfl));simp only[Act.put,ag,ah,ai]))
        refine aJ.done λG J=> ?_
        have NT:=ar (cO ac.out J (by simp));have nR:=ar (gI.out.trans' J);have KJ:=KI.out G f Vm (gI.out.trans' J);rw[HX.out] at KJ;have aD:w.heap.size+1<=G.heap.size:=by have :=J.size;simp at ak;omega
        clear J;obtain⟨b,hb⟩:∃b:Nat,x=(b:Int):=⟨x.toNat,by omega⟩;obtain⟨n,hn⟩:∃n:Nat,n=j-f:=⟨_,rfl⟩;have aA:(j:Int)-(f:Int)=(n:Int):=by omega
        have aB:IntKind.i64.wrap (n:Int)=(n:Int):=dY _ (by omega);have Aa:=ar (vu f b n (by omega) (by omega) (by omega));have BC:Hid (eA l j=eA l f++[p9 f (b:Int) n]):=by
         have :=vt ax.out Xx.out (by omega) H9.out Xw.out;rw[HX.out,hb] at this;rw[hn];exact this
        rw[hb] at KJ;have Ia:Hid (j<=13/\n=j-f):=⟨by omega,hn⟩;have Xy:=ar hf;clear hb hn hf;generalize p9 f (b:Int) n=W at *;generalize hL:eA l f=L at *;have QC:=ar hL;clear hL;have n5:=ar (show L.length<=13 by have :=Vo.out;omega);go_wp2_with fail;refine(Aa.out _).mono ?_;rintro e w1 ⟨rfl,rfl⟩;have vZ:=n5.out;go_wp2_with(at_builtin;refine dE _ rfl _ _ 69 rfl (w.heap.size+1) 55 i0 (.int .u64 0) 1 8 Tryz.underlying69 hi az ap av rfl (by decide) (.slice a L.length cap) L.length _ rfl (NT.out.alloc _) ⟨G.heap.size,0,none⟩ 1 1 [.int .u64 W] rfl rfl ?c1 ?c2 (by unfold maxLen;omega) (by omega) (by simp;omega) ?_);case c1=>exact iP _ [_] _ _ rfl
        case c2=>simp[Value.oneCell']
        intro v' w1 U V _;have z6:=ar U;have iH:=ar ((nR.out.alloc _).grown V (λk hk=>by have :=cE NT.out k hk;simpa using this));clear U V;go_wp2_with fail;go_roundg (13-j);case measure=>have :=Xy.out;have :=Xx.out;have :=Ia.out.1;omega
        case rel=>
         refine⟨j,by have :=Ia.out.1;omega,by go_num,?_,Xw.out,iH.out⟩;have :=z6.out;rw[BC.out,aF,lr];exact this
      ·have Xw:Hid (¬jy l j):=λh=>hY (GL.out.1 h).2.1
       have Xx:=ar af;rw[aT hY] at NS;have aa:(1:Int)=1:=rfl;clear GL hY;go_wp2_with fail;refine dv (S:=λG=>ay [] wr G) (by kernel_rfl) (by kernel_rfl) (λd _ _ _ _ h=>by cases d<;>exact h) ((ay.refl _ _).drew) (by kernel_rfl) ?_;repeat (first
        |(refine aJ.cons (.int .i64 y) (ba.load rfl 3 (.tmp 23) rfl _ rfl λG J=>QB.out G J) ?_;simp only[Act.put,ag,ah,ai])
        |(refine aJ.cons (.int .i64 y) (ba.load rfl 3 (.tmp 29) rfl _ rfl λG J=>QB.out G J) ?_;simp only[Act.put,ag,ah,ai])
        |(refine aJ.cons (.int .i64 z) (ba.load rfl 3 (.tmp 33) rfl _ rfl λG J=>aw.out G J) ?_;simp only[Act.put,ag,ah,ai])
        |(refine aJ.cons (.bool false) (ba.call rfl 225 #[.int .i64 y] ?he ?h) ?_;(case he=>(intro wz;go_simp));(case h=>exact λG J=>(NS.out G).mono λe w' he=>⟨he.1,he.2▸J⟩);simp only[Act.put,ag,ah,ai])
        |(refine aJ.cons undef (ba.off rfl) ?_;simp only[Act.put,ag,ah,ai])
        |(with_reducible show aJ _ _ _ _ (⟨_,_,4,_,_,_⟩::_) _;refine aJ.cons (.bool true) (ba.val rfl ?h) ?_;(case h=>(intro G J;clear J;first|(go_simp;done)|(go_simp;simp[Xv,aa];done)));simp only[Act.put,ag,ah,ai])
        |(with_reducible show aJ _ _ _ _ (⟨_,_,4,_,_,_⟩::_) _;refine aJ.cons (.bool false) (ba.val rfl ?h) ?_;(case h=>(intro G J;clear J;first|(go_simp;done)|(go_simp;simp[Xv,aa];done)));simp only[Act.put,ag,ah,ai])
        |(refine aJ.cons ?_ (ba.val rfl ?h) ?_;(case h=>(intro G J;clear J;go_simp;rfl));simp only[Act.put,ag,ah,ai]))
       refine aJ.done λG J=> ?_
       have NT:=ar (cO ac.out J (by simp));have nR:=ar (gI.out.trans' J);have KJ:=KI.out G f Vm (gI.out.trans' J);rw[HX.out] at KJ;have aD:w.heap.size+1<=G.heap.size:=by have :=J.size;simp at ak;omega
       clear J;obtain⟨b,hb⟩:∃b:Nat,x=(b:Int):=⟨x.toNat,by omega⟩;obtain⟨n,hn⟩:∃n:Nat,n=j-f:=⟨_,rfl⟩;have aA:(j:Int)-(f:Int)=(n:Int):=by omega
       have aB:IntKind.i64.wrap (n:Int)=(n:Int):=dY _ (by omega);have Aa:=ar (vu f b n (by omega) (by omega) (by omega));have BC:Hid (eA l j=eA l f++[p9 f (b:Int) n]):=by
        have :=vt ax.out Xx.out (by omega) H9.out Xw.out;rw[HX.out,hb] at this;rw[hn];exact this
       rw[hb] at KJ;have Ia:Hid (j<=13/\n=j-f):=⟨by omega,hn⟩;have Xy:=ar hf;clear hb hn hf;generalize p9 f (b:Int) n=W at *;generalize hL:eA l f=L at *;have QC:=ar hL;clear hL;have n5:=ar (show L.length<=13 by have :=Vo.out;omega);go_wp2_with fail;refine(Aa.out _).mono ?_;rintro e w1 ⟨rfl,rfl⟩;have vZ:=n5.out;go_wp2_with(at_builtin;refine dE _ rfl _ _ 69 rfl (w.heap.size+1) 55 i0 (.int .u64 0) 1 8 Tryz.underlying69 hi az ap av rfl (by decide) (.slice a L.length cap) L.length _ rfl (NT.out.alloc _) ⟨G.heap.size,0,none⟩ 1 1 [.int .u64 W] rfl rfl ?c1 ?c2 (by unfold maxLen;omega) (by omega) (by simp;omega) ?_);case c1=>exact iP _ [_] _ _ rfl
       case c2=>simp[Value.oneCell']
       intro v' w1 U V _;have z6:=ar U;have iH:=ar ((nR.out.alloc _).grown V (λk hk=>by have :=cE NT.out k hk;simpa using this));clear U V;go_wp2_with fail;go_roundg (13-j);case measure=>have :=Xy.out;have :=Xx.out;have :=Ia.out.1;omega
       case rel=>
        refine⟨j,by have :=Ia.out.1;omega,by go_num,?_,Xw.out,iH.out⟩;have :=z6.out;rw[BC.out,aF,lr];exact this
     ·have Xw:Hid (¬jy l j):=λh=>RL (GL.out.1 h).1
      have Xx:=ar af;have Xv:(j<13)=False:=eq_false RL;have aK:¬(j:Int)<13:=by omega
      have aa:(1:Int)=1:=rfl;clear GL nJ;go_wp2_with fail;refine dv (S:=λG=>ay [] wr G) (by kernel_rfl) (by kernel_rfl) (λd _ _ _ _ h=>by cases d<;>exact h) ((ay.refl _ _).drew) (by kernel_rfl) ?_;repeat (first
       |(refine aJ.cons undef (ba.off rfl) ?_;simp only[Act.put,ag,ah,ai])
       |(with_reducible show aJ _ _ _ _ (⟨_,_,4,_,_,_⟩::_) _;refine aJ.cons (.bool false) (ba.val rfl ?h) ?_;(case h=>(intro G J;clear J;first|(go_simp;done)|(go_simp;simp[Xv,aa];done)));simp only[Act.put,ag,ah,ai])
       |(refine aJ.cons ?_ (ba.val rfl ?h) ?_;(case h=>(intro G J;clear J;go_simp;rfl));simp only[Act.put,ag,ah,ai]))
      refine aJ.done λG J=> ?_
      have NT:=ar (cO ac.out J (by simp));have nR:=ar (gI.out.trans' J);have KJ:=KI.out G f Vm (gI.out.trans' J);rw[HX.out] at KJ;have aD:w.heap.size+1<=G.heap.size:=by have :=J.size;simp at ak;omega
      clear J;obtain⟨b,hb⟩:∃b:Nat,x=(b:Int):=⟨x.toNat,by omega⟩;obtain⟨n,hn⟩:∃n:Nat,n=j-f:=⟨_,rfl⟩;have aA:(j:Int)-(f:Int)=(n:Int):=by omega
      have aB:IntKind.i64.wrap (n:Int)=(n:Int):=dY _ (by omega);have Aa:=ar (vu f b n (by omega) (by omega) (by omega));have BC:Hid (eA l j=eA l f++[p9 f (b:Int) n]):=by
       have :=vt ax.out Xx.out (by omega) H9.out Xw.out;rw[HX.out,hb] at this;rw[hn];exact this
      rw[hb] at KJ;have Ia:Hid (j<=13/\n=j-f):=⟨by omega,hn⟩;have Xy:=ar hf;clear hb hn hf;generalize p9 f (b:Int) n=W at *;generalize hL:eA l f=L at *;have QC:=ar hL;clear hL;have n5:=ar (show L.length<=13 by have :=Vo.out;omega);go_wp2_with fail;refine(Aa.out _).mono ?_;rintro e w1 ⟨rfl,rfl⟩;have vZ:=n5.out;go_wp2_with(at_builtin;refine dE _ rfl _ _ 69 rfl (w.heap.size+1) 55 i0 (.int .u64 0) 1 8 Tryz.underlying69 hi az ap av rfl (by decide) (.slice a L.length cap) L.length _ rfl (NT.out.alloc _) ⟨G.heap.size,0,none⟩ 1 1 [.int .u64 W] rfl rfl ?c1 ?c2 (by unfold maxLen;omega) (by omega) (by simp;omega) ?_);case c1=>exact iP _ [_] _ _ rfl
      case c2=>simp[Value.oneCell']
      intro v' w1 U V _;have z6:=ar U;have iH:=ar ((nR.out.alloc _).grown V (λk hk=>by have :=cE NT.out k hk;simpa using this));clear U V;go_wp2_with fail;go_roundg (13-j);case measure=>have :=Xy.out;have :=Xx.out;have :=Ia.out.1;omega
      case rel=>
       refine⟨j,by have :=Ia.out.1;omega,by go_num,?_,Xw.out,iH.out⟩;have :=z6.out;rw[BC.out,aF,lr];exact this
   ·rw[aT hB] at Vn
    have aG:¬jy l (f+1):=λh=>hB h.2.2.2.1
    have HN:Hid (wr.ownsRow (w.heap.size+1) 55 1 u3 (eA l (f+1)).length (aR (eA l (f+1)))/\¬jy l (f+1)/\ay [] (w.alloc (.cells Z 108)) wr):=by
     refine⟨?_,aG,HR.out.2.2⟩;rw[Hy hB];exact HR.out.1
    clear HR hB aG;generalize l.getD f 0=x at *;go_wp2_with fail;refine(Vn.out _).mono ?_;rintro e w1 ⟨rfl,rfl⟩;go_wp2_with fail;go_roundg gg;case measure=>omega
    case rel=>exact⟨f+1,by omega,by go_num,HN.out⟩
theorem tj (a s:Nat)(G:a<=1000000)(J:1<=s)(U:s<=1000000)(w:World):Calls Tryz.prog 165 #[.int .i64 (a:Int),.int .i64 (s:Int)] w λe w'=>e= .returned (.int .i64 (((a+s-1)/s:Nat):Int))/\w=w':=by
 have y:(s:Int)≠0:=by omega
 have z:¬(s:Int)= -1:=by omega
 have V:((a:Int)+s-1).tdiv s=(((a+s-1)/s:Nat):Int):=by
  rw[show(a:Int)+s-1=((a+s-1:Nat):Int) by omega,Int.ofNat_tdiv]
 have h:(a+s-1)/s<=2000000:=cu (Nat.div_le_self _ _) (by omega);generalize (a+s-1)/s=q at *;go_enter Tryz.func165,Tryz.ntmps165;go_wp2_with fail;go_ret;exact⟨rfl,rfl⟩
theorem MB (l:List Int)(c:Nat)(hl:l.length=13)(hc:c<=13)(w:World):Calls Tryz.prog 164 #[.agg (zs l).toArray,.int .i64 (c:Int)] w λe w'=>e= .returned (.agg (zs (iz l c)).toArray)/\ay [] w w':=by
 have W:=bm.new w (zs l).toArray 108;have V:=W.alloc (.cells (zs (List.replicate 13 0)).toArray 108);obtain⟨off,cap,hs,ho⟩:=KE w.heap.size c hc ((w.alloc (.cells (zs l).toArray 108)).alloc (.cells (zs (List.replicate 13 0)).toArray 108));obtain⟨w1,MD,G,dc⟩:=KF (off:=off) (cap:=cap) V hl hc ho;have J:bm ((w.alloc (.cells (zs l).toArray 108)).alloc (.cells (zs (List.replicate 13 0)).toArray 108)) (w.heap.size+1) (zs (List.replicate 13 0)).toArray 108 :=by
  simpa using bm.new (w.alloc (.cells (zs l).toArray 108)) (zs (List.replicate 13 0)).toArray 108
 have y:=J.keep dc (by simp);have lR:=mr hl hc;have hL:=eD (off:=0) G lR (λk hk=>by rw[aX,aC,eR (by omega)]);obtain⟨w2,hS,z,U⟩:=br (P:= Tryz.prog) (ty:= 108) (cs:=zs (iz l c)) (by rw[dJ,lR];exact jf) y (by simp[dJ,lR]) (jY _);have h:=eD (off:=0) z lR (λk hk=>by rw[aX,aC,eR (by omega)]);have HK:Hid (ay [] w w2):=((((ay.refl [] w).alloc _).alloc _).trans dc (by simp)).trans U (by simp);have HL:=ar hL;have HS:=ar hS;have pw:=ar h;have p8:=lV;have aa:=MD 0;clear W V J y hL hS h MD G dc z U ho;generalize (zs (iz l c)).toArray=Y at *;generalize (zs (List.replicate 13 0)).toArray=Z0 at *;generalize (zs l).toArray=Z at *;go_enter Tryz.func164,Tryz.ntmps164;go_wp2_with(first|(with_reducible refine gL 108 HL.out ?_)|(with_reducible refine gS 108 HS.out ?_));exact aK (dP Tryz.results164 rfl pw.out) rfl ⟨rfl,HK.out⟩
theorem KL (b:Nat)(w:World):(Instr.sliceAt 108 (.pointer (some ⟨b,0,none⟩)) (some (.int .i64 5)) none none).run Tryz.prog w= .ok (.slice (some ⟨b,5,none⟩) 8 8) w:=by show Sem.run _ _ _=_;kernel_rfl
theorem Ib (a:Option Addr)(w:World):(Instr.arrayAt 248 (.slice a 8 8)).run Tryz.prog w= .ok (.pointer a) w:=by show Sem.run _ _ _=_;kernel_rfl
theorem FL (l:List Int)(hl:l.length=13)(w:World):Calls Tryz.prog 206 #[.agg (zs l).toArray] w λe w'=>e= .returned (.agg (zs (l.drop 5)).toArray)/\ay [] w w':=by
 have U:=bm.new w (zs l).toArray 108;have J:=U.alloc (.cells (zs (List.replicate 8 0)).toArray 248);have z:bm ((w.alloc (.cells (zs l).toArray 108)).alloc (.cells (zs (List.replicate 8 0)).toArray 248)) (w.heap.size+1) (zs (List.replicate 8 0)).toArray 248 :=by
  simpa using bm.new (w.alloc (.cells (zs l).toArray 108)) (zs (List.replicate 8 0)).toArray 248
 have V:(l.drop 5).length=8:=by simp[hl]
 have W:=Mx (off:=5) J V (λk hk=>by rw[aC,eR (by omega)];simp);obtain⟨w2,hS,y,G⟩:=br (P:= Tryz.prog) (ty:= 248) (cs:=zs (l.drop 5)) (by rw[dJ,V];exact Mw) z (by simp[dJ,hl]) (jY _);have h:=Mx (off:=0) y V (λk hk=>by rw[aX,aC,eR (by omega)]);have HK:Hid (ay [] w w2):=(((ay.refl [] w).alloc _).alloc _).trans G (by simp);have HL:=ar W;have HS:=ar hS;have pw:=ar h;have p8:=FB;have aa:=KL w.heap.size;have ac:=Ib;clear U J z W hS h y G;generalize (zs (l.drop 5)).toArray=Y at *;generalize (zs (List.replicate 8 0)).toArray=Z0 at *;generalize (zs l).toArray=Z at *;go_enter Tryz.func206,Tryz.ntmps206;go_wp2_with(first|(with_reducible refine gL 248 HL.out ?_)|(with_reducible refine gS 248 HS.out ?_));exact aK (dP Tryz.results206 rfl pw.out) rfl ⟨rfl,HK.out⟩
theorem oD (n:bM)(a:Option Addr)(cap:Nat)(y:n.B.length=13)(J:n.E.length<=100000)(w:World):Calls Tryz.prog 189 #[.agg (aU n (.slice a n.E.length cap))] w λe w'=>e= .returned (.int .i64 ((aZ n.E.length:Nat):Int))/\ay [] w w':=by
 have h:=bm.new w (aU n (.slice a n.E.length cap)) 110;have U:(w.alloc (.cells (aU n (.slice a n.E.length cap)) 110)).cell? ⟨w.heap.size,17,none⟩=some (.slice a n.E.length cap):=by rw[h.cell];exact vk _ y
 have z:=ar (tj n.E.length 4 (by omega) (by omega) (by omega));have G:Hid (ay [] w (w.alloc (.cells (aU n (.slice a n.E.length cap)) 110))):=(ay.refl [] w).alloc _;clear h y;generalize aU n (.slice a n.E.length cap)=Z at *;unfold aZ;generalize n.E.length=m at *;rw[show m+4-1=m+3 by omega] at z;go_enter Tryz.func189,Tryz.ntmps189;go_wp2_with fail;refine(z.out _).mono ?_;rintro e w' ⟨rfl,rfl⟩;go_wp2_with fail;go_ret;exact⟨rfl,G.out⟩
def dX (n:bM):Nat:=if 5<aZ n.E.length\/n.B.drop 5≠List.replicate 8 0 then aZ n.E.length+1 else aZ n.E.length
theorem ME (n:bM)(a:Option Addr)(cap:Nat)(h:n.B.length=13)(hE:n.E.length<=100000)(w:World):Calls Tryz.prog 191 #[.agg (aU n (.slice a n.E.length cap))] w λe w'=>e= .returned (.int .i64 ((dX n:Nat):Int))/\ay [] w w':=by
 have Uy:=ar (oD n a cap h hE);have HR:=ar (FL n.B h);have sG:=FB;have Ic:=Hr;have Dl:=ar (λz=>Xs (a:=n.B.drop 5) (b:=List.replicate 8 0) (by simp[h]) rfl z);have fS:Hid (ay [] w (w.alloc (.cells (aU n (.slice a n.E.length cap)) 110))):=(ay.refl [] w).alloc _;have nu:Hid (bm (w.alloc (.cells (aU n (.slice a n.E.length cap)) 110)) w.heap.size (aU n (.slice a n.E.length cap)) 110):=bm.new _ _ _;have vv:=ar (λ(z:World) (hb:bm z w.heap.size (aU n (.slice a n.E.length cap)) 110)=>cH hb h);have n5:=ar (λ(z:World) (hb:bm z w.heap.size (aU n (.slice a n.E.length cap)) 110)=>eD (off:=4) hb h λk hk=>ya _ (by omega));have W:=ar (vv.out _ nu.out);have aa:aZ n.E.length<=1000000:=by unfold aZ;omega
 unfold dX;generalize U:n.B.drop 5=d at *;generalize aU n (.slice a n.E.length cap)=Z at *;generalize (zs n.B).toArray=ZB at *;clear U h hE;generalize aZ n.E.length=m at *;by_cases hm:5<m
 ·have Xo:(5:Int)<(m:Int):=by omega
  rw[aB (.inl hm)];go_enter Tryz.func191,Tryz.ntmps191;go_wp2_with(with_reducible refine gL 110 W.out ?_);refine(Uy.out _).mono ?_;rintro e w1 ⟨rfl,y⟩;have iH:=ar (fS.out.trans y (by simp));clear y;go_wp2_with fail;go_ret;exact⟨rfl,iH.out⟩
 ·have Xo:¬(5:Int)<(m:Int):=by omega
  obtain⟨t,V⟩:∃t,decide (d=List.replicate 8 0)=t:=⟨_,rfl⟩;rw[V] at Dl;have J:(if 5<m\/d≠List.replicate 8 0 then m+1 else m)=if t=true then m else m+1:=by
   rw[<-V];generalize List.replicate 8 (0:Int)=z8;by_cases U:d=z8
   ·simp[U,hm]
   ·simp[U]
  rw[J];clear J V;generalize (zs (List.replicate 8 0)).toArray=Z8 at *;generalize (zs d).toArray=ZD at *;go_enter Tryz.func191,Tryz.ntmps191;go_wp2_with(with_reducible refine gL 110 W.out ?_);refine(Uy.out _).mono ?_;rintro e w1 ⟨rfl,y⟩;have iH:=ar (fS.out.trans y (by simp));have qa:=ar (nu.out.keep y (by simp));have qQ:=ar (n5.out _ qa.out);have ac:=Dl.out;clear y W;cases t;all_goals
   go_wp2_with(first|((with_reducible show wpList _ _ _ (⟨_,.load 108 (.tmp 9),_,_,_,_⟩::_) _ _);refine dC (by simp[Region.wanted,yielded,Xo]) 108 (.tmp 9) rfl _ rfl _ qQ.out ?_)|(go_at_call 206;refine(HR.out _).mono ?_;rintro e w2 ⟨rfl,G⟩;have fj:=ar (iH.out.trans G (by simp));clear G));go_ret;exact⟨rfl,fj.out⟩
theorem NV (w:World):(zeroValue 224).run Tryz.prog w= .ok (.agg (bools (List.replicate 256 false)).toArray) w:=by kernel_rfl
theorem Ab (l:List Int)(hl:l.length=13)(w:World):Calls Tryz.prog 166 #[.agg (zs l).toArray] w λe w'=>e= .returned (.bool (decide (kp l)))/\ay [] w w':=by
 have ac:=bm.new w (zs l).toArray 108;have hL:=eD (off:=0) (ac.alloc (.cells (bools (List.replicate 256 false)).toArray 224)) hl (λk hk=>by rw[aX,aC,eR (by omega)]);have HZ:Hid (∀k,k<13->(zs l).toArray[k]? =some (.int .i64 (l.getD k 0))):=λk hk=>by rw[aC,eR (by omega)]
 have HL:=ar hL;have HB:Hid (bm ((w.alloc (.cells (zs l).toArray 108)).alloc (.cells (bools (List.replicate 256 false)).toArray 224)) (w.heap.size+1) (bools (List.replicate 256 false)).toArray 224):=by
  have :=bm.new (w.alloc (.cells (zs l).toArray 108)) (bools (List.replicate 256 false)).toArray 224;have e:(w.alloc (.cells (zs l).toArray 108)).heap.size=w.heap.size+1:=by simp
  rw[e] at this;exact this
 have HK:Hid (ay [] w ((w.alloc (.cells (zs l).toArray 108)).alloc (.cells (bools (List.replicate 256 false)).toArray 224))):=((ay.refl _ _).alloc _).alloc _;have p8:=NV;rw[Bu l] at HB HK HL;rw[Bu l] at p8;clear ac hL hl;generalize aa:(bools (oB l 0)).toArray=S0 at *;generalize (zs l).toArray=Z at *;go_enter Tryz.func166,Tryz.ntmps166;go_wp2_with(with_reducible refine gL 108 HL.out ?_);clear p8 HL;go_loopg [7] 13 (λgh s7 wx=>∃k:Nat,k+gh=13/\s7= .int .i64 (k:Int)/\Hid (bm wx (w.heap.size+1) (bools (oB l k)).toArray 224/\(∀i,i<k->(0<=l.getD i 0/\l.getD i 0<256)/\(l.getD i 0≠0->∀j,j<i->l.getD j 0≠l.getD i 0))/\ay [] w wx))
 case atStart=>exact⟨0,by omega,rfl,by rw[aa];exact HB.out,by simp,HK.out⟩
 case round=>
  clear HB HK aa;obtain⟨k,hk,rfl,J⟩:=hrel;cases gk with
  |zero=>
   obtain rfl:k=13:=by omega
   have HT:Hid (decide (kp l)=true):=bj J.out.2.1;have V:=ar J.out.2.2;clear J hk;go_wp2_with fail;go_ret;exact⟨by rw[HT.out];rfl,V.out⟩
  |succ gg=>
   have mv:k<13:=by omega
   have aj:(k:Int)<13:=by omega
   have ez:(0:Int)<=(k:Int):=by omega
   have af:=Em mv (HZ.out k mv);have U:Hid (kp l->(0<=l.getD k 0/\l.getD k 0<256)/\(l.getD k 0≠0->∀j,j<k->l.getD j 0≠l.getD k 0)):=λh=>h k mv
   have Vq:=ar (λc he=>KD l k c he);have y:=ar (λc G=>NN l k c G);have V:=ar J.out.2.2;by_cases FM:l.getD k 0<0
   ·have HF:Hid (decide (kp l)=false):=aT λh=>by have :=(U.out h).1;omega
    clear J U Vq y hk;generalize l.getD k 0=x at *;go_wp2_with fail;go_ret;exact⟨by rw[HF.out];rfl,V.out⟩
   ·by_cases FN:256<=l.getD k 0
    ·have HF:Hid (decide (kp l)=false):=aT λh=>by have :=(U.out h).1;omega
     clear J U Vq y hk;generalize l.getD k 0=x at *;go_wp2_with fail;go_ret;exact⟨by rw[HF.out];rfl,V.out⟩
    ·obtain⟨c,G⟩:∃c:Nat,l.getD k 0=(c:Int):=⟨(l.getD k 0).toNat,by omega⟩
     rw[G] at af FM FN;have tq:c<256:=by omega
     have ah:(c:Int)<256:=by omega
     have ae:(0:Int)<=(c:Int):=by omega
     obtain⟨hb,kD,-⟩:=J.out;have z:wr.cell? ⟨w.heap.size+1,c,none⟩=some (.bool ((oB l k).getD c false)):=by
      rw[hb.cell,aC,pO (by rw[tU];exact tq)]
     have hf:wr.frozen? ⟨w.heap.size+1,c,none⟩=false:=hb.frozen c;have nY:Hid (bm (wr.setCell ⟨w.heap.size+1,c,none⟩ (.bool true)) (w.heap.size+1) (bools (oB l (k+1))).toArray 224):=by
      have :=hb.set c (.bool true);rw[ag,xR,Vq.out c G] at this;exact this
     have W:=y.out c tq;have pY:=ar kD;by_cases h0:c=0
     ·subst h0
      have RM:Hid (∀i,i<k+1->(0<=l.getD i 0/\l.getD i 0<256)/\(l.getD i 0≠0->∀j,j<i->l.getD j 0≠l.getD i 0)):=λi hi=>by
       by_cases e:i=k
       ·subst e
        rw[G];exact⟨by decide,λh=>absurd rfl h⟩
       ·exact pY.out i (by omega)
      clear J U Vq y hb kD W pY FM FN G;generalize (oB l k).getD 0 false=sv at *;go_wp2_with fail;go_roundg gg;case measure=>omega
      case rel=>exact⟨k+1,by omega,by go_num,nY.out,RM.out,V.out.setCell (by simp) _⟩
     ·have ak:((c:Int) != 0)=true:=by simp;omega
      cases Uz:(oB l k).getD c false
      ·have RM:Hid (∀i,i<k+1->(0<=l.getD i 0/\l.getD i 0<256)/\(l.getD i 0≠0->∀j,j<i->l.getD j 0≠l.getD i 0)):=λi hi=>by
        by_cases e:i=k
        ·subst e
         rw[Uz] at W;have ai:=of_decide_eq_false W.symm;rw[G];exact⟨⟨ae,ah⟩,λ_ j hj e=>ai ⟨j,hj,e⟩⟩
        ·exact pY.out i (by omega)
       rw[Uz] at z;clear J U Vq y hb kD W pY FM FN G Uz;go_wp2_with fail;go_roundg gg;case measure=>omega
       case rel=>exact⟨k+1,by omega,by go_num,nY.out,RM.out,V.out.setCell (by simp) _⟩
      ·rw[Uz] at W z
       obtain⟨j,hj,he⟩:=of_decide_eq_true W.symm;have HF:Hid (decide (kp l)=false):=aT λh=>(U.out h).2 (by omega) j hj (by rw[he,G])
       clear J U Vq y hb kD W pY FM FN G Uz hk he;go_wp2_with fail;go_ret;exact⟨by rw[HF.out];rfl,V.out⟩
theorem FO (n:bM)(a:Option Addr)(cap:Nat)(U:n.B.length=13)(w:World):Calls Tryz.prog 135 #[.agg (aU n (.slice a n.E.length cap))] w λe w'=>e= .returned (.bool (decide (mW n)))/\ay [] w w':=by
 obtain⟨Z,hZ⟩:∃Z,Z=aU n (.slice a n.E.length cap):=⟨_,rfl⟩;have J:Mv Z n (.slice a n.E.length cap):=by rw[hZ];exact jo _ U
 rw[<-hZ];have V:=bm.new w Z 110;have c3:(w.alloc (.cells Z 110)).cell? ⟨w.heap.size,3,none⟩=some (.int .i64 n.S):=by rw[V.cell];exact J.f3
 have aa:(w.alloc (.cells Z 110)).cell? ⟨w.heap.size,17,none⟩=some (.slice a n.E.length cap):=by rw[V.cell];exact J.f5
 have HK:Hid (ay [] w (w.alloc (.cells Z 110))):=(ay.refl [] w).alloc _;have nu:=ar V;have n5:Hid (∀y:World,bm y w.heap.size Z 110->(loadVar 108 ⟨w.heap.size,4,none⟩).run Tryz.prog y= .ok (.agg (zs n.B).toArray) y):=λy hb=>eD (off:=4) hb U J.f4
 have Xz:Hid (∀y:World,bm y w.heap.size Z 110->(loadVar 3 ⟨w.heap.size,3,none⟩).run Tryz.prog y= .ok (.int .i64 n.S) y):=λy hb=>Bv (off:=3) Tryz.underlying3 hb J.f3
 clear V hZ;by_cases h0:n.S<0
 ·have W:Hid (decide (mW n)=false):=aT λh=>by have :=h.1.1;omega
  generalize n.S=s at *;clear U;go_enter Tryz.func135,Tryz.ntmps135;go_wp2_with fail;go_ret;exact⟨by rw[W.out];rfl,HK.out⟩
 ·by_cases h1:832<n.S
  ·have W:Hid (decide (mW n)=false):=aT λh=>by have :=h.1.2;omega
   generalize n.S=s at *;clear U;go_enter Tryz.func135,Tryz.ntmps135;go_wp2_with fail;go_ret;exact⟨by rw[W.out];rfl,HK.out⟩
  ·by_cases h2:n.E.length=0
   ·have HP:=ar (tj n.S.toNat 64 (by omega) (by omega) (by omega))
    have NW:bY n.S.toNat<=13:=by unfold bY;omega
    rw[show(n.S.toNat+64-1)/64=bY n.S.toNat by unfold bY;congr 1] at HP;have HU:=ar (MB n.B (bY n.S.toNat) U NW);have HN:=ar (Ab n.B U);have HE:=ar (λy=>KC (a:=n.B) (b:=iz n.B (bY n.S.toNat)) U (mr U NW) y);have YR:=yb;have HD:Hid (decide (mW n)=(decide (n.B=iz n.B (bY n.S.toNat))&&decide (kp n.B))):=by
     have Ie:mW n↔(n.B=iz n.B (bY n.S.toNat)/\kp n.B):=⟨λh=>⟨h.2.2.1,h.2.2.2⟩,λh=>⟨⟨by omega,by omega⟩,h2,h.1,h.2⟩⟩;show _=_;rw[decide_eq_decide.2 Ie,Bool.decide_and]
    obtain⟨s,hs⟩:∃s:Nat,n.S=(s:Int):=⟨n.S.toNat,by omega⟩;rw[h2] at aa;rw[hs] at h0 h1 c3 Xz HP HD HE HU NW;rw[aH] at HP HU HE HD NW;generalize bY s=p at *;obtain⟨t,ht⟩:∃t,decide (n.B=iz n.B p)=t:=⟨_,rfl⟩;rw[ht] at HD HE;generalize decide (kp n.B)=q at *;generalize (zs (iz n.B p)).toArray=ZU at *;generalize (zs n.B).toArray=ZB at *;have ac:=HE.out;clear ht U hs HE h2 J;cases t;all_goals
     go_enter Tryz.func135,Tryz.ntmps135;go_wp2_with fail;refine dv (S:=λy=>ay [] (w.alloc (.cells Z 110)) y) (by kernel_rfl) (by kernel_rfl) (λd _ _ _ _ h=>by cases d<;>exact h) ((ay.refl _ _).drew) (by kernel_rfl) ?_;repeat (first
      |(refine aJ.cons (.agg ZB) (ba.load rfl 108 (.tmp 17) rfl _ rfl λy z=>n5.out _ (nu.out.keep z (by simp))) ?_;simp only[Act.put,ag,ah,ai])
      |(refine aJ.cons (.agg ZB) (ba.load rfl 108 (.tmp 19) rfl _ rfl λy z=>n5.out _ (nu.out.keep z (by simp))) ?_;simp only[Act.put,ag,ah,ai])
      |(refine aJ.cons _ (ba.load rfl 3 (.tmp 21) rfl _ rfl λy z=>Xz.out _ (nu.out.keep z (by simp))) ?_;simp only[Act.put,ag,ah,ai])
      |(refine aJ.cons (.int .i64 (p:Int)) (ba.call rfl 165 #[.int .i64 (s:Int),.int .i64 64] ?G ?h) ?_;(case G=>(intro wz;go_simp));(case h=>exact λy z=>(HP.out y).mono λe w' G=>⟨G.1,by rw[<-G.2];exact z⟩);simp only[Act.put,ag,ah,ai])
      |(refine aJ.cons (.agg ZU) (ba.call rfl 164 #[.agg ZB,.int .i64 (p:Int)] ?G ?h) ?_;(case G=>(intro wz;go_simp));(case h=>exact λy z=>(HU.out y).mono λe w' G=>⟨G.1,z.trans' G.2⟩);simp only[Act.put,ag,ah,ai])
      |(refine aJ.cons (.agg ZB) (ba.load rfl 108 (.tmp 27) rfl _ rfl λy z=>n5.out _ (nu.out.keep z (by simp))) ?_;simp only[Act.put,ag,ah,ai])
      |(refine aJ.cons (.bool q) (ba.call rfl 166 #[.agg ZB] ?G ?h) ?_;(case G=>(intro wz;go_simp));(case h=>exact λy z=>(HN.out y).mono λe w' G=>⟨G.1,z.trans' G.2⟩);simp only[Act.put,ag,ah,ai])
      |(refine aJ.cons undef (ba.off rfl) ?_;simp only[Act.put,ag,ah,ai])
      |(refine aJ.cons ?_ (ba.val rfl ?h) ?_;(case h=>(intro y z;go_simp;rfl));simp only[Act.put,ag,ah,ai]))
     refine aJ.done λwz hz=> ?_
     have HZ:=ar (HK.out.trans' hz);clear hz;go_wp2_with fail;go_ret;exact⟨by rw[HD.out];rfl,HZ.out⟩
   ·have W:Hid (decide (mW n)=false):=aT λh=>h2 h.2.1
    have e2:((n.E.length:Nat):Int)≠0:=by omega
    have e3:(((n.E.length:Nat):Int) != 0)=true:=bne_iff_ne.2 e2;generalize n.S=s at *;generalize n.E.length=m at *;clear U J;go_enter Tryz.func135,Tryz.ntmps135;go_wp2_with fail;go_ret;exact⟨by rw[W.out];rfl,HK.out⟩
def YS (l:List Int):Prop:=∀k,0<=l.getD k 0/\l.getD k 0<9223372036854775808
theorem kr{x:Int}(h:0<=x)(y:x<9223372036854775808):IntKind.u64.wrap x=x:=by rw[fu];omega
theorem KM (l:List Int)(hl:l.length=13)(hn:YS l)(w:World):Calls Tryz.prog 194 #[.agg (zs l).toArray] w λe w'=>e= .returned (.agg (aR (l.drop 5)).toArray)/\ay [] w w':=by
 have U:(l.drop 5).length=8:=by simp[hl]
 have XA:Hid (∀k,0<=(l.drop 5).getD k 0/\(l.drop 5).getD k 0<9223372036854775808):=λk=>by
  have :=hn (5+k);simpa[aj] using this
 have HR:=ar (FL l hl);have ae:=bm.new w (zs l).toArray 108;have xH:(aR (List.replicate 8 0)).toArray=(aR (cU 0 (l.drop 5) 0)).toArray:=by rw[iM,U]
 obtain⟨J,h⟩:∃J,J=((w.alloc (.cells (zs l).toArray 108)).alloc (.cells (aR (List.replicate 8 0)).toArray 188)).alloc (.cells (aR (List.replicate 8 0)).toArray 188):=⟨_,rfl⟩;have nY:Hid (bm J (w.heap.size+1) (aR (List.replicate 8 0)).toArray 188):=by
  have :=(bm.new (w.alloc (.cells (zs l).toArray 108)) (aR (List.replicate 8 0)).toArray 188).alloc (.cells (aR (List.replicate 8 0)).toArray 188);have e:(w.alloc (.cells (zs l).toArray 108)).heap.size=w.heap.size+1:=by simp
  rw[e,<-h] at this;exact this
 have qb:Hid (bm J (w.heap.size+2) (aR (cU 0 (l.drop 5) 0)).toArray 188):=by
  have :=bm.new ((w.alloc (.cells (zs l).toArray 108)).alloc (.cells (aR (List.replicate 8 0)).toArray 188)) (aR (List.replicate 8 0)).toArray 188;have e:((w.alloc (.cells (zs l).toArray 108)).alloc (.cells (aR (List.replicate 8 0)).toArray 188)).heap.size=w.heap.size+2:=by simp
  rw[e,<-h,xH] at this;exact this
 have HK:Hid (ay [] w J):=by
  show ay _ _ _;rw[h];exact(((ay.refl [] w).alloc _).alloc _).alloc _
 have HL:Hid ((loadVar 108 ⟨w.heap.size,0,none⟩).run Tryz.prog J= .ok (.agg (zs l).toArray) J):=by
  rw[h];exact eD (off:=0) ((ae.alloc _).alloc _) hl (λk hk=>by rw[aX,aC,eR (by omega)])
 have HX:Hid (∀k,k<8->(zs (l.drop 5)).toArray[k]? =some (.int .i64 ((l.drop 5).getD k 0))):=λk hk=>by rw[aC,eR (by omega)]
 have p8:=jd;have nv:=ar h;clear ae xH hn h;generalize l.drop 5=d at *;generalize (zs l).toArray=Z at *;generalize (zs d).toArray=D at *;generalize sG:(aR (List.replicate 8 0)).toArray=Z8 at *;clear hl;go_enter Tryz.func194,Tryz.ntmps194;go_wp2_with((with_reducible show wpList _ _ _ (⟨_,.load 108 (.tmp 1),_,_,_,_⟩::_) _ _);rw[<-nv.out];refine eU rfl 108 (.tmp 1) rfl _ rfl _ HL.out ?_);refine(HR.out _).mono ?_;rintro e w1 ⟨rfl,dc⟩;have V:=ar (nY.out.keep dc (by simp));have aa:=ar (qb.out.keep dc (by simp));have iH:=ar (HK.out.trans' dc);clear dc nv nY qb HL;go_wp2_with fail;go_loopg [8] 8 (λgh s8 wx=>∃k:Nat,k+gh=8/\s8= .int .i64 (k:Int)/\Hid (bm wx (w.heap.size+2) (aR (cU 0 d k)).toArray 188/\bm wx (w.heap.size+1) Z8 188/\ay [] w wx))
 case atStart=>exact⟨0,by omega,rfl,aa.out,V.out,iH.out⟩
 case round=>
  clear V aa HK iH p8;obtain⟨k,hk,rfl,z⟩:=hrel;cases gk with
  |zero=>
   obtain rfl:k=8:=by omega
   have G:=z.out.1;rw[show cU 0 d 8=d by rw[<-U];exact jl 0 d] at G;have HL:=ar (ea G U);obtain⟨w2,hS,W,ac⟩:=br (P:= Tryz.prog) (ty:= 188) (cs:=aR d) (by rw[bc,U];exact gH) z.out.2.1 (by rw[<-sG];simp[bc,U]) (eu _);have HS:=ar hS;have pw:=ar (ea W U);have gI:=ar (z.out.2.2.trans ac (by simp));clear hS G W ac z hk;go_wp2_with(first|(with_reducible refine gL 188 HL.out ?_)|(with_reducible refine gS 188 HS.out ?_));exact aK (dP Tryz.results194 rfl pw.out) rfl ⟨rfl,gI.out⟩
  |succ gg=>
   have qP:k<8:=by omega
   have ai:(k:Int)<8:=by omega
   have ez:(0:Int)<=(k:Int):=by omega
   have zW:=Ry qP (HX.out k qP);have hw:=kr (XA.out k).1 (XA.out k).2;have ah:wr.cell? ⟨w.heap.size+2,k,none⟩=some (.int .u64 ((cU 0 d k).getD k 0)):=by
    rw[z.out.1.cell,aC,cC (by rw[iU _ _ _ (by omega)];omega)]
   have hf:wr.frozen? ⟨w.heap.size+2,k,none⟩=false:=z.out.1.frozen k;have HB:Hid (bm (wr.setCell ⟨w.heap.size+2,k,none⟩ (.int .u64 (d.getD k 0))) (w.heap.size+2) (aR (cU 0 d (k+1))).toArray 188):=by
    have :=z.out.1.set k (.int .u64 (d.getD k 0));rw[ag,jw,iN 0 d k (by omega) (d.getD k 0) (by simp[show k<d.length by omega])] at this;exact this
   have af:Hid (bm (wr.setCell ⟨w.heap.size+2,k,none⟩ (.int .u64 (d.getD k 0))) (w.heap.size+1) Z8 188):=z.out.2.1.other (by simp) _;have gI:=ar z.out.2.2;clear z;generalize d.getD k 0=x at *;generalize (cU 0 d k).getD k 0=y at *;go_wp2_with fail;go_roundg gg;case measure=>omega
   case rel=>exact⟨k+1,by omega,by go_num,HB.out,af.out,gI.out.setCell (.inr (by show w.heap.size<=w.heap.size+2;omega)) _⟩
end Go.Proofs.YtcecbdeamjigiaaGreatDoor
