/- Lemmas. -/
import Derived.OrdersHeld
import Derived.Test.YtepbpdipenedhaaGreatDoorS03
set_option maxHeartbeats 8000000
set_option maxRecDepth 100000
namespace Go.Proofs.YtepbpdipenedhaaGreatDoor
open Go.Proofs.Tryz
variable{w:World}{v:Value}
section
variable {P:Program} {ops:Array Oper} {Q:Exit->Act->World->Prop} {md:Region.Mode} {S:World->Prop}
def Steps (P:Program) (S:World->Prop) (v:Value):Result Next->Prop
 | .ok (.value u) w'=>u=v/\S w'
 | .ok .skip w'=>v=undef/\S w'
 | .ok (.enter f args) w'=>Calls P f args w' λe h=>e= .returned v/\S h
 |_=>False
def aX (P:Program) (ops:Array Oper) (S:World->Prop) (o:Oper) (v:Value) (a:Act):Prop:=
 (Region.wanted o (yielded ops a.tmps)=true/\∀w,S w->Steps P S v ((execOp a.eval o).run P w))\/(Region.wanted o (yielded ops a.tmps)=false/\v=undef)
theorem aX.of_same{o:Oper}{v:Value}{a h:Act}(G:aX P ops S o v a)(z:execOp h.eval o=execOp a.eval o)
  (y:Region.wanted o (yielded ops h.tmps)=Region.wanted o (yielded ops a.tmps)):aX P ops S o v h:=by
 unfold aX at *;rw[z,y];exact G
theorem aX.wpOp{i:Nat}{o:Oper}{v:Value}{a:Act}(U:ops[i]? =some o)(Z:aX P ops S o v a){K:Act->World->Prop}{w:World}(J:S w)(h:∀w',S w'->K (a.put o.dst v) w'):wpOp P ops Q i K a w:=by
 unfold Go.wpOp;simp only[U];rcases Z with ⟨G,W⟩|⟨G,rfl⟩
 ·have z:=W w J
  simp only[G,if_true];refine .inl ?_;unfold Oper.wp;generalize (execOp a.eval o).run P w=r at *;cases r with
  |ok n w'=>
   cases n with
   |value u=>obtain⟨rfl,y⟩:=z;exact h _ y
   |skip=>obtain⟨rfl,y⟩:=z;exact h _ y
   |enter f args=>
    refine Calls.mono z λe aa V=> ?_
    obtain⟨rfl,y⟩:=V;exact h _ y
   |_=>exact z.elim
  |halt x w'=>exact z.elim
 ·simp only[G,Bool.false_eq_true,if_false];exact h _ J
def BH (P:Program) (ops:Array Oper) (S h:World->Prop) (o:Oper) (v:Value) (a:Act):Prop:=
 Region.wanted o (yielded ops a.tmps)=true/\∀w,S w->Steps P h v ((execOp a.eval o).run P w)
theorem BH.wpOp{S G:World->Prop}{i:Nat}{o:Oper}{v:Value}{a:Act}(J:ops[i]? =some o)(hy:BH P ops S G o v a){K:Act->World->Prop}{w:World}(V:S w)(h:∀w',G w'->K (a.put o.dst v) w'):wpOp P ops Q i K a w:=by
 unfold Go.wpOp;simp only[J];obtain⟨Z,W⟩:=hy;have z:=W w V;simp only[Z,if_true];refine .inl ?_;unfold Oper.wp;generalize (execOp a.eval o).run P w=r at *;cases r with
 |ok n w'=>
  cases n with
  |value u=>obtain⟨rfl,y⟩:=z;exact h _ y
  |skip=>obtain⟨rfl,y⟩:=z;exact h _ y
  |enter f args=>
   refine Calls.mono z λe aa U=> ?_
   obtain⟨rfl,y⟩:=U;exact h _ y
  |_=>exact z.elim
 |halt x w'=>exact z.elim
def BI (P:Program) (ops:Array Oper) (S:Bool->World->Prop) (o:Oper) (v:Value) (a:Act):Prop:=∀b,aX P ops (S b) o v a
theorem FV {S:Bool->World->Prop}{j:Nat}{y G:Oper}{v:Value}(hj:ops[j]? =some G)(ag:y.apart ops G=true)
  (ae:∀cs b,y.op≠.select cs b) (W:∀cs b,G.op≠.select cs b)
  (hQ:∀c a w,Q (.panic c) (a.put y.dst v) w->Q (.panic c) a w) {K:Act->World->Prop} {a:Act} {w:World}
  (J:BI P ops S y v a) (h:wpOp P ops Q j K (a.put y.dst v) w):
  wpOp P ops Q j (λa' w'=>BI P ops S y v a'/\K (a'.put y.dst v) w') a w:=by
 obtain⟨Z,U,h3⟩:=Oper.apart_spec ag;have keep:∀(a:Act),BI P ops S y v a->∀u,BI P ops S y v (a.put G.dst u):=λa J u=>
  λb=>(J b).of_same (execOp_put y ae a G.dst u h3) (wanted_put y a G.dst u h3)
 have ac:∀d,BI P ops S y v { a with defers:=d::a.defers }:=λd=>λb=>(J b).of_same rfl rfl
 unfold Go.wpOp at *;simp only[hj] at *;rw[wanted_put G a y.dst v Z] at h;split
 ·rename_i hw
  simp only[hw,if_true] at h;rcases h with h|⟨z,aa⟩
  case inr=>exact .inr ⟨by unfold Oper.asks at *;rw[execOp_put G W a y.dst v Z] at z;exact z,aa⟩
  refine .inl ?_;unfold Oper.wp at *;rw[execOp_put G W a y.dst v Z] at h;generalize (execOp a.eval G).run P w=r at *;cases r with
  |ok n w'=>
   cases n<;>simp only[Oper.upon] at h ⊢
   case value u=>exact⟨keep a J u,by rw[<-Act.put_comm a v u U];exact h⟩
   case skip=>exact⟨keep a J _,by rw[<-Act.put_comm a v undef U];exact h⟩
   case defer d=>
    refine⟨keep _ (ac d) _,?_⟩;rw[<-Act.put_comm _ v undef U,<-Act.put_defers];exact h
   case enter f args=>
    refine Calls.mono h λe af V=> ?_
    cases e with
    |returned u=>exact⟨keep a J u,by rw[<-Act.put_comm a v u U];exact V⟩
    |panicked c=>exact hQ _ _ _ V
    |outgrown=>exact V
   case row row args=>exact Rows.mono h λu af V=>⟨keep a J u,by rw[<-Act.put_comm a v u U];exact V⟩
  |halt x w'=>
   cases x<;>simp only[Oper.upon] at h ⊢
   case panic u=>exact hQ _ _ _ h
 ·rename_i hw
  simp only[hw] at h;exact⟨keep a J _,by rw[<-Act.put_comm a v undef U];exact h⟩
def yE (md:Region.Mode) (ops:Array Oper) (h:Array Bool):Prop:=
 ∀k o,ops[k]? =some o->h.getD k true=true->∀e∈o.after,Region.binds md e=true->h.getD e.on false=true
def leads (md:Region.Mode) (ops:Array Oper):Nat->Nat->Nat->Bool
 |0,_,_=>false
 |fuel+1,i,L=>(List.range ops.size).any λk=>k != i&&((ops[k]?).map (·.after.any λe=>Region.binds md e&&e.on==i)).getD false&&(k==L||leads md ops fuel k L)
theorem Ey {y:Array Bool}{i:Nat}(h:y.getD i true=false):y.getD i false=false:=by
 rcases dg i y.size with z|z
 ·simp[z] at h ⊢;exact h
 ·simp[Array.getElem?_eq_none z] at h
theorem Io {y:Array Bool}(hc:yE md ops y):∀(fuel i L:Nat),leads md ops fuel i L=true->y.getD i true=false->L∉Region.ready md ops y:=by
 intro fuel;induction fuel with
 |zero=>intro i L h;simp[leads] at h
 |succ fuel ih=>
  intro i L h hi;unfold leads at h;rw[List.any_eq_true] at h;obtain⟨k,-,hk⟩:=h;simp only[fR,Bool.or_eq_true,bne_iff_ne,ne_eq] at hk;obtain⟨⟨-,J⟩,z⟩:=hk;cases ho:ops[k]? with
  |none=>simp[ho] at J
  |some o=>
   have Z:o.after.any (λe=>Region.binds md e&&e.on==i)=true:=by simpa[ho] using J
   obtain⟨e,he,W⟩:=Array.any_eq_true'.1 Z;simp only[fR,beq_iff_eq] at W;obtain⟨hb,uK⟩:=W;have G:y.getD e.on false=false:=by rw[uK];exact Ey hi
   by_cases U3:k=L
   ·subst U3
    intro hm;obtain⟨-,o',V,U⟩:=mem_ready.1 hm;rw[ho] at V;cases V;rw[U e he hb] at G;cases G
   ·rcases z with z|z
    ·exact absurd (by simpa using z) U3
    ·refine ih k L z ?_
     cases hl:y.getD k true with
     |false=>rfl
     |true=>
      rw[hc k o ho hl e he hb] at G;cases G
theorem BJ {h:Array Bool}{j:Nat}(hc:yE md ops h)(Z:j∈Region.ready md ops h):yE md ops (h.setIfInBounds j true):=by
 intro k o W V e J U;by_cases G:j=k
 ·subst G
  obtain⟨-,o',y,z⟩:=mem_ready.1 Z;rw[W] at y;cases y;exact getD_set_true (z e J U)
 ·rw[Go.getD_set_ne true G] at V
  exact getD_set_true (hc k o W V e J U)
def tF (P:Program) (md:Region.Mode) (ops:Array Oper) (Q:Exit->Act->World->Prop) (S:Bool->World->Prop) (F L:Nat):Nat->Array Bool->Act->Prop
 |0,listed,a=>Region.ready md ops listed=[]/\∀w,S (listed.getD F false) w->Q .normal a w
 |fuel+1,listed,a=>
  (Region.ready md ops listed=[]->∀w,S (listed.getD F false) w->Q .normal a w)/\
  (∀i∈Region.ready md ops listed,i≠L->∀w,S (listed.getD F false) w->wpOp P ops Q i (λh w'=>S ((listed.setIfInBounds i true).getD F false) w'/\tF P md ops Q S F L fuel (listed.setIfInBounds i true) h) a w)/\
  (L∈Region.ready md ops listed->∀w,S (listed.getD F false) w->wpOp P ops Q L (wpAny P md ops Q fuel (listed.setIfInBounds L true)) a w)
theorem lY {S:Bool->World->Prop}{F L:Nat}:∀(fuel:Nat) (y:Array Bool) (a:Act),tF P md ops Q S F L fuel y a->∀w,S (y.getD F false) w->wpAny P md ops Q fuel y a w
 |0,_,_,h,w,hS=>⟨h.1,h.2 w hS⟩
 |fuel+1,y,a,h,w,hS=>by
  refine⟨λV=>h.1 V w hS,λi z=> ?_⟩;by_cases G:i=L
  ·subst G
   exact h.2.2 z w hS
  ·exact wpOp_mono (λU w' J=>lY fuel _ U J.2 w' J.1) (h.2.1 i z G w hS)
theorem mK {y:Array Bool}{i j:Nat}(h:i≠j):(y.setIfInBounds i true).getD j false=y.getD j false:=by
 simp[Array.getElem?_setIfInBounds_ne h]
theorem FW {S:Bool->World->Prop}{i F L:Nat}{Z:Oper}{v:Value}(hi:ops[i]? =some Z)(au:i≠L)(U:i≠F)(aa:∀(j:Nat) (o:Oper) cs b,ops[j]? =some o->o.op≠.select cs b)
  (hQ:∀c a w,Q (.panic c) (a.put Z.dst v) w->Q (.panic c) a w) (hL:L≥ops.size\/leads md ops ops.size i L=true):
  ∀(fuel:Nat) (y:Array Bool) (a:Act),yE md ops y->
   (∀j V,ops[j]? =some V->j≠i->y.getD j true=false->(∀e∈V.after,Region.binds md e=true->e.on≠i)->Z.apart ops V=true)->
   i∈Region.ready md ops y->BI P ops S Z v a->
   tF P md ops Q S F L fuel (y.setIfInBounds i true) (a.put Z.dst v)->tF P md ops Q S F L (fuel+1) y a:=by
 have ac:∀y:Array Bool,yE md ops y->i∈Region.ready md ops y->L∉Region.ready md ops y:=by
  intro y hc G hm;rcases hL with hL|hL
  ·obtain⟨-,o,ho,-⟩:=mem_ready.1 hm
   rw[Array.getElem?_eq_none hL] at ho;cases ho
  ·exact Io hc _ i L hL (mem_ready.1 G).1 hm
 intro fuel;induction fuel with
 |zero=>
  intro y a hc _ G hy H;refine⟨λh=>(by rw[h] at G;cases G),λj hj _ w hS=> ?_,λhm=>absurd hm (ac y hc G)⟩;by_cases J:j=i
  ·subst J;exact(hy _).wpOp hi hS λw' W4=>⟨by rw[mK U];exact W4,H⟩
  ·have :=ready_mono hj J
   rw[H.1] at this;cases this
 |succ fuel ih=>
  intro y a hc z G hy H;refine⟨λh=>(by rw[h] at G;cases G),λj hj ai w hS=> ?_,λhm=>absurd hm (ac y hc G)⟩;by_cases J:j=i
  ·subst J;exact(hy _).wpOp hi hS λw' W4=>⟨by rw[mK U];exact W4,H⟩
  ·have h1:=H.2.1 j (ready_mono hj J) ai w (by rw[mK U];exact hS)
   obtain⟨ah,V,W,af⟩:=mem_ready.1 hj;have ar:∀e∈V.after,Region.binds md e=true->e.on≠i:=λe he hb ak=>by
    have h1:=af e he hb;have h0:=(mem_ready.1 G).1;rw[ak] at h1;rw[Ey h0] at h1;cases h1
   have h2:=FV W (z j V W J ah ar) (λcs b=>aa i Z cs b hi) (λcs b=>aa j V cs b W) hQ hy h1;have Yh:∀k ok,ops[k]? =some ok->k≠i->(y.setIfInBounds j true).getD k true=false->
     (∀e∈ok.after,Region.binds md e=true->e.on≠i)->Z.apart ops ok=true:=λk ok hk ya ag aj=>by
    refine z k ok hk ya ?_ aj;by_cases ae:j=k
    ·subst ae;exact ah
    ·rw[Go.getD_set_ne true ae] at ag;exact ag
   refine wpOp_mono (λa' w' h3=> ?_) h2;obtain⟨h4,h5,h6⟩:=h3;rw[Array.setIfInBounds_comm _ _ (eu J)] at h6;rw[Array.setIfInBounds_comm _ _ (eu J),mK U] at h5;exact⟨h5,ih (y.setIfInBounds j true) a' (BJ hc hj) Yh (ready_mono G (eu J)) h4 h6⟩
def dU (n i:Nat):Array Bool:=((List.range n).map λk=>decide (k<i)).toArray
theorem lj (n i:Nat):(dU n i).setIfInBounds i true=dU n (i+1):=by
 apply Array.ext
 ·simp[dU]
 ·intro k y G
  simp only[dU,ag,List.getElem_toArray,List.getElem_set,fQ,iQ];by_cases h:i=k
  ·subst h;simp
  ·rw[aA h]
   exact decide_eq_decide.2 ⟨λh=>by omega,λz=>by omega⟩
theorem kA (n:Nat):dU n 0=Array.replicate n false:=by
 apply Array.ext
 ·simp[dU]
 ·intro k y h
  simp[dU]
def uV (md:Region.Mode) (ops:Array Oper) (m L:Nat):Bool:=
 Region.noSelect ops&&(List.range m).all λi=>Region.free md ops (dU ops.size i) i&&(Region.ready md ops (dU ops.size i)).contains i&&(decide (ops.size<=L)||leads md ops ops.size i L)
theorem NQ {m L:Nat}(h:uV md ops m L=true):∀i,i<=m->yE md ops (dU ops.size i):=by
 intro i;induction i with
 |zero=>
  intro _ k o G y;rw[kA] at y;have z:k<ops.size:=(Array.getElem?_eq_some_iff.1 G).1;simp[z] at y
 |succ i ih=>
  intro J;rw[<-lj];simp only[uV,fR,fg,bP] at h;exact BJ (ih (by omega)) (by simpa using (h.2 i (by omega)).1.2)
def aH (P:Program) (ops:Array Oper) (S:World->Prop) (E:Act->World->Prop):List Oper->Act->Prop
 | [],a=>∀w,S w->E a w
 |o::rest,a=>∃v,aX P ops S o v a/\aH P ops S E rest (a.put o.dst v)
def gN (P:Program) (ops:Array Oper) (S:Bool->World->Prop) (E:Act->Prop):List Oper->Act->Prop
 | [],a=>E a
 |o::rest,a=>∃v,BI P ops S o v a/\gN P ops S E rest (a.put o.dst v)
theorem aH.toB{E:Act->World->Prop}:∀(l:List Oper) (a:Act),aH P ops S E l a->gN P ops (λ_=>S) (λa=>∀w,S w->E a w) l a
 | [],_,h=>h
 |_::l,_,⟨v,h1,h2⟩=>⟨v,λ_=>h1,aH.toB l _ h2⟩
theorem Ez {S:Bool->World->Prop}{m F L:Nat}(U:uV md ops m L=true)(aa:m<=L)(ac:m<=F)(hQ:∀d v c a w,Q (.panic c) (Act.put a d v) w->Q (.panic c) a w){E:Act->Prop}
  (G:∀a,E a->tF P md ops Q S F L (ops.size-m) (dU ops.size m) a):
  ∀(l:List Oper) (i:Nat) (a:Act),i+l.length=m->m<=ops.size->(∀k,k<l.length->ops[i+k]? =l[k]?)->gN P ops S E l a->tF P md ops Q S F L (ops.size-i) (dU ops.size i) a:=by
 have z:=U;simp only[uV,fR,fg,bP] at z;intro l;induction l with
 |nil=>
  intro i a J V _ h;obtain rfl:i=m:=by simpa using J
  exact G a h
 |cons o rest ih=>
  intro i a J V W h;rw[bF] at J;obtain⟨v,hv,hr⟩:=h;have ho:ops[i]? =some o:=by simpa using W 0 (by simp)
  obtain⟨⟨c1,c2⟩,Z⟩:=z.2 i (by omega);have y:=ih (i+1) (a.put o.dst v) (by omega) V (λk hk=>by
   have :=W (k+1) (by simpa using hk);rw[show i+1+k=i+(k+1) by omega,this];simp) hr
  rw[<-lj] at y;rw[show ops.size-i=(ops.size-(i+1))+1 by omega];refine FW ho (by omega) (by omega) (Region.noSelect_spec z.1) (hQ o.dst v) ?_ _ _ a (NQ U i (by omega)) (Region.free_spec ho c1) (by simpa using c2) hv y;simp only[Bool.or_eq_true,decide_eq_true_eq] at Z;exact Z
theorem dt {U:Nat}{a:Act}{w:World}(z:P.follows .mixedOrders=true)(y:uV .any ops ops.size ops.size=true)(J:∀d v c a w,Q (.panic c) (Act.put a d v) w->Q (.panic c) a w)(G:S w.drew)
  (V:Region.ready .any ops (dU ops.size ops.size)=[]) (h:aH P ops S (Q .normal) ops.toList a):(Code.region U ops true).wp P Q a w:=by
 refine wp_region_any z ?_;rw[<-kA];refine lY (S:=λ_=>S) (F:=ops.size) (L:=ops.size) _ _ _ ?_ _ G;refine Ez (m:=ops.size) y (aG _) (aG _) J (E:=λa=>∀w,S w->Q .normal a w) (λa h=> ?_) ops.toList 0 a (by simp) (aG _) (λk W=>by simp) (aH.toB _ _ h);rw[Nat.sub_self];exact⟨V,h⟩
theorem Ip:∀(l:List Oper) (i:Nat) (a:Act) (w:World),i+l.length=ops.size->(∀k,k<l.length->ops[i+k]? =l[k]?)->(∀j,i<=j->j<ops.size->Region.ready md ops (dU ops.size j)=[j])->
  Region.ready md ops (dU ops.size ops.size)=[]->wpList P ops Q l a w->wpAny P md ops Q (ops.size-i) (dU ops.size i) a w:=by
 intro l;induction l with
 |nil=>
  intro i a w G _ _ z h;obtain rfl:i=ops.size:=by simpa using G
  rw[Nat.sub_self];exact⟨z,h⟩
 |cons o rest ih=>
  intro i a w G V J z h;rw[bF] at G;have ho:ops[i]? =some o:=by simpa using V 0 (by simp)
  have Z:=J i (aG _) (by omega);rw[show ops.size-i=(ops.size-(i+1))+1 by omega];refine⟨λW=>(by rw[Z] at W;cases W),λj U=> ?_⟩;rw[Z,au] at U;subst U;rw[lj];have h2:wpOp P ops Q j (wpList P ops Q rest) a w:=by
   unfold Go.wpOp;simp only[ho];unfold wpList at h;exact h
  refine wpOp_mono (λa' w' h'=>ih (j+1) a' w' (by omega) (λk hk=> ?_) (λi hi y=>J i (by omega) y) z h') h2;have :=V (k+1) (by simpa using hk);rw[show j+1+k=j+(k+1) by omega,this];simp
theorem xh {m r:Nat}(h:((List.range r).all λk=>Region.ready md ops (dU ops.size (m+k)) == [m+k])=true):∀j,m<=j->j<m+r->Region.ready md ops (dU ops.size j)=[j]:=λj z y=>by
 have :=fg.1 h (j-m) (by rw[bP];omega);rw[show m+(j-m)=j by omega] at this;simpa using this
theorem fU {id:Nat}{a:Act}{w:World}{l:List Oper}{o:Oper}{tl:List Oper}(U:P.follows .mixedOrders=true)(od:ops.toList=l++(o::tl))(ht:uV .any ops l.length l.length=true)(hQ:∀d v c a w,Q (.panic c) (Act.put a d v) w->Q (.panic c) a w)(z:S w.drew)
  (W:((List.range (tl.length+1)).all λk=>Region.ready .any ops (dU ops.size (l.length+k)) == [l.length+k])=true) (V:Region.ready .any ops (dU ops.size ops.size)=[]) (h:aH P ops S (wpList P ops Q (o::tl)) l a):(Code.region id ops true).wp P Q a w:=by
 have G:ops.size=l.length+(tl.length+1):=by rw[<-cV,od];simp
 have Z:=xh W;rw[<-G] at Z;refine wp_region_any U ?_;rw[<-kA];refine lY (S:=λ_=>S) (F:=ops.size) (L:=l.length) _ _ _ ?_ _ z;have y:∀k,ops[k]? =(l++(o::tl))[k]? :=λk=>by rw[<-od,cE]
 refine Ez (m:=l.length) ht (aG _) (by omega) hQ (E:=λa=>∀w,S w->wpList P ops Q (o::tl) a w) (λa h=> ?_) l 0 a (by simp) (by omega) (λk hk=>by rw[y,aV,bg hk]) (aH.toB _ _ h);have h1:=Z l.length (aG _) (by omega);have Rt:∀w,S w->wpAny P .any ops Q (ops.size-l.length) (dU ops.size l.length) a w:=λw z=>
  Ip (o::tl) l.length a w (by simpa using G.symm) (λk hk=>by rw[y,aT (by omega),cO]) Z V (h w z)
 rw[show ops.size-l.length=tl.length+1 by omega] at Rt ⊢;refine⟨λh0=>(by rw[h1] at h0;cases h0),λi hi J=> ?_,λU w z=>(Rt w z).2 _ U⟩;rw[h1,au] at hi;exact absurd hi J
theorem kC {n F i:Nat}(h:F<n):(dU n i).getD F false=decide (F<i):=by
 simp[dU,h]
theorem acO {S:Bool->World->Prop}{F L:Nat}(kG:∀j,F<j->j<ops.size->Region.ready md ops (dU ops.size j)=[j]){E:Act->World->Prop}
  (z:∀a,(∀w,S true w->E a w)->tF P md ops Q S F L (ops.size-L) (dU ops.size L) a):
  ∀(l:List Oper) (i:Nat) (a:Act),F<i->i+l.length=L->L<ops.size->(∀k,k<l.length->ops[i+k]? =l[k]?)->aH P ops (S true) E l a->tF P md ops Q S F L (ops.size-i) (dU ops.size i) a:=by
 intro l;induction l with
 |nil=>
  intro i a _ J _ _ h;obtain rfl:i=L:=by simpa using J
  exact z a h
 |cons o rest ih=>
  intro i a hF J hL W h;rw[bF] at J;obtain⟨v,hv,hr⟩:=h;have ho:ops[i]? =some o:=by simpa using W 0 (by simp)
  have G:=kG i hF (by omega);have y:=ih (i+1) (a.put o.dst v) (by omega) (by omega) hL (λk hk=>by
   have :=W (k+1) (by simpa using hk);rw[show i+1+k=i+(k+1) by omega,this];simp) hr
  rw[show ops.size-i=(ops.size-(i+1))+1 by omega];refine⟨λZ=>(by rw[G] at Z;cases Z),λj U _ w V=> ?_,λhm=> ?_⟩
  ·rw[G,au] at U
   subst U;rw[kC (by omega),bh (show F<j by omega)] at V;refine hv.wpOp ho V λw' W4=> ?_
   rw[lj,kC (by omega),bh (show F<j+1 by omega)];exact⟨W4,y⟩
  ·rw[G,au] at hm
   omega
theorem sk {S:Bool->World->Prop}{id:Nat}{a:Act}{w:World}{l mid:List Oper}{f o:Oper}{tl:List Oper}(hm:P.follows .mixedOrders=true)(od:ops.toList=l++(f::(mid++(o::tl))))(ht:uV .any ops l.length (l.length+1+mid.length)=true)(hQ:∀d v c a w,Q (.panic c) (Act.put a d v) w->Q (.panic c) a w)(z:S false w.drew)
  (ac:((List.range (ops.size-l.length)).all λk=>Region.ready .any ops (dU ops.size (l.length+k)) == [l.length+k])=true) (aa:Region.ready .any ops (dU ops.size ops.size)=[])
  (h:gN P ops S (λa=>∃v,BH P ops (S false) (S true) f v a/\aH P ops (S true) (wpList P ops Q (o::tl)) mid (a.put f.dst v)) l a):(Code.region id ops true).wp P Q a w:=by
 have ae:ops.size=l.length+(1+(mid.length+(1+tl.length))):=by rw[<-cV,od];simp;omega
 have Z:=xh ac;rw[show l.length+(ops.size-l.length)=ops.size by omega] at Z;refine wp_region_any hm ?_;rw[<-kA];refine lY (S:=S) (F:=l.length) (L:=l.length+1+mid.length) _ _ _ ?_ _ (by rw[kC (by omega)];exact z);have y:∀k,ops[k]? =(l++(f::(mid++(o::tl))))[k]? :=λk=>by rw[<-od,cE]
 refine Ez (m:=l.length) ht (by omega) (aG _) hQ (λa h=> ?_) l 0 a (by simp) (by omega) (λk hk=>by rw[y,aV,bg hk]) h;obtain⟨v,hf,G⟩:=h;have h1:=Z l.length (aG _) (by omega);have W:=acO (md:= .any) (Q:=Q) (S:=S) (F:=l.length) (L:=l.length+1+mid.length) (λj hj=>Z j (by omega)) (E:=wpList P ops Q (o::tl)) (λa2 h=>by
  have h2:=Z (l.length+1+mid.length) (by omega) (by omega);have Rt:∀w,S true w->wpAny P .any ops Q (ops.size-(l.length+1+mid.length)) (dU ops.size (l.length+1+mid.length)) a2 w:=λw z=>
   Ip (o::tl) (l.length+1+mid.length) _ w (by simp;omega) (λk hk=>by
    rw[y,aT (by omega),show l.length+1+mid.length+k-l.length=mid.length+k+1 by omega,cN,aT (by omega),cO]) (λj hj=>Z j (by omega)) aa (h w z)
  rw[show ops.size-(l.length+1+mid.length)=tl.length+1 by omega] at Rt ⊢;refine⟨λU=>(by rw[h2] at U;cases U),λi J V=> ?_,λhm w z=> ?_⟩
  ·rw[h2,au] at J
   exact absurd J V
  ·rw[kC (by omega),bh (by omega)] at z
   exact(Rt w z).2 _ hm) mid (l.length+1) (a.put f.dst v) (by omega) rfl (by omega) (λk hk=>by
    rw[y,aT (by omega),show l.length+1+k-l.length=k+1 by omega,cN,bg hk]) G
 rw[show ops.size-l.length=(ops.size-(l.length+1))+1 by omega];refine⟨λU=>(by rw[h1] at U;cases U),λi J V w z=> ?_,λhm=> ?_⟩
 ·rw[h1,au] at J
  subst J;rw[kC (by omega),aM (by omega)] at z;refine hf.wpOp (by rw[y];simp) z λw' W4=> ?_
  rw[lj,kC (by omega),bh (by omega)];exact⟨W4,W⟩
 ·rw[h1,au] at hm
  omega
theorem gN.cons{S:Bool->World->Prop}{E:Act->Prop}{o:Oper}{rest:List Oper}{a:Act}(v:Value)(h:∀b,aX P ops (S b) o v a)(y:gN P ops S E rest (a.put o.dst v)):gN P ops S E (o::rest) a:=⟨v,h,y⟩
theorem gN.done{S:Bool->World->Prop}{E:Act->Prop}{a:Act}(h:E a):gN P ops S E [] a:=h
theorem aH.cons{E:Act->World->Prop}{o:Oper}{rest:List Oper}{a:Act}(v:Value)(h:aX P ops S o v a)(y:aH P ops S E rest (a.put o.dst v)):aH P ops S E (o::rest) a:=⟨v,h,y⟩
theorem aH.done{E:Act->World->Prop}{a:Act}(h:∀w,S w->E a w):aH P ops S E [] a:=h
theorem aX.val{o:Oper}{v:Value}{a:Act}(z:Region.wanted o (yielded ops a.tmps)=true)(h:∀w,S w->(execOp a.eval o).run P w= .ok (.value v) w):aX P ops S o v a:=
 .inl ⟨z,λw y=>by rw[h w y];exact⟨rfl,y⟩⟩
theorem aX.off{o:Oper}{a:Act}(h:Region.wanted o (yielded ops a.tmps)=false):aX P ops S o undef a:= .inr ⟨h,rfl⟩
theorem aX.load{o:Oper}{v:Value}{a:Act}(J:Region.wanted o (yielded ops a.tmps)=true)(ty:TypeId)(x:Operand)(U:o.op= .load ty x)(y:Addr)(z:a.eval x= .pointer (some y))(h:∀w,S w->(loadVar ty y).run P w= .ok v w):aX P ops S o v a:=
 .val J λw G=>by
  unfold execOp;simp only[U,z,Instr.loadAt,Instr.sureAddr,bM,eZ,bX,h w G]
theorem BH.store{S z:World->Prop}{o:Oper}{a:Act}(W:Region.wanted o (yielded ops a.tmps)=true)(ty:TypeId)(x y:Operand)(ho:o.op= .store ty x y)(G:Addr)(U:a.eval x= .pointer (some G))(v:Value)(Z:a.eval y=v)
  (h:∀w,S w->∃w',(storeVar ty G v).run P w= .ok () w'/\z w'):BH P ops S z o undef a:=
 ⟨W,λw V=>by
  obtain⟨w',h1,J⟩:=h w V;unfold execOp;simp only[ho,U,Z,Instr.storeAt,Instr.sureAddr,bM,eZ,bX,h1];exact⟨rfl,J⟩⟩
theorem aX.call{o:Oper}{v:Value}{a:Act}(y:Region.wanted o (yielded ops a.tmps)=true)(f:Nat)(args:Array Value)(z:∀w,(execOp a.eval o).run P w= .ok (.enter f args) w)(h:∀w,S w->Calls P f args w λe w'=>e= .returned v/\S w'):aX P ops S o v a:=
 .inl ⟨y,λw G=>by rw[z w];exact h w G⟩
end
end Go.Proofs.YtepbpdipenedhaaGreatDoor
namespace Go.Proofs.YtepbpdipenedhaaGreatDoor
open Go.Proofs.Tryz
open Go.RowKit
variable{w:World}{v:Value}
theorem KL{P:Program}{ty:TypeId}{k:IntKind}{y:Addr}(G:P.underlying ty=some (.int k))(z:w.cell? y=some v):(loadVar ty y).run P w= .ok v w:=by
 have h:(isAgg ty).run P w= .ok false w:=by
  unfold isAgg;rw[bM,cP G w];rfl
 simp[loadVar,h,z]
theorem BK (i:Int)(w:World):Calls prog 228 #[.int .i64 i] w λe w'=>e= .returned (.bool (decide (Ai i)))/\w=w':=by
 by_cases y:0<i
 ·by_cases z:i<256
  ·rw[bh (show Ai i from ⟨y,z⟩)]
   go_enter func228,ntmps228;go_wp2;go_ret;exact⟨rfl,rfl⟩
  ·rw[aM (show ¬Ai i from λh=>z h.2)]
   go_enter func228,ntmps228;go_wp2;go_ret;exact⟨rfl,rfl⟩
 ·rw[aM (show ¬Ai i from λh=>y h.1)]
  go_enter func228,ntmps228;go_wp2;go_ret;exact⟨rfl,rfl⟩
theorem Yj (p b n:Nat)(y:b<256)(z:p<256)(h:n<256):bits .or .u64 ((p:Int)*4294967296) ((b:Int)*256)=((p*4294967296+b*256:Nat):Int)/\bits .or .u64 ((p*4294967296+b*256:Nat):Int) (n:Int)=((p*4294967296+b*256+n:Nat):Int):=by
 constructor
 ·rw[show(p:Int)*4294967296=((p*4294967296:Nat):Int) by omega,show(b:Int)*256=((b*256:Nat):Int) by omega,u64_or_nat _ _ (by omega) (by omega),nat_join 32 _ _ (by exact Nat.mul_mod_left _ _) (show b*256<4294967296 by omega)]
 ·rw[u64_or_nat _ _ (by omega) (by omega),nat_join 8 _ _ (by omega) h]
theorem FX (p b n x y:Nat)(z:b<256)(G:p<256)(h:n<256)(q1:bits .or .u64 ((p:Int)*4294967296) ((b:Int)*256)=(y:Int))(q2:bits .or .u64 (y:Int) (n:Int)=(x:Int))(w:World):
  Calls prog 229 #[.int .i64 (p:Int),.int .i64 (b:Int),.int .i64 (n:Int)] w λe w'=>e= .returned (.int .u64 (x:Int))/\w=w':=by
 go_enter func229,ntmps229;go_wp2_with fail;go_ret;exact⟨rfl,rfl⟩
theorem vQ (p b n:Nat)(h:b<256)(y:p<256)(z:n<256)(w:World):Calls prog 229 #[.int .i64 (p:Int),.int .i64 (b:Int),.int .i64 (n:Int)] w λe w'=>e= .returned (.int .u64 (qC p (b:Int) n))/\w=w':=by
 obtain⟨q1,q2⟩:=Yj p b n h y z;have G:qC p (b:Int) n=((p*4294967296+b*256+n:Nat):Int):=by unfold qC;omega
 rw[G];exact FX p b n _ _ h y z q1 q2 w
def Words (w:World) (L:List Int) (v:Value) (h:World):Prop:=h.ownsRow (w.heap.size+1) 56 1 v L.length (aO L)/\L.length<=13/\ay [] w h
theorem Words.made{G:World}{L:List Int}(h:Words w L v G):iK w L (.returned v) G:=by
 obtain⟨g,z,J⟩:=eQ.of_row h.1;by_cases y:L.length=0
 ·exact⟨v,w.heap.size,rfl,z.reads.anyG (by rw[bc y];rfl) _,aG _,h.2.2⟩
 ·exact⟨v,g,rfl,z.reads,by have :=(J y).1;omega,h.2.2⟩
theorem FY (l:List Int)(hl:l.length=13)(w:World):Calls prog 215 #[.agg (zs l).toArray] w (iK w (eO l)):=by
 obtain⟨i0,hi,ax,aF,az⟩:=cr Tryz.info_u64;have ak:=bf.new w (zs l).toArray 109;have nW:=ar ak;have gH:Hid (ay [] w (w.alloc (.cells (zs l).toArray 109))):=(ay.refl _ _).alloc _;have KM:Hid (∀G k,k<13->ay [] (w.alloc (.cells (zs l).toArray 109)) G->G.cell? ⟨w.heap.size,k,none⟩=some (.int .i64 (l.getD k 0))):=λG k hk eW=>by
  rw[(ak.keep eW (by simp)).cell,aC,fp (by omega)]
 clear ak;have HL:=ar hl;clear hl;generalize hz:(zs l).toArray=Z at *;clear hz;go_enter func215,ntmps215;go_wp2_with fail;go_step3;go_wp2_with fail;go_step3;go_wp2_with fail;go_loopg [3,4] 13 (λgh s3 s4 G=>∃f:Nat,f+gh=13/\s4= .int .i64 (f:Int)/\Hid (G.ownsRow (w.heap.size+1) 56 1 s3 (fc l f).length (aO (fc l f))/\¬jY l f/\ay [] (w.alloc (.cells Z 109)) G))
 case atStart=>exact⟨0,by omega,rfl,⟨rfl,.inl ⟨rfl,rfl⟩⟩,λh=>absurd h.1 (by omega),ay.refl _ _⟩
 case round=>
  obtain⟨f,hf,rfl,HR⟩:=hrel;cases gk with
  |zero=>
   obtain rfl:f=13:=by omega
   have HM:Hid (iK w (eO l) (.returned u3) wr):=Words.made ⟨HR.out.1,kf l 13,gH.out.trans' HR.out.2.2⟩;clear hf HR;go_wp2_with fail;rw[iu];go_ret;exact HM.out
  |succ gg=>
   have U4:f<13:=by omega
   have aU:(f:Int)<13:=by omega
   have aR:(0:Int)<=(f:Int):=by omega
   have aP:=KM.out wr f U4 HR.out.2.2;have U5:=ar (BK (l.getD f 0));by_cases hB:Ai (l.getD f 0)
   ·rw[bh hB] at U5
    have av:Hid (tE l f):=⟨hB,HR.out.2.1⟩;have HB:=ar hB;have aY:0<l.getD f 0:=hB.1;have aT:l.getD f 0<256:=hB.2;have ac:=ar HR.out.1;have iA:=ar HR.out.2.2;have U6:=ar (kf l f);clear HR hB;generalize J:l.getD f 0=x at *;have HX:=ar J;clear J;go_wp2_with fail;refine(U5.out _).mono ?_;rintro e w1 ⟨rfl,rfl⟩;go_wp2_with fail;clear aP;obtain⟨a,cap,rfl,q1,q2⟩:=ic ac.out;go_loopg [3,4,5] (12-f) (λgh s3 s4 s5 G=>∃j:Nat,s3= .slice a (fc l f).length cap/\s4= .int .i64 (f:Int)/\j+gh=13/\s5= .int .i64 (j:Int)/\Hid (f<j/\(∀i,f<i->i<j->jY l i)/\G.ownsRow (w.heap.size+1) 56 1 (.slice a (fc l f).length cap) (fc l f).length (aO (fc l f))/\ay [] (w.alloc (.cells Z 109)) G))
    case atStart=>exact⟨f+1,rfl,rfl,by omega,by go_num,by omega,λi h1 h2=>by omega,ac.out,iA.out⟩
    case round=>
     clear ac iA;obtain⟨j,rfl,rfl,hj,rfl,HR⟩:=hrel;obtain⟨af,Ru,aj,eW⟩:=HR.out;have Iq:=ar Ru;have ac:=ar aj;have iA:=ar eW;have zz:(0:Int)<=(j:Int):=by omega
     have aG:Ai (l.getD f 0):=by rw[HX.out];exact HB.out
     have G3:=ar (Rs aG af Ru);have aB:=eW.size;clear HR aj Ru eW aG;have nC:Hid (∀G k,k<13->ay [] wr G->(loadVar 3 ⟨w.heap.size,k,none⟩).run prog G= .ok (.int .i64 (l.getD k 0)) G):=λG k hk eW=>KL underlying3 (KM.out G k hk (iA.out.trans' eW))
     by_cases Rv:j<13
     ·have aQ:(j:Int)<13:=by omega
      have NR:=ar (BK (l.getD j 0));obtain⟨y,hy⟩:∃y,y=l.getD j 0:=⟨_,rfl⟩;obtain⟨z,hz⟩:∃z,z=l.getD (j-1) 0:=⟨_,rfl⟩;rw[<-hy] at NR;rw[<-hy,<-hz] at G3;have Qw:Hid (∀G,ay [] wr G->(loadVar 3 ⟨w.heap.size,j,none⟩).run prog G= .ok (.int .i64 y) G):=λG hk=>by rw[hy];exact nC.out G j Rv hk
      obtain⟨q,hq⟩:∃q,q=j-1:=⟨_,rfl⟩;have au:Ai z:=by
       have :Ai (l.getD f 0):=by rw[HX.out];exact HB.out
       rw[hz];exact ME this Iq.out (j-1) (by omega) (by omega)
      have aA:Hid (∀G,ay [] wr G->(loadVar 3 ⟨w.heap.size,q,none⟩).run prog G= .ok (.int .i64 z) G):=λG hk=>by rw[hz,hq];exact nC.out G (j-1) (by omega) hk
      have ba:(j:Int)-1=(q:Int):=by omega
      have aV:IntKind.i64.wrap (q:Int)=(q:Int):=dV _ (by omega);have aW:(0:Int)<=(q:Int):=by omega
      have aZ:(q:Int)<13:=by omega
      have aS:IntKind.i64.wrap (z+1)=z+1:=dV _ (by have :=au.1;have :=au.2;omega);clear hy hz nC hq au;have W6:(j<13)=True:=eq_true Rv;by_cases hY:Ai y
      ·rw[bh hY] at NR
       by_cases ae:y=z+1
       ·have hC:jY l j:=G3.out.2 ⟨Rv,hY,ae⟩
        have HN:Hid (f<j+1/\(∀i,f<i->i<j+1->jY l i)/\ay [] wr wr):=by
         refine⟨by omega,λi h1 h2=> ?_,ay.refl _ _⟩;by_cases e:i=j
         ·subst e;exact hC
         ·exact Iq.out i h1 (by omega)
        have aa:(y==z+1)=true:=by simp[ae]
        clear hC G3 ae;go_wp2_with fail;refine dt (S:=λG=>ay [] wr G) (by kernel_rfl) (by kernel_rfl) (λd _ _ _ _ h=>by cases d<;>exact h) ((ay.refl _ _).drew) (by kernel_rfl) ?_;repeat (first
         |(refine aH.cons (.int .i64 y) (aX.load rfl 3 (.tmp 23) rfl _ rfl λG J=>Qw.out G J) ?_;simp only[Act.put,ag,ah,ai])
         |(refine aH.cons (.int .i64 y) (aX.load rfl 3 (.tmp 29) rfl _ rfl λG J=>Qw.out G J) ?_;simp only[Act.put,ag,ah,ai])
         |(refine aH.cons (.int .i64 z) (aX.load rfl 3 (.tmp 33) rfl _ rfl λG J=>aA.out G J) ?_;simp only[Act.put,ag,ah,ai])
         |(refine aH.cons (.bool true) (aX.call rfl 228 #[.int .i64 y] ?he ?h) ?_;(case he=>(intro wz;go_simp));(case h=>exact λG J=>(NR.out G).mono λe w' he=>⟨he.1,he.2▸J⟩);simp only[Act.put,ag,ah,ai])
         |(refine aH.cons undef (aX.off rfl) ?_;simp only[Act.put,ag,ah,ai])
         |(with_reducible show aH _ _ _ _ (⟨_,_,4,_,_,_⟩::_) _;refine aH.cons (.bool true) (aX.val rfl ?h) ?_;(case h=>(intro G J;clear J;first|(go_simp;done)|(go_simp;simp[W6,aa];done)));simp only[Act.put,ag,ah,ai])
         |(with_reducible show aH _ _ _ _ (⟨_,_,4,_,_,_⟩::_) _;refine aH.cons (.bool false) (aX.val rfl ?h) ?_;(case h=>(intro G J;clear J;first|(go_simp;done)|(go_simp;simp[W6,aa];done)));simp only[Act.put,ag,ah,ai])
         |(refine aH.cons ?_ (aX.val rfl ?h) ?_;(case h=>(intro G J;clear J;go_simp;rfl));simp only[Act.put,ag,ah,ai]))
        refine aH.done λG J=> ?_
        have oF:=ar J;have NS:=ar (ct ac.out J (by simp));clear J;go_wp2_with fail;go_roundg (gk-1);case measure=>omega
        case rel=>exact⟨j+1,rfl,rfl,by omega,by go_num,HN.out.1,HN.out.2.1,NS.out,iA.out.trans' oF.out⟩
       ·have W7:Hid (¬jY l j):=λh=>ae (G3.out.1 h).2.2
        have W8:=ar af;have aa:(y==z+1)=false:=cj.2 ae;clear G3 ae;go_wp2_with fail;refine dt (S:=λG=>ay [] wr G) (by kernel_rfl) (by kernel_rfl) (λd _ _ _ _ h=>by cases d<;>exact h) ((ay.refl _ _).drew) (by kernel_rfl) ?_;repeat (first
         |(refine aH.cons (.int .i64 y) (aX.load rfl 3 (.tmp 23) rfl _ rfl λG J=>Qw.out G J) ?_;simp only[Act.put,ag,ah,ai])
         |(refine aH.cons (.int .i64 y) (aX.load rfl 3 (.tmp 29) rfl _ rfl λG J=>Qw.out G J) ?_;simp only[Act.put,ag,ah,ai])
         |(refine aH.cons (.int .i64 z) (aX.load rfl 3 (.tmp 33) rfl _ rfl λG J=>aA.out G J) ?_;simp only[Act.put,ag,ah,ai])
         |(refine aH.cons (.bool true) (aX.call rfl 228 #[.int .i64 y] ?he ?h) ?_;(case he=>(intro wz;go_simp));(case h=>exact λG J=>(NR.out G).mono λe w' he=>⟨he.1,he.2▸J⟩);simp only[Act.put,ag,ah,ai])
         |(refine aH.cons undef (aX.off rfl) ?_;simp only[Act.put,ag,ah,ai])
         |(with_reducible show aH _ _ _ _ (⟨_,_,4,_,_,_⟩::_) _;refine aH.cons (.bool true) (aX.val rfl ?h) ?_;(case h=>(intro G J;clear J;first|(go_simp;done)|(go_simp;simp[W6,aa];done)));simp only[Act.put,ag,ah,ai])
         |(with_reducible show aH _ _ _ _ (⟨_,_,4,_,_,_⟩::_) _;refine aH.cons (.bool false) (aX.val rfl ?h) ?_;(case h=>(intro G J;clear J;first|(go_simp;done)|(go_simp;simp[W6,aa];done)));simp only[Act.put,ag,ah,ai])
         |(refine aH.cons ?_ (aX.val rfl ?h) ?_;(case h=>(intro G J;clear J;go_simp;rfl));simp only[Act.put,ag,ah,ai]))
        refine aH.done λG J=> ?_
        have NS:=ar (ct ac.out J (by simp));have oF:=ar (iA.out.trans' J);have KN:=KM.out G f U4 (iA.out.trans' J);rw[HX.out] at KN;have aI:w.heap.size+1<=G.heap.size:=by have :=J.size;simp at aB;omega
        clear J;obtain⟨b,hb⟩:∃b:Nat,x=(b:Int):=⟨x.toNat,by omega⟩;obtain⟨n,hn⟩:∃n:Nat,n=j-f:=⟨_,rfl⟩;have aK:(j:Int)-(f:Int)=(n:Int):=by omega
        have aN:IntKind.i64.wrap (n:Int)=(n:Int):=dV _ (by omega);have Aj:=ar (vQ f b n (by omega) (by omega) (by omega));have BL:Hid (fc l j=fc l f++[qC f (b:Int) n]):=by
         have :=vP av.out W8.out (by omega) Iq.out W7.out;rw[HX.out,hb] at this;rw[hn];exact this
        rw[hb] at KN;have Ir:Hid (j<=13/\n=j-f):=⟨by omega,hn⟩;have W9:=ar hf;clear hb hn hf;generalize qC f (b:Int) n=W at *;generalize hL:fc l f=L at *;have Qx:=ar hL;clear hL;have oO:=ar (show L.length<=13 by have :=U6.out;omega);go_wp2_with fail;refine(Aj.out _).mono ?_;rintro e w1 ⟨rfl,rfl⟩;have aJ:=oO.out;go_wp2_with(at_builtin;refine dw _ rfl _ _ 71 rfl (w.heap.size+1) 56 i0 (.int .u64 0) 1 8 underlying71 hi ax aF az rfl (by decide) (.slice a L.length cap) L.length _ rfl (NS.out.alloc _) ⟨G.heap.size,0,none⟩ 1 1 [.int .u64 W] rfl rfl ?c1 ?c2 (by unfold maxLen;omega) (by omega) (by simp;omega) ?_);case c1=>exact iX _ [_] _ _ rfl
        case c2=>simp[Value.oneCell']
        intro v' w1 V U _;have Ag:=ar V;have jl:=ar ((oF.out.alloc _).grown U (λk hk=>by have :=cz NS.out k hk;simpa using this));clear V U;go_wp2_with fail;go_roundg (13-j);case measure=>have :=W9.out;have :=W8.out;have :=Ir.out.1;omega
        case rel=>
         refine⟨j,by have :=Ir.out.1;omega,by go_num,?_,W7.out,jl.out⟩;have :=Ag.out;rw[BL.out,aD,ma];exact this
      ·have W7:Hid (¬jY l j):=λh=>hY (G3.out.1 h).2.1
       have W8:=ar af;rw[aM hY] at NR;have aa:(1:Int)=1:=rfl;clear G3 hY;go_wp2_with fail;refine dt (S:=λG=>ay [] wr G) (by kernel_rfl) (by kernel_rfl) (λd _ _ _ _ h=>by cases d<;>exact h) ((ay.refl _ _).drew) (by kernel_rfl) ?_;repeat (first
        |(refine aH.cons (.int .i64 y) (aX.load rfl 3 (.tmp 23) rfl _ rfl λG J=>Qw.out G J) ?_;simp only[Act.put,ag,ah,ai])
        |(refine aH.cons (.int .i64 y) (aX.load rfl 3 (.tmp 29) rfl _ rfl λG J=>Qw.out G J) ?_;simp only[Act.put,ag,ah,ai])
        |(refine aH.cons (.int .i64 z) (aX.load rfl 3 (.tmp 33) rfl _ rfl λG J=>aA.out G J) ?_;simp only[Act.put,ag,ah,ai])
        |(refine aH.cons (.bool false) (aX.call rfl 228 #[.int .i64 y] ?he ?h) ?_;(case he=>(intro wz;go_simp));(case h=>exact λG J=>(NR.out G).mono λe w' he=>⟨he.1,he.2▸J⟩);simp only[Act.put,ag,ah,ai])
        |(refine aH.cons undef (aX.off rfl) ?_;simp only[Act.put,ag,ah,ai])
        |(with_reducible show aH _ _ _ _ (⟨_,_,4,_,_,_⟩::_) _;refine aH.cons (.bool true) (aX.val rfl ?h) ?_;(case h=>(intro G J;clear J;first|(go_simp;done)|(go_simp;simp[W6,aa];done)));simp only[Act.put,ag,ah,ai])
        |(with_reducible show aH _ _ _ _ (⟨_,_,4,_,_,_⟩::_) _;refine aH.cons (.bool false) (aX.val rfl ?h) ?_;(case h=>(intro G J;clear J;first|(go_simp;done)|(go_simp;simp[W6,aa];done)));simp only[Act.put,ag,ah,ai])
        |(refine aH.cons ?_ (aX.val rfl ?h) ?_;(case h=>(intro G J;clear J;go_simp;rfl));simp only[Act.put,ag,ah,ai]))
       refine aH.done λG J=> ?_
       have NS:=ar (ct ac.out J (by simp));have oF:=ar (iA.out.trans' J);have KN:=KM.out G f U4 (iA.out.trans' J);rw[HX.out] at KN;have aI:w.heap.size+1<=G.heap.size:=by have :=J.size;simp at aB;omega
       clear J;obtain⟨b,hb⟩:∃b:Nat,x=(b:Int):=⟨x.toNat,by omega⟩;obtain⟨n,hn⟩:∃n:Nat,n=j-f:=⟨_,rfl⟩;have aK:(j:Int)-(f:Int)=(n:Int):=by omega
       have aN:IntKind.i64.wrap (n:Int)=(n:Int):=dV _ (by omega);have Aj:=ar (vQ f b n (by omega) (by omega) (by omega));have BL:Hid (fc l j=fc l f++[qC f (b:Int) n]):=by
        have :=vP av.out W8.out (by omega) Iq.out W7.out;rw[HX.out,hb] at this;rw[hn];exact this
       rw[hb] at KN;have Ir:Hid (j<=13/\n=j-f):=⟨by omega,hn⟩;have W9:=ar hf;clear hb hn hf;generalize qC f (b:Int) n=W at *;generalize hL:fc l f=L at *;have Qx:=ar hL;clear hL;have oO:=ar (show L.length<=13 by have :=U6.out;omega);go_wp2_with fail;refine(Aj.out _).mono ?_;rintro e w1 ⟨rfl,rfl⟩;have aJ:=oO.out;go_wp2_with(at_builtin;refine dw _ rfl _ _ 71 rfl (w.heap.size+1) 56 i0 (.int .u64 0) 1 8 underlying71 hi ax aF az rfl (by decide) (.slice a L.length cap) L.length _ rfl (NS.out.alloc _) ⟨G.heap.size,0,none⟩ 1 1 [.int .u64 W] rfl rfl ?c1 ?c2 (by unfold maxLen;omega) (by omega) (by simp;omega) ?_);case c1=>exact iX _ [_] _ _ rfl
       case c2=>simp[Value.oneCell']
       intro v' w1 V U _;have Ag:=ar V;have jl:=ar ((oF.out.alloc _).grown U (λk hk=>by have :=cz NS.out k hk;simpa using this));clear V U;go_wp2_with fail;go_roundg (13-j);case measure=>have :=W9.out;have :=W8.out;have :=Ir.out.1;omega
       case rel=>
        refine⟨j,by have :=Ir.out.1;omega,by go_num,?_,W7.out,jl.out⟩;have :=Ag.out;rw[BL.out,aD,ma];exact this
     ·have W7:Hid (¬jY l j):=λh=>Rv (G3.out.1 h).1
      have W8:=ar af;have W6:(j<13)=False:=eq_false Rv;have aQ:¬(j:Int)<13:=by omega
      have aa:(1:Int)=1:=rfl;clear G3 nC;go_wp2_with fail;refine dt (S:=λG=>ay [] wr G) (by kernel_rfl) (by kernel_rfl) (λd _ _ _ _ h=>by cases d<;>exact h) ((ay.refl _ _).drew) (by kernel_rfl) ?_;repeat (first
       |(refine aH.cons undef (aX.off rfl) ?_;simp only[Act.put,ag,ah,ai])
       |(with_reducible show aH _ _ _ _ (⟨_,_,4,_,_,_⟩::_) _;refine aH.cons (.bool false) (aX.val rfl ?h) ?_;(case h=>(intro G J;clear J;first|(go_simp;done)|(go_simp;simp[W6,aa];done)));simp only[Act.put,ag,ah,ai])
       |(refine aH.cons ?_ (aX.val rfl ?h) ?_;(case h=>(intro G J;clear J;go_simp;rfl));simp only[Act.put,ag,ah,ai]))
      refine aH.done λG J=> ?_
      have NS:=ar (ct ac.out J (by simp));have oF:=ar (iA.out.trans' J);have KN:=KM.out G f U4 (iA.out.trans' J);rw[HX.out] at KN;have aI:w.heap.size+1<=G.heap.size:=by have :=J.size;simp at aB;omega
      clear J;obtain⟨b,hb⟩:∃b:Nat,x=(b:Int):=⟨x.toNat,by omega⟩;obtain⟨n,hn⟩:∃n:Nat,n=j-f:=⟨_,rfl⟩;have aK:(j:Int)-(f:Int)=(n:Int):=by omega
      have aN:IntKind.i64.wrap (n:Int)=(n:Int):=dV _ (by omega);have Aj:=ar (vQ f b n (by omega) (by omega) (by omega));have BL:Hid (fc l j=fc l f++[qC f (b:Int) n]):=by
       have :=vP av.out W8.out (by omega) Iq.out W7.out;rw[HX.out,hb] at this;rw[hn];exact this
      rw[hb] at KN;have Ir:Hid (j<=13/\n=j-f):=⟨by omega,hn⟩;have W9:=ar hf;clear hb hn hf;generalize qC f (b:Int) n=W at *;generalize hL:fc l f=L at *;have Qx:=ar hL;clear hL;have oO:=ar (show L.length<=13 by have :=U6.out;omega);go_wp2_with fail;refine(Aj.out _).mono ?_;rintro e w1 ⟨rfl,rfl⟩;have aJ:=oO.out;go_wp2_with(at_builtin;refine dw _ rfl _ _ 71 rfl (w.heap.size+1) 56 i0 (.int .u64 0) 1 8 underlying71 hi ax aF az rfl (by decide) (.slice a L.length cap) L.length _ rfl (NS.out.alloc _) ⟨G.heap.size,0,none⟩ 1 1 [.int .u64 W] rfl rfl ?c1 ?c2 (by unfold maxLen;omega) (by omega) (by simp;omega) ?_);case c1=>exact iX _ [_] _ _ rfl
      case c2=>simp[Value.oneCell']
      intro v' w1 V U _;have Ag:=ar V;have jl:=ar ((oF.out.alloc _).grown U (λk hk=>by have :=cz NS.out k hk;simpa using this));clear V U;go_wp2_with fail;go_roundg (13-j);case measure=>have :=W9.out;have :=W8.out;have :=Ir.out.1;omega
      case rel=>
       refine⟨j,by have :=Ir.out.1;omega,by go_num,?_,W7.out,jl.out⟩;have :=Ag.out;rw[BL.out,aD,ma];exact this
   ·rw[aM hB] at U5
    have aL:¬jY l (f+1):=λh=>hB h.2.2.2.1
    have HN:Hid (wr.ownsRow (w.heap.size+1) 56 1 u3 (fc l (f+1)).length (aO (fc l (f+1)))/\¬jY l (f+1)/\ay [] (w.alloc (.cells Z 109)) wr):=by
     refine⟨?_,aL,HR.out.2.2⟩;rw[Im hB];exact HR.out.1
    clear HR hB aL;generalize l.getD f 0=x at *;go_wp2_with fail;refine(U5.out _).mono ?_;rintro e w1 ⟨rfl,rfl⟩;go_wp2_with fail;go_roundg gg;case measure=>omega
    case rel=>exact⟨f+1,by omega,by go_num,HN.out⟩
theorem tG (a s:Nat)(V:a<=1000000)(U:1<=s)(J:s<=1000000)(w:World):Calls prog 168 #[.int .i64 (a:Int),.int .i64 (s:Int)] w λe w'=>e= .returned (.int .i64 (((a+s-1)/s:Nat):Int))/\w=w':=by
 have y:(s:Int)≠0:=by omega
 have z:¬(s:Int)= -1:=by omega
 have G:((a:Int)+s-1).tdiv s=(((a+s-1)/s:Nat):Int):=by
  rw[show(a:Int)+s-1=((a+s-1:Nat):Int) by omega,Int.ofNat_tdiv]
 have h:(a+s-1)/s<=2000000:=cJ (Nat.div_le_self _ _) (by omega);generalize (a+s-1)/s=q at *;go_enter func168,ntmps168;go_wp2_with fail;go_ret;exact⟨rfl,rfl⟩
theorem MF (l:List Int)(c:Nat)(hl:l.length=13)(hc:c<=13)(w:World):Calls prog 167 #[.agg (zs l).toArray,.int .i64 (c:Int)] w λe w'=>e= .returned (.agg (zs (kW l c)).toArray)/\ay [] w w':=by
 have ac:=bf.new w (zs l).toArray 109;have G:=ac.alloc (.cells (zs (List.replicate 13 0)).toArray 109);obtain⟨off,cap,hs,ho⟩:=KH w.heap.size c hc ((w.alloc (.cells (zs l).toArray 109)).alloc (.cells (zs (List.replicate 13 0)).toArray 109));obtain⟨w1,W,z,y⟩:=KI (off:=off) (cap:=cap) G hl hc ho;have V:bf ((w.alloc (.cells (zs l).toArray 109)).alloc (.cells (zs (List.replicate 13 0)).toArray 109)) (w.heap.size+1) (zs (List.replicate 13 0)).toArray 109 :=by
  simpa using bf.new (w.alloc (.cells (zs l).toArray 109)) (zs (List.replicate 13 0)).toArray 109
 have ae:=V.keep y (by simp);have h:=uj hl hc;have hL:=eN (off:=0) z h (λk hk=>by rw[aV,aC,fp (by omega)]);obtain⟨w2,hS,J,aa⟩:=bo (P:= prog) (ty:= 109) (cs:=zs (kW l c)) (by rw[dG,h];exact jC) ae (by simp[dG,h]) (kD _);have U:=eN (off:=0) J h (λk hk=>by rw[aV,aC,fp (by omega)]);have HK:Hid (ay [] w w2):=((((ay.refl [] w).alloc _).alloc _).trans y (by simp)).trans aa (by simp);have HL:=ar hL;have HS:=ar hS;have pd:=ar U;have ag:=mH;have af:=W 0;clear ac G V ae hL hS U W z y J aa ho;generalize (zs (kW l c)).toArray=Y at *;generalize (zs (List.replicate 13 0)).toArray=Z0 at *;generalize (zs l).toArray=Z at *;go_enter func167,ntmps167;go_wp2_with(first|(with_reducible refine gL 109 HL.out ?_)|(with_reducible refine gS 109 HS.out ?_));exact aL (dJ results167 rfl pd.out) rfl ⟨rfl,HK.out⟩
theorem KO (b:Nat)(w:World):(Instr.sliceAt 109 (.pointer (some ⟨b,0,none⟩)) (some (.int .i64 5)) none none).run prog w= .ok (.slice (some ⟨b,5,none⟩) 8 8) w:=by show Sem.run _ _ _=_;kernel_rfl
theorem Iu (a:Option Addr)(w:World):(Instr.arrayAt 255 (.slice a 8 8)).run prog w= .ok (.pointer a) w:=by show Sem.run _ _ _=_;kernel_rfl
theorem FZ (l:List Int)(hl:l.length=13)(w:World):Calls prog 209 #[.agg (zs l).toArray] w λe w'=>e= .returned (.agg (zs (l.drop 5)).toArray)/\ay [] w w':=by
 have U:=bf.new w (zs l).toArray 109;have h:=U.alloc (.cells (zs (List.replicate 8 0)).toArray 255);have G:bf ((w.alloc (.cells (zs l).toArray 109)).alloc (.cells (zs (List.replicate 8 0)).toArray 255)) (w.heap.size+1) (zs (List.replicate 8 0)).toArray 255 :=by
  simpa using bf.new (w.alloc (.cells (zs l).toArray 109)) (zs (List.replicate 8 0)).toArray 255
 have V:(l.drop 5).length=8:=by simp[hl]
 have W:=MA (off:=5) h V (λk hk=>by rw[aC,fp (by omega)];simp);obtain⟨w2,hS,y,J⟩:=bo (P:= prog) (ty:= 255) (cs:=zs (l.drop 5)) (by rw[dG,V];exact Mz) G (by simp[dG,hl]) (kD _);have z:=MA (off:=0) y V (λk hk=>by rw[aV,aC,fp (by omega)]);have HK:Hid (ay [] w w2):=(((ay.refl [] w).alloc _).alloc _).trans J (by simp);have HL:=ar W;have HS:=ar hS;have pd:=ar z;have ae:=FQ;have aa:=KO w.heap.size;have ac:=Iu;clear U h G W hS z y J;generalize (zs (l.drop 5)).toArray=Y at *;generalize (zs (List.replicate 8 0)).toArray=Z0 at *;generalize (zs l).toArray=Z at *;go_enter func209,ntmps209;go_wp2_with(first|(with_reducible refine gL 255 HL.out ?_)|(with_reducible refine gS 255 HS.out ?_));exact aL (dJ results209 rfl pd.out) rfl ⟨rfl,HK.out⟩
theorem pg (n:bN)(a:Option Addr)(cap:Nat)(y:n.B.length=13)(U:n.E.length<=100000)(w:World):Calls prog 192 #[.agg (aU n (.slice a n.E.length cap))] w λe w'=>e= .returned (.int .i64 ((aY n.E.length:Nat):Int))/\ay [] w w':=by
 have h:=bf.new w (aU n (.slice a n.E.length cap)) 111;have J:(w.alloc (.cells (aU n (.slice a n.E.length cap)) 111)).cell? ⟨w.heap.size,17,none⟩=some (.slice a n.E.length cap):=by rw[h.cell];exact vN _ y
 have z:=ar (tG n.E.length 4 (by omega) (by omega) (by omega));have G:Hid (ay [] w (w.alloc (.cells (aU n (.slice a n.E.length cap)) 111))):=(ay.refl [] w).alloc _;clear h y;generalize aU n (.slice a n.E.length cap)=Z at *;unfold aY;generalize n.E.length=m at *;rw[show m+4-1=m+3 by omega] at z;go_enter func192,ntmps192;go_wp2_with fail;refine(z.out _).mono ?_;rintro e w' ⟨rfl,rfl⟩;go_wp2_with fail;go_ret;exact⟨rfl,G.out⟩
def ez (n:bN):Nat:=if 5<aY n.E.length\/n.B.drop 5≠List.replicate 8 0 then aY n.E.length+1 else aY n.E.length
theorem MG (n:bN)(a:Option Addr)(cap:Nat)(y:n.B.length=13)(hE:n.E.length<=100000)(w:World):Calls prog 194 #[.agg (aU n (.slice a n.E.length cap))] w λe w'=>e= .returned (.int .i64 ((ez n:Nat):Int))/\ay [] w w':=by
 have Ug:=ar (pg n a cap y hE);have HR:=ar (FZ n.B y);have sP:=FQ;have Iv:=Ig;have Dv:=ar (λG=>WY (a:=n.B.drop 5) (b:=List.replicate 8 0) (by simp[y]) rfl G);have gH:Hid (ay [] w (w.alloc (.cells (aU n (.slice a n.E.length cap)) 111))):=(ay.refl [] w).alloc _;have nW:Hid (bf (w.alloc (.cells (aU n (.slice a n.E.length cap)) 111)) w.heap.size (aU n (.slice a n.E.length cap)) 111):=bf.new _ _ _;have vR:=ar (λ(G:World) (W:bf G w.heap.size (aU n (.slice a n.E.length cap)) 111)=>cC W y);have oO:=ar (λ(G:World) (W:bf G w.heap.size (aU n (.slice a n.E.length cap)) 111)=>eN (off:=4) W y λk hk=>yB _ (by omega));have Dw:=ar (vR.out _ nW.out);have aa:aY n.E.length<=1000000:=by unfold aY;omega
 unfold ez;generalize V:n.B.drop 5=d at *;generalize aU n (.slice a n.E.length cap)=Z at *;generalize (zs n.B).toArray=ZB at *;clear V y hE;generalize aY n.E.length=m at *;by_cases hm:5<m
 ·have z:(5:Int)<(m:Int):=by omega
  rw[aB (.inl hm)];go_enter func194,ntmps194;go_wp2_with(with_reducible refine gL 111 Dw.out ?_);refine(Ug.out _).mono ?_;rintro e w1 ⟨rfl,h⟩;have jl:=ar (gH.out.trans h (by simp));clear h;go_wp2_with fail;go_ret;exact⟨rfl,jl.out⟩
 ·have z:¬(5:Int)<(m:Int):=by omega
  obtain⟨t,ht⟩:∃t,decide (d=List.replicate 8 0)=t:=⟨_,rfl⟩;rw[ht] at Dv;have J:(if 5<m\/d≠List.replicate 8 0 then m+1 else m)=if t=true then m else m+1:=by
   rw[<-ht];generalize List.replicate 8 (0:Int)=z8;by_cases V:d=z8
   ·simp[V,hm]
   ·simp[V]
  rw[J];clear J ht;generalize (zs (List.replicate 8 0)).toArray=Z8 at *;generalize (zs d).toArray=ZD at *;go_enter func194,ntmps194;go_wp2_with(with_reducible refine gL 111 Dw.out ?_);refine(Ug.out _).mono ?_;rintro e w1 ⟨rfl,h⟩;have jl:=ar (gH.out.trans h (by simp));have qD:=ar (nW.out.keep h (by simp));have uI:=ar (oO.out _ qD.out);have ac:=Dv.out;clear h Dw;cases t;all_goals
   go_wp2_with(first|((with_reducible show wpList _ _ _ (⟨_,.load 109 (.tmp 9),_,_,_,_⟩::_) _ _);refine dC (by simp[Region.wanted,yielded,z]) 109 (.tmp 9) rfl _ rfl _ uI.out ?_)|(go_at_call 209;refine(HR.out _).mono ?_;rintro e w2 ⟨rfl,U⟩;have fF:=ar (jl.out.trans U (by simp));clear U));go_ret;exact⟨rfl,fF.out⟩
theorem NU (w:World):(zeroValue 231).run prog w= .ok (.agg (bools (List.replicate 256 false)).toArray) w:=by kernel_rfl
theorem Ak (l:List Int)(hl:l.length=13)(w:World):Calls prog 169 #[.agg (zs l).toArray] w λe w'=>e= .returned (.bool (decide (sf l)))/\ay [] w w':=by
 have ac:=bf.new w (zs l).toArray 109;have hL:=eN (off:=0) (ac.alloc (.cells (bools (List.replicate 256 false)).toArray 231)) hl (λk hk=>by rw[aV,aC,fp (by omega)]);have HZ:Hid (∀k,k<13->(zs l).toArray[k]? =some (.int .i64 (l.getD k 0))):=λk hk=>by rw[aC,fp (by omega)]
 have HL:=ar hL;have HB:Hid (bf ((w.alloc (.cells (zs l).toArray 109)).alloc (.cells (bools (List.replicate 256 false)).toArray 231)) (w.heap.size+1) (bools (List.replicate 256 false)).toArray 231):=by
  have :=bf.new (w.alloc (.cells (zs l).toArray 109)) (bools (List.replicate 256 false)).toArray 231;have e:(w.alloc (.cells (zs l).toArray 109)).heap.size=w.heap.size+1:=by simp
  rw[e] at this;exact this
 have HK:Hid (ay [] w ((w.alloc (.cells (zs l).toArray 109)).alloc (.cells (bools (List.replicate 256 false)).toArray 231))):=((ay.refl _ _).alloc _).alloc _;have ae:=NU;rw[BD l] at HB HK HL;rw[BD l] at ae;clear ac hL hl;generalize aa:(bools (o9 l 0)).toArray=S0 at *;generalize (zs l).toArray=Z at *;go_enter func169,ntmps169;go_wp2_with(with_reducible refine gL 109 HL.out ?_);clear ae HL;go_loopg [7] 13 (λgh s7 wx=>∃k:Nat,k+gh=13/\s7= .int .i64 (k:Int)/\Hid (bf wx (w.heap.size+1) (bools (o9 l k)).toArray 231/\(∀i,i<k->(0<=l.getD i 0/\l.getD i 0<256)/\(l.getD i 0≠0->∀j,j<i->l.getD j 0≠l.getD i 0))/\ay [] w wx))
 case atStart=>exact⟨0,by omega,rfl,by rw[aa];exact HB.out,by simp,HK.out⟩
 case round=>
  clear HB HK aa;obtain⟨k,hk,rfl,HR⟩:=hrel;cases gk with
  |zero=>
   obtain rfl:k=13:=by omega
   have HT:Hid (decide (sf l)=true):=bh HR.out.2.1;have iA:=ar HR.out.2.2;clear HR hk;go_wp2_with fail;go_ret;exact⟨by rw[HT.out];rfl,iA.out⟩
  |succ gg=>
   have pW:k<13:=by omega
   have au:(k:Int)<13:=by omega
   have eo:(0:Int)<=(k:Int):=by omega
   have af:=Et pW (HZ.out k pW);have HN:Hid (sf l->(0<=l.getD k 0/\l.getD k 0<256)/\(l.getD k 0≠0->∀j,j<k->l.getD j 0≠l.getD k 0)):=λh=>h k pW
   have U7:=ar (λc he=>KG l k c he);have J:=ar (λc W=>NM l k c W);have iA:=ar HR.out.2.2;by_cases G:l.getD k 0<0
   ·have HF:Hid (decide (sf l)=false):=aM λh=>by have :=(HN.out h).1;omega
    clear HR HN U7 J hk;generalize l.getD k 0=x at *;go_wp2_with fail;go_ret;exact⟨by rw[HF.out];rfl,iA.out⟩
   ·by_cases y:256<=l.getD k 0
    ·have HF:Hid (decide (sf l)=false):=aM λh=>by have :=(HN.out h).1;omega
     clear HR HN U7 J hk;generalize l.getD k 0=x at *;go_wp2_with fail;go_ret;exact⟨by rw[HF.out];rfl,iA.out⟩
    ·obtain⟨c,W⟩:∃c:Nat,l.getD k 0=(c:Int):=⟨(l.getD k 0).toNat,by omega⟩
     rw[W] at af G y;have V:c<256:=by omega
     have aj:(c:Int)<256:=by omega
     have ai:(0:Int)<=(c:Int):=by omega
     obtain⟨hb,z,-⟩:=HR.out;have U:wr.cell? ⟨w.heap.size+1,c,none⟩=some (.bool ((o9 l k).getD c false)):=by
      rw[hb.cell,aC,qu (by rw[uk];exact V)]
     have hf:wr.frozen? ⟨w.heap.size+1,c,none⟩=false:=hb.frozen c;have oL:Hid (bf (wr.setCell ⟨w.heap.size+1,c,none⟩ (.bool true)) (w.heap.size+1) (bools (o9 l (k+1))).toArray 231):=by
      have :=hb.set c (.bool true);rw[ag,ym,U7.out c W] at this;exact this
     have BM:=J.out c V;have qz:=ar z;by_cases h0:c=0
     ·subst h0
      have Rw:Hid (∀i,i<k+1->(0<=l.getD i 0/\l.getD i 0<256)/\(l.getD i 0≠0->∀j,j<i->l.getD j 0≠l.getD i 0)):=λi hi=>by
       by_cases e:i=k
       ·subst e
        rw[W];exact⟨by decide,λh=>absurd rfl h⟩
       ·exact qz.out i (by omega)
      clear HR HN U7 J hb z BM qz G y W;generalize (o9 l k).getD 0 false=sv at *;go_wp2_with fail;go_roundg gg;case measure=>omega
      case rel=>exact⟨k+1,by omega,by go_num,oL.out,Rw.out,iA.out.setCell (by simp) _⟩
     ·have ak:((c:Int) != 0)=true:=by simp;omega
      cases Uh:(o9 l k).getD c false
      ·have Rw:Hid (∀i,i<k+1->(0<=l.getD i 0/\l.getD i 0<256)/\(l.getD i 0≠0->∀j,j<i->l.getD j 0≠l.getD i 0)):=λi hi=>by
        by_cases e:i=k
        ·subst e
         rw[Uh] at BM;have ah:=of_decide_eq_false BM.symm;rw[W];exact⟨⟨ai,aj⟩,λ_ j hj e=>ah ⟨j,hj,e⟩⟩
        ·exact qz.out i (by omega)
       rw[Uh] at U;clear HR HN U7 J hb z BM qz G y W Uh;go_wp2_with fail;go_roundg gg;case measure=>omega
       case rel=>exact⟨k+1,by omega,by go_num,oL.out,Rw.out,iA.out.setCell (by simp) _⟩
      ·rw[Uh] at BM U
       obtain⟨j,hj,he⟩:=of_decide_eq_true BM.symm;have HF:Hid (decide (sf l)=false):=aM λh=>(HN.out h).2 (by omega) j hj (by rw[he,W])
       clear HR HN U7 J hb z BM qz G y W Uh hk he;go_wp2_with fail;go_ret;exact⟨by rw[HF.out];rfl,iA.out⟩
theorem F3 (n:bN)(a:Option Addr)(cap:Nat)(U:n.B.length=13)(w:World):Calls prog 138 #[.agg (aU n (.slice a n.E.length cap))] w λe w'=>e= .returned (.bool (decide (p8 n)))/\ay [] w w':=by
 obtain⟨Z,hZ⟩:∃Z,Z=aU n (.slice a n.E.length cap):=⟨_,rfl⟩;have J:My Z n (.slice a n.E.length cap):=by rw[hZ];exact jL _ U
 rw[<-hZ];have V:=bf.new w Z 111;have c3:(w.alloc (.cells Z 111)).cell? ⟨w.heap.size,3,none⟩=some (.int .i64 n.S):=by rw[V.cell];exact J.f3
 have aa:(w.alloc (.cells Z 111)).cell? ⟨w.heap.size,17,none⟩=some (.slice a n.E.length cap):=by rw[V.cell];exact J.f5
 have HK:Hid (ay [] w (w.alloc (.cells Z 111))):=(ay.refl [] w).alloc _;have nW:=ar V;have oO:Hid (∀y:World,bf y w.heap.size Z 111->(loadVar 109 ⟨w.heap.size,4,none⟩).run prog y= .ok (.agg (zs n.B).toArray) y):=λy hb=>eN (off:=4) hb U J.f4
 have Xa:Hid (∀y:World,bf y w.heap.size Z 111->(loadVar 3 ⟨w.heap.size,3,none⟩).run prog y= .ok (.int .i64 n.S) y):=λy hb=>BF (off:=3) underlying3 hb J.f3
 clear V hZ;by_cases h0:n.S<0
 ·have HF:Hid (decide (p8 n)=false):=aM λh=>by have :=h.1.1;omega
  generalize n.S=s at *;clear U;go_enter func138,ntmps138;go_wp2_with fail;go_ret;exact⟨by rw[HF.out];rfl,HK.out⟩
 ·by_cases h1:832<n.S
  ·have HF:Hid (decide (p8 n)=false):=aM λh=>by have :=h.1.2;omega
   generalize n.S=s at *;clear U;go_enter func138,ntmps138;go_wp2_with fail;go_ret;exact⟨by rw[HF.out];rfl,HK.out⟩
  ·by_cases h2:n.E.length=0
   ·have HP:=ar (tG n.S.toNat 64 (by omega) (by omega) (by omega))
    have NV:lX n.S.toNat<=13:=by unfold lX;omega
    rw[show(n.S.toNat+64-1)/64=lX n.S.toNat by unfold lX;congr 1] at HP;have HU:=ar (MF n.B (lX n.S.toNat) U NV);have HN:=ar (Ak n.B U);have W:=ar (λy=>KF (a:=n.B) (b:=kW n.B (lX n.S.toNat)) U (uj U NV) y);have Yl:=yC;have HD:Hid (decide (p8 n)=(decide (n.B=kW n.B (lX n.S.toNat))&&decide (sf n.B))):=by
     have NW:p8 n↔(n.B=kW n.B (lX n.S.toNat)/\sf n.B):=⟨λh=>⟨h.2.2.1,h.2.2.2⟩,λh=>⟨⟨by omega,by omega⟩,h2,h.1,h.2⟩⟩;show _=_;rw[decide_eq_decide.2 NW,Bool.decide_and]
    obtain⟨s,hs⟩:∃s:Nat,n.S=(s:Int):=⟨n.S.toNat,by omega⟩;rw[h2] at aa;rw[hs] at h0 h1 c3 Xa HP HD W HU NV;rw[aJ] at HP HU W HD NV;generalize lX s=p at *;obtain⟨t,ht⟩:∃t,decide (n.B=kW n.B p)=t:=⟨_,rfl⟩;rw[ht] at HD W;generalize decide (sf n.B)=q at *;generalize (zs (kW n.B p)).toArray=ZU at *;generalize (zs n.B).toArray=ZB at *;have ac:=W.out;clear ht U hs W h2 J;cases t;all_goals
     go_enter func138,ntmps138;go_wp2_with fail;refine dt (S:=λy=>ay [] (w.alloc (.cells Z 111)) y) (by kernel_rfl) (by kernel_rfl) (λd _ _ _ _ h=>by cases d<;>exact h) ((ay.refl _ _).drew) (by kernel_rfl) ?_;repeat (first
      |(refine aH.cons (.agg ZB) (aX.load rfl 109 (.tmp 17) rfl _ rfl λy z=>oO.out _ (nW.out.keep z (by simp))) ?_;simp only[Act.put,ag,ah,ai])
      |(refine aH.cons (.agg ZB) (aX.load rfl 109 (.tmp 19) rfl _ rfl λy z=>oO.out _ (nW.out.keep z (by simp))) ?_;simp only[Act.put,ag,ah,ai])
      |(refine aH.cons _ (aX.load rfl 3 (.tmp 21) rfl _ rfl λy z=>Xa.out _ (nW.out.keep z (by simp))) ?_;simp only[Act.put,ag,ah,ai])
      |(refine aH.cons (.int .i64 (p:Int)) (aX.call rfl 168 #[.int .i64 (s:Int),.int .i64 64] ?G ?h) ?_;(case G=>(intro wz;go_simp));(case h=>exact λy z=>(HP.out y).mono λe w' G=>⟨G.1,by rw[<-G.2];exact z⟩);simp only[Act.put,ag,ah,ai])
      |(refine aH.cons (.agg ZU) (aX.call rfl 167 #[.agg ZB,.int .i64 (p:Int)] ?G ?h) ?_;(case G=>(intro wz;go_simp));(case h=>exact λy z=>(HU.out y).mono λe w' G=>⟨G.1,z.trans' G.2⟩);simp only[Act.put,ag,ah,ai])
      |(refine aH.cons (.agg ZB) (aX.load rfl 109 (.tmp 27) rfl _ rfl λy z=>oO.out _ (nW.out.keep z (by simp))) ?_;simp only[Act.put,ag,ah,ai])
      |(refine aH.cons (.bool q) (aX.call rfl 169 #[.agg ZB] ?G ?h) ?_;(case G=>(intro wz;go_simp));(case h=>exact λy z=>(HN.out y).mono λe w' G=>⟨G.1,z.trans' G.2⟩);simp only[Act.put,ag,ah,ai])
      |(refine aH.cons undef (aX.off rfl) ?_;simp only[Act.put,ag,ah,ai])
      |(refine aH.cons ?_ (aX.val rfl ?h) ?_;(case h=>(intro y z;go_simp;rfl));simp only[Act.put,ag,ah,ai]))
     refine aH.done λwz hz=> ?_
     have HZ:=ar (HK.out.trans' hz);clear hz;go_wp2_with fail;go_ret;exact⟨by rw[HD.out];rfl,HZ.out⟩
   ·have HF:Hid (decide (p8 n)=false):=aM λh=>h2 h.2.1
    have e2:((n.E.length:Nat):Int)≠0:=by omega
    have e3:(((n.E.length:Nat):Int) != 0)=true:=bne_iff_ne.2 e2;generalize n.S=s at *;generalize n.E.length=m at *;clear U J;go_enter func138,ntmps138;go_wp2_with fail;go_ret;exact⟨by rw[HF.out];rfl,HK.out⟩
def Ym (l:List Int):Prop:=∀k,0<=l.getD k 0/\l.getD k 0<9223372036854775808
theorem kX{x:Int}(h:0<=x)(y:x<9223372036854775808):IntKind.u64.wrap x=x:=by rw[fN];omega
theorem KP (l:List Int)(hl:l.length=13)(hn:Ym l)(w:World):Calls prog 197 #[.agg (zs l).toArray] w λe w'=>e= .returned (.agg (aO (l.drop 5)).toArray)/\ay [] w w':=by
 have V:(l.drop 5).length=8:=by simp[hl]
 have Xb:Hid (∀k,0<=(l.drop 5).getD k 0/\(l.drop 5).getD k 0<9223372036854775808):=λk=>by
  have :=hn (5+k);simpa[aj] using this
 have HR:=ar (FZ l hl);have af:=bf.new w (zs l).toArray 109;have yb:(aO (List.replicate 8 0)).toArray=(aO (dn 0 (l.drop 5) 0)).toArray:=by rw[jA,V]
 obtain⟨U,h⟩:∃U,U=((w.alloc (.cells (zs l).toArray 109)).alloc (.cells (aO (List.replicate 8 0)).toArray 195)).alloc (.cells (aO (List.replicate 8 0)).toArray 195):=⟨_,rfl⟩;have oL:Hid (bf U (w.heap.size+1) (aO (List.replicate 8 0)).toArray 195):=by
  have :=(bf.new (w.alloc (.cells (zs l).toArray 109)) (aO (List.replicate 8 0)).toArray 195).alloc (.cells (aO (List.replicate 8 0)).toArray 195);have e:(w.alloc (.cells (zs l).toArray 109)).heap.size=w.heap.size+1:=by simp
  rw[e,<-h] at this;exact this
 have p9:Hid (bf U (w.heap.size+2) (aO (dn 0 (l.drop 5) 0)).toArray 195):=by
  have :=bf.new ((w.alloc (.cells (zs l).toArray 109)).alloc (.cells (aO (List.replicate 8 0)).toArray 195)) (aO (List.replicate 8 0)).toArray 195;have e:((w.alloc (.cells (zs l).toArray 109)).alloc (.cells (aO (List.replicate 8 0)).toArray 195)).heap.size=w.heap.size+2:=by simp
  rw[e,<-h,yb] at this;exact this
 have HK:Hid (ay [] w U):=by
  show ay _ _ _;rw[h];exact(((ay.refl [] w).alloc _).alloc _).alloc _
 have HL:Hid ((loadVar 109 ⟨w.heap.size,0,none⟩).run prog U= .ok (.agg (zs l).toArray) U):=by
  rw[h];exact eN (off:=0) ((af.alloc _).alloc _) hl (λk hk=>by rw[aV,aC,fp (by omega)])
 have HX:Hid (∀k,k<8->(zs (l.drop 5)).toArray[k]? =some (.int .i64 ((l.drop 5).getD k 0))):=λk hk=>by rw[aC,fp (by omega)]
 have ak:=jx;have nX:=ar h;clear af yb hn h;generalize l.drop 5=d at *;generalize (zs l).toArray=Z at *;generalize (zs d).toArray=D at *;generalize sP:(aO (List.replicate 8 0)).toArray=Z8 at *;clear hl;go_enter func197,ntmps197;go_wp2_with((with_reducible show wpList _ _ _ (⟨_,.load 109 (.tmp 1),_,_,_,_⟩::_) _ _);rw[<-nX.out];refine ft rfl 109 (.tmp 1) rfl _ rfl _ HL.out ?_);refine(HR.out _).mono ?_;rintro e w1 ⟨rfl,G⟩;have aa:=ar (oL.out.keep G (by simp));have W:=ar (p9.out.keep G (by simp));have jl:=ar (HK.out.trans' G);clear G nX oL p9 HL;go_wp2_with fail;go_loopg [8] 8 (λgh s8 wx=>∃k:Nat,k+gh=8/\s8= .int .i64 (k:Int)/\Hid (bf wx (w.heap.size+2) (aO (dn 0 d k)).toArray 195/\bf wx (w.heap.size+1) Z8 195/\ay [] w wx))
 case atStart=>exact⟨0,by omega,rfl,W.out,aa.out,jl.out⟩
 case round=>
  clear aa W HK jl ak;obtain⟨k,hk,rfl,z⟩:=hrel;cases gk with
  |zero=>
   obtain rfl:k=8:=by omega
   have J:=z.out.1;rw[show dn 0 d 8=d by rw[<-V];exact j5 0 d] at J;have HL:=ar (dX J V);obtain⟨w2,hS,ac,ae⟩:=bo (P:= prog) (ty:= 195) (cs:=aO d) (by rw[aZ,V];exact il) z.out.2.1 (by rw[<-sP];simp[aZ,V]) (eF _);have HS:=ar hS;have pd:=ar (dX ac V);have iA:=ar (z.out.2.2.trans ae (by simp));clear hS J ac ae z hk;go_wp2_with(first|(with_reducible refine gL 195 HL.out ?_)|(with_reducible refine gS 195 HS.out ?_));exact aL (dJ results197 rfl pd.out) rfl ⟨rfl,iA.out⟩
  |succ gg=>
   have sX:k<8:=by omega
   have au:(k:Int)<8:=by omega
   have eo:(0:Int)<=(k:Int):=by omega
   have Ad:=Rl sX (HX.out k sX);have hw:=kX (Xb.out k).1 (Xb.out k).2;have ah:wr.cell? ⟨w.heap.size+2,k,none⟩=some (.int .u64 ((dn 0 d k).getD k 0)):=by
    rw[z.out.1.cell,aC,cG (by rw[jG _ _ _ (by omega)];omega)]
   have hf:wr.frozen? ⟨w.heap.size+2,k,none⟩=false:=z.out.1.frozen k;have HB:Hid (bf (wr.setCell ⟨w.heap.size+2,k,none⟩ (.int .u64 (d.getD k 0))) (w.heap.size+2) (aO (dn 0 d (k+1))).toArray 195):=by
    have :=z.out.1.set k (.int .u64 (d.getD k 0));rw[ag,ku,jB 0 d k (by omega) (d.getD k 0) (by simp[show k<d.length by omega])] at this;exact this
   have ai:Hid (bf (wr.setCell ⟨w.heap.size+2,k,none⟩ (.int .u64 (d.getD k 0))) (w.heap.size+1) Z8 195):=z.out.2.1.other (by simp) _;have iA:=ar z.out.2.2;clear z;generalize d.getD k 0=x at *;generalize (dn 0 d k).getD k 0=y at *;go_wp2_with fail;go_roundg gg;case measure=>omega
   case rel=>exact⟨k+1,by omega,by go_num,HB.out,ai.out,iA.out.setCell (.inr (by show w.heap.size<=w.heap.size+2;omega)) _⟩
end Go.Proofs.YtepbpdipenedhaaGreatDoor
