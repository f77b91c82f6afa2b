/- Lemmas. -/
import Derived.OrdersHeld
import Derived.Test.YtepbpdipenedhaaGreatDoorR03
set_option maxHeartbeats 8000000
set_option maxRecDepth 100000
namespace Go.Proofs.YtepbpdipenedhaaGreatDoor
open Go.Proofs.Tryz
variable{w:World}{v:Value}
section
variable {P:Program} {ops:Array Oper} {Q:Exit->Act->World->Prop} {md:Region.Mode} {S:World->Prop}
def Steps (P:Program) (S:World->Prop) (v:Value):Result Next->Prop
 | .ok (.value u) w'=>u=v/\S w'
 | .ok .skip w'=>v=undef/\S w'
 | .ok (.enter f args) w'=>Calls P f args w' λe h=>e= .returned v/\S h
 |_=>False
def bc (P:Program) (ops:Array Oper) (S:World->Prop) (o:Oper) (v:Value) (a:Act):Prop:=
 (Region.wanted o (yielded ops a.tmps)=true/\∀w,S w->Steps P S v ((execOp a.eval o).run P w))\/(Region.wanted o (yielded ops a.tmps)=false/\v=undef)
theorem bc.of_same{o:Oper}{v:Value}{a h:Act}(z:bc P ops S o v a)(J:execOp h.eval o=execOp a.eval o)
  (G:Region.wanted o (yielded ops h.tmps)=Region.wanted o (yielded ops a.tmps)):bc P ops S o v h:=by
 unfold bc at *;rw[J,G];exact z
theorem bc.wpOp{i:Nat}{o:Oper}{v:Value}{a:Act}(hi:ops[i]? =some o)(V:bc P ops S o v a){K:Act->World->Prop}{w:World}(U:S w)(h:∀w',S w'->K (a.put o.dst v) w'):wpOp P ops Q i K a w:=by
 unfold Go.wpOp;simp only[hi];rcases V with ⟨J,W⟩|⟨J,rfl⟩
 ·have z:=W w U
  simp only[J,if_true];refine .inl ?_;unfold Oper.wp;generalize (execOp a.eval o).run P w=r at *;cases r with
  |ok n w'=>
   cases n with
   |value u=>obtain⟨rfl,G⟩:=z;exact h _ G
   |skip=>obtain⟨rfl,G⟩:=z;exact h _ G
   |enter f args=>
    refine Calls.mono z λe aa he=> ?_
    obtain⟨rfl,G⟩:=he;exact h _ G
   |_=>exact z.elim
  |halt x w'=>exact z.elim
 ·simp only[J,Bool.false_eq_true,if_false];exact h _ U
def Ap (P:Program) (ops:Array Oper) (S h:World->Prop) (o:Oper) (v:Value) (a:Act):Prop:=
 Region.wanted o (yielded ops a.tmps)=true/\∀w,S w->Steps P h v ((execOp a.eval o).run P w)
theorem Ap.wpOp{S J:World->Prop}{i:Nat}{o:Oper}{v:Value}{a:Act}(W:ops[i]? =some o)(U:Ap P ops S J o v a){K:Act->World->Prop}{w:World}(hS:S w)(h:∀w',J w'->K (a.put o.dst v) w'):wpOp P ops Q i K a w:=by
 unfold Go.wpOp;simp only[W];obtain⟨hw,V⟩:=U;have z:=V w hS;simp only[hw,if_true];refine .inl ?_;unfold Oper.wp;generalize (execOp a.eval o).run P w=r at *;cases r with
 |ok n w'=>
  cases n with
  |value u=>obtain⟨rfl,G⟩:=z;exact h _ G
  |skip=>obtain⟨rfl,G⟩:=z;exact h _ G
  |enter f args=>
   refine Calls.mono z λe aa he=> ?_
   obtain⟨rfl,G⟩:=he;exact h _ G
  |_=>exact z.elim
 |halt x w'=>exact z.elim
def ET (P:Program) (ops:Array Oper) (S:Bool->World->Prop) (o:Oper) (v:Value) (a:Act):Prop:=∀b,bc P ops (S b) o v a
theorem JM {S:Bool->World->Prop}{j:Nat}{z J:Oper}{v:Value}(hj:ops[j]? =some J)(af:z.apart ops J=true)
  (ae:∀cs b,z.op≠.select cs b) (aa:∀cs b,J.op≠.select cs b)
  (hQ:∀c a w,Q (.panic c) (a.put z.dst v) w->Q (.panic c) a w) {K:Act->World->Prop} {a:Act} {w:World}
  (U:ET P ops S z v a) (h:wpOp P ops Q j K (a.put z.dst v) w):
  wpOp P ops Q j (λa' w'=>ET P ops S z v a'/\K (a'.put z.dst v) w') a w:=by
 obtain⟨h1,V,h3⟩:=Oper.apart_spec af;have keep:∀(a:Act),ET P ops S z v a->∀u,ET P ops S z v (a.put J.dst u):=λa U u=>
  λb=>(U b).of_same (execOp_put z ae a J.dst u h3) (wanted_put z a J.dst u h3)
 have ac:∀d,ET P ops S z v { a with defers:=d::a.defers }:=λd=>λb=>(U b).of_same rfl rfl
 unfold Go.wpOp at *;simp only[hj] at *;rw[wanted_put J a z.dst v h1] at h;split
 ·rename_i hw
  simp only[hw,if_true] at h;rcases h with h|⟨G,ag⟩
  case inr=>exact .inr ⟨by unfold Oper.asks at *;rw[execOp_put J aa a z.dst v h1] at G;exact G,ag⟩
  refine .inl ?_;unfold Oper.wp at *;rw[execOp_put J aa a z.dst v h1] at h;generalize (execOp a.eval J).run P w=r at *;cases r with
  |ok n w'=>
   cases n<;>simp only[Oper.upon] at h ⊢
   case value u=>exact⟨keep a U u,by rw[<-Act.put_comm a v u V];exact h⟩
   case skip=>exact⟨keep a U _,by rw[<-Act.put_comm a v undef V];exact h⟩
   case defer d=>
    refine⟨keep _ (ac d) _,?_⟩;rw[<-Act.put_comm _ v undef V,<-Act.put_defers];exact h
   case enter f args=>
    refine Calls.mono h λe ah W=> ?_
    cases e with
    |returned u=>exact⟨keep a U u,by rw[<-Act.put_comm a v u V];exact W⟩
    |panicked c=>exact hQ _ _ _ W
    |outgrown=>exact W
   case row row args=>exact Rows.mono h λu ah W=>⟨keep a U u,by rw[<-Act.put_comm a v u V];exact W⟩
  |halt x w'=>
   cases x<;>simp only[Oper.upon] at h ⊢
   case panic u=>exact hQ _ _ _ h
 ·rename_i hw
  simp only[hw] at h;exact⟨keep a U _,by rw[<-Act.put_comm a v undef V];exact h⟩
def xf (md:Region.Mode) (ops:Array Oper) (h:Array Bool):Prop:=
 ∀k o,ops[k]? =some o->h.getD k true=true->∀e∈o.after,Region.binds md e=true->h.getD e.on false=true
def leads (md:Region.Mode) (ops:Array Oper):Nat->Nat->Nat->Bool
 |0,_,_=>false
 |fuel+1,i,L=>(List.range ops.size).any λk=>k != i&&((ops[k]?).map (·.after.any λe=>Region.binds md e&&e.on==i)).getD false&&(k==L||leads md ops fuel k L)
theorem Iw {z:Array Bool}{i:Nat}(h:z.getD i true=false):z.getD i false=false:=by
 rcases dG i z.size with G|G
 ·simp[G] at h ⊢;exact h
 ·simp[Array.getElem?_eq_none G] at h
theorem LK {z:Array Bool}(hc:xf md ops z):∀(fuel i L:Nat),leads md ops fuel i L=true->z.getD i true=false->L∉Region.ready md ops z:=by
 intro fuel;induction fuel with
 |zero=>intro i L h;simp[leads] at h
 |succ fuel ih=>
  intro i L h hi;unfold leads at h;rw[List.any_eq_true] at h;obtain⟨k,-,hk⟩:=h;simp only[fD,Bool.or_eq_true,bne_iff_ne,ne_eq] at hk;obtain⟨⟨-,ac⟩,G⟩:=hk;cases ho:ops[k]? with
  |none=>simp[ho] at ac
  |some o=>
   have ae:o.after.any (λe=>Region.binds md e&&e.on==i)=true:=by simpa[ho] using ac
   obtain⟨e,he,V⟩:=Array.any_eq_true'.1 ae;simp only[fD,beq_iff_eq] at V;obtain⟨hb,zV⟩:=V;have J:z.getD e.on false=false:=by rw[zV];exact Iw hi
   by_cases U:k=L
   ·subst U
    intro hm;obtain⟨-,o',aa,W⟩:=mem_ready.1 hm;rw[ho] at aa;cases aa;rw[W e he hb] at J;cases J
   ·rcases G with G|G
    ·exact absurd (by simpa using G) U
    ·refine ih k L G ?_
     cases hl:z.getD k true with
     |false=>rfl
     |true=>
      rw[hc k o ho hl e he hb] at J;cases J
theorem zo {h:Array Bool}{j:Nat}(hc:xf md ops h)(hj:j∈Region.ready md ops h):xf md ops (h.setIfInBounds j true):=by
 intro k o W hl e U V;by_cases J:j=k
 ·subst J
  obtain⟨-,o',G,z⟩:=mem_ready.1 hj;rw[W] at G;cases G;exact getD_set_true (z e U V)
 ·rw[Go.getD_set_ne true J] at hl
  exact getD_set_true (hc k o W hl e U V)
def sV (P:Program) (md:Region.Mode) (ops:Array Oper) (Q:Exit->Act->World->Prop) (S:Bool->World->Prop) (F L:Nat):Nat->Array Bool->Act->Prop
 |0,listed,a=>Region.ready md ops listed=[]/\∀w,S (listed.getD F false) w->Q .normal a w
 |fuel+1,listed,a=>
  (Region.ready md ops listed=[]->∀w,S (listed.getD F false) w->Q .normal a w)/\
  (∀i∈Region.ready md ops listed,i≠L->∀w,S (listed.getD F false) w->wpOp P ops Q i (λh w'=>S ((listed.setIfInBounds i true).getD F false) w'/\sV P md ops Q S F L fuel (listed.setIfInBounds i true) h) a w)/\
  (L∈Region.ready md ops listed->∀w,S (listed.getD F false) w->wpOp P ops Q L (wpAny P md ops Q fuel (listed.setIfInBounds L true)) a w)
theorem mB {S:Bool->World->Prop}{F L:Nat}:∀(fuel:Nat) (z:Array Bool) (a:Act),sV P md ops Q S F L fuel z a->∀w,S (z.getD F false) w->wpAny P md ops Q fuel z a w
 |0,_,_,h,w,hS=>⟨h.1,h.2 w hS⟩
 |fuel+1,z,a,h,w,hS=>by
  refine⟨λV=>h.1 V w hS,λi G=> ?_⟩;by_cases U:i=L
  ·subst U
   exact h.2.2 G w hS
  ·exact wpOp_mono (λW w' J=>mB fuel _ W J.2 w' J.1) (h.2.1 i G U w hS)
theorem oJ {z:Array Bool}{i j:Nat}(h:i≠j):(z.setIfInBounds i true).getD j false=z.getD j false:=by
 simp[Array.getElem?_setIfInBounds_ne h]
theorem Aq {S:Bool->World->Prop}{i F L:Nat}{oi:Oper}{v:Value}(hi:ops[i]? =some oi)(av:i≠L)(V:i≠F)(af:∀(j:Nat) (o:Oper) cs b,ops[j]? =some o->o.op≠.select cs b)
  (hQ:∀c a w,Q (.panic c) (a.put oi.dst v) w->Q (.panic c) a w) (hL:L≥ops.size\/leads md ops ops.size i L=true):
  ∀(fuel:Nat) (z:Array Bool) (a:Act),xf md ops z->
   (∀j oj,ops[j]? =some oj->j≠i->z.getD j true=false->(∀e∈oj.after,Region.binds md e=true->e.on≠i)->oi.apart ops oj=true)->
   i∈Region.ready md ops z->ET P ops S oi v a->
   sV P md ops Q S F L fuel (z.setIfInBounds i true) (a.put oi.dst v)->sV P md ops Q S F L (fuel+1) z a:=by
 have ae:∀z:Array Bool,xf md ops z->i∈Region.ready md ops z->L∉Region.ready md ops z:=by
  intro z hc G hm;rcases hL with hL|hL
  ·obtain⟨-,o,ho,-⟩:=mem_ready.1 hm
   rw[Array.getElem?_eq_none hL] at ho;cases ho
  ·exact LK hc _ i L hL (mem_ready.1 G).1 hm
 intro fuel;induction fuel with
 |zero=>
  intro z a hc _ G hy H;refine⟨λh=>(by rw[h] at G;cases G),λj hj _ w hS=> ?_,λhm=>absurd hm (ae z hc G)⟩;by_cases U:j=i
  ·subst U;exact(hy _).wpOp hi hS λw' Ze=>⟨by rw[oJ V];exact Ze,H⟩
  ·have :=ready_mono hj U
   rw[H.1] at this;cases this
 |succ fuel ih=>
  intro z a hc J G hy H;refine⟨λh=>(by rw[h] at G;cases G),λj hj aj w hS=> ?_,λhm=>absurd hm (ae z hc G)⟩;by_cases U:j=i
  ·subst U;exact(hy _).wpOp hi hS λw' Ze=>⟨by rw[oJ V];exact Ze,H⟩
  ·have h1:=H.2.1 j (ready_mono hj U) aj w (by rw[oJ V];exact hS)
   obtain⟨ac,oj,W,aa⟩:=mem_ready.1 hj;have ar:∀e∈oj.after,Region.binds md e=true->e.on≠i:=λe he hb au=>by
    have h1:=aa e he hb;have h0:=(mem_ready.1 G).1;rw[au] at h1;rw[Iw h0] at h1;cases h1
   have h2:=JM W (J j oj W U ac ar) (λcs b=>af i oi cs b hi) (λcs b=>af j oj cs b W) hQ hy h1;have ai:∀k ok,ops[k]? =some ok->k≠i->(z.setIfInBounds j true).getD k true=false->
     (∀e∈ok.after,Region.binds md e=true->e.on≠i)->oi.apart ops ok=true:=λk ok hk Bp ah ak=>by
    refine J k ok hk Bp ?_ ak;by_cases ag:j=k
    ·subst ag;exact ac
    ·rw[Go.getD_set_ne true ag] at ah;exact ah
   refine wpOp_mono (λa' w' h3=> ?_) h2;obtain⟨h4,h5,h6⟩:=h3;rw[Array.setIfInBounds_comm _ _ (dK U)] at h6;rw[Array.setIfInBounds_comm _ _ (dK U),oJ V] at h5;exact⟨h5,ih (z.setIfInBounds j true) a' (zo hc hj) ai (ready_mono G (dK U)) h4 h6⟩
def df (n i:Nat):Array Bool:=((List.range n).map λk=>decide (k<i)).toArray
theorem lO (n i:Nat):(df n i).setIfInBounds i true=df n (i+1):=by
 apply Array.ext
 ·simp[df]
 ·intro k z J
  simp only[df,ag,iz,List.getElem_set,ig,jJ];by_cases h:i=k
  ·subst h;simp
  ·rw[aB h]
   exact decide_eq_decide.2 ⟨λh=>by omega,λG=>by omega⟩
theorem kj (n:Nat):df n 0=Array.replicate n false:=by
 apply Array.ext
 ·simp[df]
 ·intro k h z
  simp[df]
def yJ (md:Region.Mode) (ops:Array Oper) (m L:Nat):Bool:=
 Region.noSelect ops&&(List.range m).all λi=>Region.free md ops (df ops.size i) i&&(Region.ready md ops (df ops.size i)).contains i&&(decide (ops.size<=L)||leads md ops ops.size i L)
theorem Sy {m L:Nat}(h:yJ md ops m L=true):∀i,i<=m->xf md ops (df ops.size i):=by
 intro i;induction i with
 |zero=>
  intro _ k o J z;rw[kj] at z;have G:k<ops.size:=(Array.getElem?_eq_some_iff.1 J).1;simp[G] at z
 |succ i ih=>
  intro U;rw[<-lO];simp only[yJ,fD,fY,bX] at h;exact zo (ih (by omega)) (by simpa using (h.2 i (by omega)).1.2)
def aK (P:Program) (ops:Array Oper) (S:World->Prop) (E:Act->World->Prop):List Oper->Act->Prop
 | [],a=>∀w,S w->E a w
 |o::rest,a=>∃v,bc P ops S o v a/\aK P ops S E rest (a.put o.dst v)
def fG (P:Program) (ops:Array Oper) (S:Bool->World->Prop) (E:Act->Prop):List Oper->Act->Prop
 | [],a=>E a
 |o::rest,a=>∃v,ET P ops S o v a/\fG P ops S E rest (a.put o.dst v)
theorem aK.toB{E:Act->World->Prop}:∀(l:List Oper) (a:Act),aK P ops S E l a->fG P ops (λ_=>S) (λa=>∀w,S w->E a w) l a
 | [],_,h=>h
 |_::l,_,⟨v,h1,h2⟩=>⟨v,λ_=>h1,aK.toB l _ h2⟩
theorem Iy {S:Bool->World->Prop}{m F L:Nat}(V:yJ md ops m L=true)(ac:m<=L)(aa:m<=F)(hQ:∀d v c a w,Q (.panic c) (Act.put a d v) w->Q (.panic c) a w){E:Act->Prop}
  (J:∀a,E a->sV P md ops Q S F L (ops.size-m) (df ops.size m) a):
  ∀(l:List Oper) (i:Nat) (a:Act),i+l.length=m->m<=ops.size->(∀k,k<l.length->ops[i+k]? =l[k]?)->fG P ops S E l a->sV P md ops Q S F L (ops.size-i) (df ops.size i) a:=by
 have G:=V;simp only[yJ,fD,fY,bX] at G;intro l;induction l with
 |nil=>
  intro i a U hm _ h;obtain rfl:i=m:=by simpa using U
  exact J a h
 |cons o rest ih=>
  intro i a U hm W h;rw[bQ] at U;obtain⟨v,hv,hr⟩:=h;have ho:ops[i]? =some o:=by simpa using W 0 (by simp)
  obtain⟨⟨c1,c2⟩,c3⟩:=G.2 i (by omega);have z:=ih (i+1) (a.put o.dst v) (by omega) hm (λk hk=>by
   have :=W (k+1) (by simpa using hk);rw[show i+1+k=i+(k+1) by omega,this];simp) hr
  rw[<-lO] at z;rw[show ops.size-i=(ops.size-(i+1))+1 by omega];refine Aq ho (by omega) (by omega) (Region.noSelect_spec G.1) (hQ o.dst v) ?_ _ _ a (Sy V i (by omega)) (Region.free_spec ho c1) (by simpa using c2) hv z;simp only[Bool.or_eq_true,decide_eq_true_eq] at c3;exact c3
theorem dX {W:Nat}{a:Act}{w:World}(U:P.follows .mixedOrders=true)(J:yJ .any ops ops.size ops.size=true)(G:∀d v c a w,Q (.panic c) (Act.put a d v) w->Q (.panic c) a w)(V:S w.drew)
  (z:Region.ready .any ops (df ops.size ops.size)=[]) (h:aK P ops S (Q .normal) ops.toList a):(Code.region W ops true).wp P Q a w:=by
 refine jn U ?_;rw[<-kj];refine mB (S:=λ_=>S) (F:=ops.size) (L:=ops.size) _ _ _ ?_ _ V;refine Iy (m:=ops.size) J (aI _) (aI _) G (E:=λa=>∀w,S w->Q .normal a w) (λa h=> ?_) ops.toList 0 a (by simp) (aI _) (λk hk=>by simp) (aK.toB _ _ h);rw[jH];exact⟨z,h⟩
theorem Ar:∀(l:List Oper) (i:Nat) (a:Act) (w:World),i+l.length=ops.size->(∀k,k<l.length->ops[i+k]? =l[k]?)->(∀j,i<=j->j<ops.size->Region.ready md ops (df ops.size j)=[j])->
  Region.ready md ops (df ops.size ops.size)=[]->wpList P ops Q l a w->wpAny P md ops Q (ops.size-i) (df ops.size i) a w:=by
 intro l;induction l with
 |nil=>
  intro i a w J _ _ z h;obtain rfl:i=ops.size:=by simpa using J
  rw[jH];exact⟨z,h⟩
 |cons o rest ih=>
  intro i a w J W V z h;rw[bQ] at J;have ho:ops[i]? =some o:=by simpa using W 0 (by simp)
  have U:=V i (aI _) (by omega);rw[show ops.size-i=(ops.size-(i+1))+1 by omega];refine⟨λh0=>(by rw[U] at h0;cases h0),λj hj=> ?_⟩;rw[U,ay] at hj;subst hj;rw[lO];have h2:wpOp P ops Q j (wpList P ops Q rest) a w:=by
   unfold Go.wpOp;simp only[ho];unfold wpList at h;exact h
  refine wpOp_mono (λa' w' h'=>ih (j+1) a' w' (by omega) (λk hk=> ?_) (λi hi G=>V i (by omega) G) z h') h2;have :=W (k+1) (by simpa using hk);rw[show j+1+k=j+(k+1) by omega,this];simp
theorem uX {m r:Nat}(h:((List.range r).all λk=>Region.ready md ops (df ops.size (m+k)) == [m+k])=true):∀j,m<=j->j<m+r->Region.ready md ops (df ops.size j)=[j]:=λj G z=>by
 have :=fY.1 h (j-m) (by rw[bX];omega);rw[show m+(j-m)=j by omega] at this;simpa using this
theorem fw {id:Nat}{a:Act}{w:World}{l:List Oper}{o:Oper}{tl:List Oper}(W:P.follows .mixedOrders=true)(o6:ops.toList=l++(o::tl))(ht:yJ .any ops l.length l.length=true)(hQ:∀d v c a w,Q (.panic c) (Act.put a d v) w->Q (.panic c) a w)(J:S w.drew)
  (ac:((List.range (tl.length+1)).all λk=>Region.ready .any ops (df ops.size (l.length+k)) == [l.length+k])=true) (aa:Region.ready .any ops (df ops.size ops.size)=[]) (h:aK P ops S (wpList P ops Q (o::tl)) l a):(Code.region id ops true).wp P Q a w:=by
 have G:ops.size=l.length+(tl.length+1):=by rw[<-dm,o6];simp
 have V:=uX ac;rw[<-G] at V;refine jn W ?_;rw[<-kj];refine mB (S:=λ_=>S) (F:=ops.size) (L:=l.length) _ _ _ ?_ _ J;have z:∀k,ops[k]? =(l++(o::tl))[k]? :=λk=>by rw[<-o6,dw]
 refine Iy (m:=l.length) ht (aI _) (by omega) hQ (E:=λa=>∀w,S w->wpList P ops Q (o::tl) a w) (λa h=> ?_) l 0 a (by simp) (by omega) (λk hk=>by rw[z,aX,aY hk]) (aK.toB _ _ h);have h1:=V l.length (aI _) (by omega);have Wh:∀w,S w->wpAny P .any ops Q (ops.size-l.length) (df ops.size l.length) a w:=λw J=>
  Ar (o::tl) l.length a w (by simpa using G.symm) (λk hk=>by rw[z,aQ (by omega),cY]) V aa (h w J)
 rw[show ops.size-l.length=tl.length+1 by omega] at Wh ⊢;refine⟨λh0=>(by rw[h1] at h0;cases h0),λi hi U=> ?_,λW w J=>(Wh w J).2 _ W⟩;rw[h1,ay] at hi;exact absurd hi U
theorem l8 {n F i:Nat}(h:F<n):(df n i).getD F false=decide (F<i):=by
 simp[df,h]
theorem agT {S:Bool->World->Prop}{F L:Nat}(kJ:∀j,F<j->j<ops.size->Region.ready md ops (df ops.size j)=[j]){E:Act->World->Prop}
  (z:∀a,(∀w,S true w->E a w)->sV P md ops Q S F L (ops.size-L) (df ops.size L) a):
  ∀(l:List Oper) (i:Nat) (a:Act),F<i->i+l.length=L->L<ops.size->(∀k,k<l.length->ops[i+k]? =l[k]?)->aK P ops (S true) E l a->sV P md ops Q S F L (ops.size-i) (df ops.size i) a:=by
 intro l;induction l with
 |nil=>
  intro i a _ U _ _ h;obtain rfl:i=L:=by simpa using U
  exact z a h
 |cons o rest ih=>
  intro i a hF U hL V h;rw[bQ] at U;obtain⟨v,hv,hr⟩:=h;have ho:ops[i]? =some o:=by simpa using V 0 (by simp)
  have J:=kJ i hF (by omega);have G:=ih (i+1) (a.put o.dst v) (by omega) (by omega) hL (λk hk=>by
   have :=V (k+1) (by simpa using hk);rw[show i+1+k=i+(k+1) by omega,this];simp) hr
  rw[show ops.size-i=(ops.size-(i+1))+1 by omega];refine⟨λh0=>(by rw[J] at h0;cases h0),λj W _ w hS=> ?_,λhm=> ?_⟩
  ·rw[J,ay] at W
   subst W;rw[l8 (by omega),bq (show F<j by omega)] at hS;refine hv.wpOp ho hS λw' Ze=> ?_
   rw[lO,l8 (by omega),bq (show F<j+1 by omega)];exact⟨Ze,G⟩
  ·rw[J,ay] at hm
   omega
theorem vX {S:Bool->World->Prop}{id:Nat}{a:Act}{w:World}{l mid:List Oper}{f o:Oper}{tl:List Oper}(W:P.follows .mixedOrders=true)(o6:ops.toList=l++(f::(mid++(o::tl))))(ht:yJ .any ops l.length (l.length+1+mid.length)=true)(hQ:∀d v c a w,Q (.panic c) (Act.put a d v) w->Q (.panic c) a w)(G:S false w.drew)
  (af:((List.range (ops.size-l.length)).all λk=>Region.ready .any ops (df ops.size (l.length+k)) == [l.length+k])=true) (ae:Region.ready .any ops (df ops.size ops.size)=[])
  (h:fG P ops S (λa=>∃v,Ap P ops (S false) (S true) f v a/\aK P ops (S true) (wpList P ops Q (o::tl)) mid (a.put f.dst v)) l a):(Code.region id ops true).wp P Q a w:=by
 have ag:ops.size=l.length+(1+(mid.length+(1+tl.length))):=by rw[<-dm,o6];simp;omega
 have V:=uX af;rw[show l.length+(ops.size-l.length)=ops.size by omega] at V;refine jn W ?_;rw[<-kj];refine mB (S:=S) (F:=l.length) (L:=l.length+1+mid.length) _ _ _ ?_ _ (by rw[l8 (by omega)];exact G);have z:∀k,ops[k]? =(l++(f::(mid++(o::tl))))[k]? :=λk=>by rw[<-o6,dw]
 refine Iy (m:=l.length) ht (by omega) (aI _) hQ (λa h=> ?_) l 0 a (by simp) (by omega) (λk hk=>by rw[z,aX,aY hk]) h;obtain⟨v,hf,J⟩:=h;have h1:=V l.length (aI _) (by omega);have ac:=agT (md:= .any) (Q:=Q) (S:=S) (F:=l.length) (L:=l.length+1+mid.length) (λj hj=>V j (by omega)) (E:=wpList P ops Q (o::tl)) (λa2 h=>by
  have h2:=V (l.length+1+mid.length) (by omega) (by omega);have Wh:∀w,S true w->wpAny P .any ops Q (ops.size-(l.length+1+mid.length)) (df ops.size (l.length+1+mid.length)) a2 w:=λw G=>
   Ar (o::tl) (l.length+1+mid.length) _ w (by simp;omega) (λk hk=>by
    rw[z,aQ (by omega),show l.length+1+mid.length+k-l.length=mid.length+k+1 by omega,cX,aQ (by omega),cY]) (λj hj=>V j (by omega)) ae (h w G)
  rw[show ops.size-(l.length+1+mid.length)=tl.length+1 by omega] at Wh ⊢;refine⟨λh0=>(by rw[h2] at h0;cases h0),λi U aa=> ?_,λW w G=> ?_⟩
  ·rw[h2,ay] at U
   exact absurd U aa
  ·rw[l8 (by omega),bq (by omega)] at G
   exact(Wh w G).2 _ W) mid (l.length+1) (a.put f.dst v) (by omega) rfl (by omega) (λk hk=>by
    rw[z,aQ (by omega),show l.length+1+k-l.length=k+1 by omega,cX,aY hk]) J
 rw[show ops.size-l.length=(ops.size-(l.length+1))+1 by omega];refine⟨λh0=>(by rw[h1] at h0;cases h0),λi U aa w G=> ?_,λW=> ?_⟩
 ·rw[h1,ay] at U
  subst U;rw[l8 (by omega),aS (by omega)] at G;refine hf.wpOp (by rw[z];simp) G λw' Ze=> ?_
  rw[lO,l8 (by omega),bq (by omega)];exact⟨Ze,ac⟩
 ·rw[h1,ay] at W
  omega
theorem fG.cons{S:Bool->World->Prop}{E:Act->Prop}{o:Oper}{rest:List Oper}{a:Act}(v:Value)(h:∀b,bc P ops (S b) o v a)(z:fG P ops S E rest (a.put o.dst v)):fG P ops S E (o::rest) a:=⟨v,h,z⟩
theorem fG.done{S:Bool->World->Prop}{E:Act->Prop}{a:Act}(h:E a):fG P ops S E [] a:=h
theorem aK.cons{E:Act->World->Prop}{o:Oper}{rest:List Oper}{a:Act}(v:Value)(h:bc P ops S o v a)(z:aK P ops S E rest (a.put o.dst v)):aK P ops S E (o::rest) a:=⟨v,h,z⟩
theorem aK.done{E:Act->World->Prop}{a:Act}(h:∀w,S w->E a w):aK P ops S E [] a:=h
theorem bc.val{o:Oper}{v:Value}{a:Act}(G:Region.wanted o (yielded ops a.tmps)=true)(h:∀w,S w->(execOp a.eval o).run P w= .ok (.value v) w):bc P ops S o v a:=
 .inl ⟨G,λw z=>by rw[h w z];exact⟨rfl,z⟩⟩
theorem bc.off{o:Oper}{a:Act}(h:Region.wanted o (yielded ops a.tmps)=false):bc P ops S o undef a:= .inr ⟨h,rfl⟩
theorem bc.load{o:Oper}{v:Value}{a:Act}(V:Region.wanted o (yielded ops a.tmps)=true)(ty:TypeId)(x:Operand)(J:o.op= .load ty x)(z:Addr)(G:a.eval x= .pointer (some z))(h:∀w,S w->(loadVar ty z).run P w= .ok v w):bc P ops S o v a:=
 .val V λw U=>by
  unfold execOp;simp only[J,G,Instr.loadAt,Instr.sureAddr,cg,fO,cm,h w U]
theorem Ap.store{S G:World->Prop}{o:Oper}{a:Act}(hw:Region.wanted o (yielded ops a.tmps)=true)(ty:TypeId)(x y:Operand)(ho:o.op= .store ty x y)(z:Addr)(V:a.eval x= .pointer (some z))(v:Value)(U:a.eval y=v)
  (h:∀w,S w->∃w',(storeVar ty z v).run P w= .ok () w'/\G w'):Ap P ops S G o undef a:=
 ⟨hw,λw hS=>by
  obtain⟨w',J,W⟩:=h w hS;unfold execOp;simp only[ho,V,U,Instr.storeAt,Instr.sureAddr,cg,fO,cm,J];exact⟨rfl,W⟩⟩
theorem bc.call{o:Oper}{v:Value}{a:Act}(z:Region.wanted o (yielded ops a.tmps)=true)(f:Nat)(args:Array Value)(J:∀w,(execOp a.eval o).run P w= .ok (.enter f args) w)(h:∀w,S w->Calls P f args w λe w'=>e= .returned v/\S w'):bc P ops S o v a:=
 .inl ⟨z,λw G=>by rw[J w];exact h w G⟩
end
end Go.Proofs.YtepbpdipenedhaaGreatDoor
namespace Go.Proofs.YtepbpdipenedhaaGreatDoor
open Go.Proofs.Tryz
open Go.RowKit
variable{w:World}{v:Value}
theorem OM{P:Program}{ty:TypeId}{k:IntKind}{z:Addr}(J:P.underlying ty=some (.int k))(G:w.cell? z=some v):(loadVar ty z).run P w= .ok v w:=by
 have h:(isAgg ty).run P w= .ok false w:=by
  unfold isAgg;rw[cg,dQ J w];rfl
 simp[loadVar,h,G]
theorem EU (i:Int)(w:World):Calls prog 228 #[.int .i64 i] w λe w'=>e= .returned (.bool (decide (Dx i)))/\w=w':=by
 by_cases G:0<i
 ·by_cases z:i<256
  ·rw[bq (show Dx i from ⟨G,z⟩)]
   go_enter func228,ntmps228;go_wp2;go_ret;exact⟨rfl,rfl⟩
  ·rw[aS (show ¬Dx i from λh=>z h.2)]
   go_enter func228,ntmps228;go_wp2;go_ret;exact⟨rfl,rfl⟩
 ·rw[aS (show ¬Dx i from λh=>G h.1)]
  go_enter func228,ntmps228;go_wp2;go_ret;exact⟨rfl,rfl⟩
theorem acE (p b n:Nat)(z:b<256)(G:p<256)(h:n<256):bits .or .u64 ((p:Int)*4294967296) ((b:Int)*256)=((p*4294967296+b*256:Nat):Int)/\bits .or .u64 ((p*4294967296+b*256:Nat):Int) (n:Int)=((p*4294967296+b*256+n:Nat):Int):=by
 constructor
 ·rw[show(p:Int)*4294967296=((p*4294967296:Nat):Int) by omega,show(b:Int)*256=((b*256:Nat):Int) by omega,u64_or_nat _ _ (by omega) (by omega),nat_join 32 _ _ (by exact Nat.mul_mod_left _ _) (show b*256<4294967296 by omega)]
 ·rw[u64_or_nat _ _ (by omega) (by omega),nat_join 8 _ _ (by omega) h]
theorem JN (p b n x y:Nat)(z:b<256)(G:p<256)(h:n<256)(q1:bits .or .u64 ((p:Int)*4294967296) ((b:Int)*256)=(y:Int))(q2:bits .or .u64 (y:Int) (n:Int)=(x:Int))(w:World):
  Calls prog 229 #[.int .i64 (p:Int),.int .i64 (b:Int),.int .i64 (n:Int)] w λe w'=>e= .returned (.int .u64 (x:Int))/\w=w':=by
 go_enter func229,ntmps229;go_wp2_with fail;go_ret;exact⟨rfl,rfl⟩
theorem zq (p b n:Nat)(z:b<256)(G:p<256)(h:n<256)(w:World):Calls prog 229 #[.int .i64 (p:Int),.int .i64 (b:Int),.int .i64 (n:Int)] w λe w'=>e= .returned (.int .u64 (tL p (b:Int) n))/\w=w':=by
 obtain⟨q1,q2⟩:=acE p b n z G h;have J:tL p (b:Int) n=((p*4294967296+b*256+n:Nat):Int):=by unfold tL;omega
 rw[J];exact JN p b n _ _ z G h q1 q2 w
def Words (w:World) (L:List Int) (v:Value) (h:World):Prop:=h.ownsRow (w.heap.size+1) 56 1 v L.length (aW L)/\L.length<=13/\az [] w h
theorem Words.made{z:World}{L:List Int}(h:Words w L v z):jw w L (.returned v) z:=by
 obtain⟨g,J,U⟩:=fp.of_row h.1;by_cases G:L.length=0
 ·exact⟨v,w.heap.size,rfl,J.reads.anyG (by rw[bg G];rfl) _,aI _,h.2.2⟩
 ·exact⟨v,g,rfl,J.reads,by have :=(U G).1;omega,h.2.2⟩
theorem JO (l:List Int)(hl:l.length=13)(w:World):Calls prog 215 #[.agg (zs l).toArray] w (jw w (fu l)):=by
 obtain⟨i0,hi,aM,aG,aH⟩:=cP Tryz.info_u64;have aL:=bh.new w (zs l).toArray 109;have oK:=au aL;have fW:Hid (az [] w (w.alloc (.cells (zs l).toArray 109))):=(az.refl _ _).alloc _;have KO:Hid (∀G k,k<13->az [] (w.alloc (.cells (zs l).toArray 109)) G->G.cell? ⟨w.heap.size,k,none⟩=some (.int .i64 (l.getD k 0))):=λG k hk fK=>by
  rw[(aL.keep fK (by simp)).cell,aF,fR (by omega)]
 clear aL;have HL:=au hl;clear hl;generalize hz:(zs l).toArray=Z at *;clear hz;go_enter func215,ntmps215;go_wp2_with fail;go_step3;go_wp2_with fail;go_step3;go_wp2_with fail;go_loopg [3,4] 13 (λgh s3 s4 G=>∃f:Nat,f+gh=13/\s4= .int .i64 (f:Int)/\Hid (G.ownsRow (w.heap.size+1) 56 1 s3 (fS l f).length (aW (fS l f))/\¬lJ l f/\az [] (w.alloc (.cells Z 109)) G))
 case atStart=>exact⟨0,by omega,rfl,⟨rfl,.inl ⟨rfl,rfl⟩⟩,λh=>absurd h.1 (by omega),az.refl _ _⟩
 case round=>
  obtain⟨f,hf,rfl,HR⟩:=hrel;cases gk with
  |zero=>
   obtain rfl:f=13:=by omega
   have HM:Hid (jw w (fu l) (.returned u3) wr):=Words.made ⟨HR.out.1,lN l 13,fW.out.trans' HR.out.2.2⟩;clear hf HR;go_wp2_with fail;rw[Exit.noGoto_ret];go_ret;exact HM.out
  |succ gg=>
   have av:f<13:=by omega
   have bf:(f:Int)<13:=by omega
   have bb:(0:Int)<=(f:Int):=by omega
   have aV:=KO.out wr f av HR.out.2.2;have ax:=au (EU (l.getD f 0));by_cases hB:Dx (l.getD f 0)
   ·rw[bq hB] at ax
    have aB:Hid (xe l f):=⟨hB,HR.out.2.1⟩;have HB:=au hB;have aY:0<l.getD f 0:=hB.1;have bk:l.getD f 0<256:=hB.2;have ac:=au HR.out.1;have iZ:=au HR.out.2.2;have aJ:=au (lN l f);clear HR hB;generalize J:l.getD f 0=x at *;have HX:=au J;clear J;go_wp2_with fail;refine(ax.out _).mono ?_;rintro e w1 ⟨rfl,rfl⟩;go_wp2_with fail;clear aV;obtain⟨a,cap,rfl,q1,q2⟩:=iV ac.out;go_loopg [3,4,5] (12-f) (λgh s3 s4 s5 G=>∃j:Nat,s3= .slice a (fS l f).length cap/\s4= .int .i64 (f:Int)/\j+gh=13/\s5= .int .i64 (j:Int)/\Hid (f<j/\(∀i,f<i->i<j->lJ l i)/\G.ownsRow (w.heap.size+1) 56 1 (.slice a (fS l f).length cap) (fS l f).length (aW (fS l f))/\az [] (w.alloc (.cells Z 109)) G))
    case atStart=>exact⟨f+1,rfl,rfl,by omega,by go_num,by omega,λi h1 h2=>by omega,ac.out,iZ.out⟩
    case round=>
     clear ac iZ;obtain⟨j,rfl,rfl,hj,rfl,HR⟩:=hrel;obtain⟨ay,Wi,aA,fK⟩:=HR.out;have LL:=au Wi;have ac:=au aA;have iZ:=au fK;have BI:(0:Int)<=(j:Int):=by omega
     have aP:Dx (l.getD f 0):=by rw[HX.out];exact HB.out
     have KP:=au (Wf aP ay Wi);have aC:=fK.size;clear HR aA Wi fK aP;have p9:Hid (∀G k,k<13->az [] wr G->(loadVar 3 ⟨w.heap.size,k,none⟩).run prog G= .ok (.int .i64 (l.getD k 0)) G):=λG k hk fK=>OM underlying3 (KO.out G k hk (iZ.out.trans' fK))
     by_cases Wj:j<13
     ·have aU:(j:Int)<13:=by omega
      have Sz:=au (EU (l.getD j 0));obtain⟨y,hy⟩:∃y,y=l.getD j 0:=⟨_,rfl⟩;obtain⟨z,hz⟩:∃z,z=l.getD (j-1) 0:=⟨_,rfl⟩;rw[<-hy] at Sz;rw[<-hy,<-hz] at KP;have Vw:Hid (∀G,az [] wr G->(loadVar 3 ⟨w.heap.size,j,none⟩).run prog G= .ok (.int .i64 y) G):=λG hk=>by rw[hy];exact p9.out G j Wj hk
      obtain⟨q,hq⟩:∃q,q=j-1:=⟨_,rfl⟩;have aI:Dx z:=by
       have :Dx (l.getD f 0):=by rw[HX.out];exact HB.out
       rw[hz];exact QU this LL.out (j-1) (by omega) (by omega)
      have aN:Hid (∀G,az [] wr G->(loadVar 3 ⟨w.heap.size,q,none⟩).run prog G= .ok (.int .i64 z) G):=λG hk=>by rw[hz,hq];exact p9.out G (j-1) (by omega) hk
      have bg:(j:Int)-1=(q:Int):=by omega
      have aX:IntKind.i64.wrap (q:Int)=(q:Int):=eW _ (by omega);have aZ:(0:Int)<=(q:Int):=by omega
      have bj:(q:Int)<13:=by omega
      have ba:IntKind.i64.wrap (z+1)=z+1:=eW _ (by have :=aI.1;have :=aI.2;omega);clear hy hz p9 hq aI;have ae:(j<13)=True:=eq_true Wj;by_cases hY:Dx y
      ·rw[bq hY] at Sz
       by_cases ak:y=z+1
       ·have hC:lJ l j:=KP.out.2 ⟨Wj,hY,ak⟩
        have HN:Hid (f<j+1/\(∀i,f<i->i<j+1->lJ l i)/\az [] wr wr):=by
         refine⟨by omega,λi h1 h2=> ?_,az.refl _ _⟩;by_cases e:i=j
         ·subst e;exact hC
         ·exact LL.out i h1 (by omega)
        have aa:(y==z+1)=true:=by simp[ak]
        clear hC KP ak;go_wp2_with fail;refine dX (S:=λG=>az [] wr G) (by kernel_rfl) (by kernel_rfl) (λd _ _ _ _ h=>by cases d<;>exact h) ((az.refl _ _).drew) (by kernel_rfl) ?_;repeat (first
         |(refine aK.cons (.int .i64 y) (bc.load rfl 3 (.tmp 23) rfl _ rfl λG J=>Vw.out G J) ?_;simp only[Act.put,ag,ah,ai])
         |(refine aK.cons (.int .i64 y) (bc.load rfl 3 (.tmp 29) rfl _ rfl λG J=>Vw.out G J) ?_;simp only[Act.put,ag,ah,ai])
         |(refine aK.cons (.int .i64 z) (bc.load rfl 3 (.tmp 33) rfl _ rfl λG J=>aN.out G J) ?_;simp only[Act.put,ag,ah,ai])
         |(refine aK.cons (.bool true) (bc.call rfl 228 #[.int .i64 y] ?he ?h) ?_;(case he=>(intro wz;go_simp));(case h=>exact λG J=>(Sz.out G).mono λe w' he=>⟨he.1,he.2▸J⟩);simp only[Act.put,ag,ah,ai])
         |(refine aK.cons undef (bc.off rfl) ?_;simp only[Act.put,ag,ah,ai])
         |(with_reducible show aK _ _ _ _ (⟨_,_,4,_,_,_⟩::_) _;refine aK.cons (.bool true) (bc.val rfl ?h) ?_;(case h=>(intro G J;clear J;first|(go_simp;done)|(go_simp;simp[ae,aa];done)));simp only[Act.put,ag,ah,ai])
         |(with_reducible show aK _ _ _ _ (⟨_,_,4,_,_,_⟩::_) _;refine aK.cons (.bool false) (bc.val rfl ?h) ?_;(case h=>(intro G J;clear J;first|(go_simp;done)|(go_simp;simp[ae,aa];done)));simp only[Act.put,ag,ah,ai])
         |(refine aK.cons ?_ (bc.val rfl ?h) ?_;(case h=>(intro G J;clear J;go_simp;rfl));simp only[Act.put,ag,ah,ai]))
        refine aK.done λG J=> ?_
        have qB:=au J;have JP:=au (dB ac.out J (by simp));clear J;go_wp2_with fail;go_roundg (gk-1);case measure=>omega
        case rel=>exact⟨j+1,rfl,rfl,by omega,by go_num,HN.out.1,HN.out.2.1,JP.out,iZ.out.trans' qB.out⟩
       ·have aj:Hid (¬lJ l j):=λh=>ak (KP.out.1 h).2.2
        have af:=au ay;have aa:(y==z+1)=false:=cQ.2 ak;clear KP ak;go_wp2_with fail;refine dX (S:=λG=>az [] wr G) (by kernel_rfl) (by kernel_rfl) (λd _ _ _ _ h=>by cases d<;>exact h) ((az.refl _ _).drew) (by kernel_rfl) ?_;repeat (first
         |(refine aK.cons (.int .i64 y) (bc.load rfl 3 (.tmp 23) rfl _ rfl λG J=>Vw.out G J) ?_;simp only[Act.put,ag,ah,ai])
         |(refine aK.cons (.int .i64 y) (bc.load rfl 3 (.tmp 29) rfl _ rfl λG J=>Vw.out G J) ?_;simp only[Act.put,ag,ah,ai])
         |(refine aK.cons (.int .i64 z) (bc.load rfl 3 (.tmp 33) rfl _ rfl λG J=>aN.out G J) ?_;simp only[Act.put,ag,ah,ai])
         |(refine aK.cons (.bool true) (bc.call rfl 228 #[.int .i64 y] ?he ?h) ?_;(case he=>(intro wz;go_simp));(case h=>exact λG J=>(Sz.out G).mono λe w' he=>⟨he.1,he.2▸J⟩);simp only[Act.put,ag,ah,ai])
         |(refine aK.cons undef (bc.off rfl) ?_;simp only[Act.put,ag,ah,ai])
         |(with_reducible show aK _ _ _ _ (⟨_,_,4,_,_,_⟩::_) _;refine aK.cons (.bool true) (bc.val rfl ?h) ?_;(case h=>(intro G J;clear J;first|(go_simp;done)|(go_simp;simp[ae,aa];done)));simp only[Act.put,ag,ah,ai])
         |(with_reducible show aK _ _ _ _ (⟨_,_,4,_,_,_⟩::_) _;refine aK.cons (.bool false) (bc.val rfl ?h) ?_;(case h=>(intro G J;clear J;first|(go_simp;done)|(go_simp;simp[ae,aa];done)));simp only[Act.put,ag,ah,ai])
         |(refine aK.cons ?_ (bc.val rfl ?h) ?_;(case h=>(intro G J;clear J;go_simp;rfl));simp only[Act.put,ag,ah,ai]))
        refine aK.done λG J=> ?_
        have JP:=au (dB ac.out J (by simp));have qB:=au (iZ.out.trans' J);have OO:=KO.out G f av (iZ.out.trans' J);rw[HX.out] at OO;have aQ:w.heap.size+1<=G.heap.size:=by have :=J.size;simp at aC;omega
        clear J;obtain⟨b,hb⟩:∃b:Nat,x=(b:Int):=⟨x.toNat,by omega⟩;obtain⟨n,hn⟩:∃n:Nat,n=j-f:=⟨_,rfl⟩;have aT:(j:Int)-(f:Int)=(n:Int):=by omega
        have aO:IntKind.i64.wrap (n:Int)=(n:Int):=eW _ (by omega);have Dy:=au (zq f b n (by omega) (by omega) (by omega));have EW:Hid (fS l j=fS l f++[tL f (b:Int) n]):=by
         have :=zn aB.out af.out (by omega) LL.out aj.out;rw[HX.out,hb] at this;rw[hn];exact this
        rw[hb] at OO;have LM:Hid (j<=13/\n=j-f):=⟨by omega,hn⟩;have ar:=au hf;clear hb hn hf;generalize tL f (b:Int) n=W at *;generalize hL:fS l f=L at *;have Vx:=au hL;clear hL;have pX:=au (show L.length<=13 by have :=aJ.out;omega);go_wp2_with fail;refine(Dy.out _).mono ?_;rintro e w1 ⟨rfl,rfl⟩;have aR:=pX.out;go_wp2_with(at_builtin;refine dO _ rfl _ _ 71 rfl (w.heap.size+1) 56 i0 (.int .u64 0) 1 8 underlying71 hi aM aG aH rfl (by decide) (.slice a L.length cap) L.length _ rfl (JP.out.alloc _) ⟨G.heap.size,0,none⟩ 1 1 [.int .u64 W] rfl rfl ?c1 ?c2 (by unfold maxLen;omega) (by omega) (by simp;omega) ?_);case c1=>exact jP _ [_] _ _ rfl
        case c2=>simp[Value.oneCell']
        intro v' w1 U V _;have Dv:=au U;have iU:=au ((qB.out.alloc _).grown V (λk hk=>by have :=cZ JP.out k hk;simpa using this));clear U V;go_wp2_with fail;go_roundg (13-j);case measure=>have :=ar.out;have :=af.out;have :=LM.out.1;omega
        case rel=>
         refine⟨j,by have :=LM.out.1;omega,by go_num,?_,aj.out,iU.out⟩;have :=Dv.out;rw[EW.out,aD,nP];exact this
      ·have aj:Hid (¬lJ l j):=λh=>hY (KP.out.1 h).2.1
       have af:=au ay;rw[aS hY] at Sz;have aa:(1:Int)=1:=rfl;clear KP hY;go_wp2_with fail;refine dX (S:=λG=>az [] wr G) (by kernel_rfl) (by kernel_rfl) (λd _ _ _ _ h=>by cases d<;>exact h) ((az.refl _ _).drew) (by kernel_rfl) ?_;repeat (first
        |(refine aK.cons (.int .i64 y) (bc.load rfl 3 (.tmp 23) rfl _ rfl λG J=>Vw.out G J) ?_;simp only[Act.put,ag,ah,ai])
        |(refine aK.cons (.int .i64 y) (bc.load rfl 3 (.tmp 29) rfl _ rfl λG J=>Vw.out G J) ?_;simp only[Act.put,ag,ah,ai])
        |(refine aK.cons (.int .i64 z) (bc.load rfl 3 (.tmp 33) rfl _ rfl λG J=>aN.out G J) ?_;simp only[Act.put,ag,ah,ai])
        |(refine aK.cons (.bool false) (bc.call rfl 228 #[.int .i64 y] ?he ?h) ?_;(case he=>(intro wz;go_simp));(case h=>exact λG J=>(Sz.out G).mono λe w' he=>⟨he.1,he.2▸J⟩);simp only[Act.put,ag,ah,ai])
        |(refine aK.cons undef (bc.off rfl) ?_;simp only[Act.put,ag,ah,ai])
        |(with_reducible show aK _ _ _ _ (⟨_,_,4,_,_,_⟩::_) _;refine aK.cons (.bool true) (bc.val rfl ?h) ?_;(case h=>(intro G J;clear J;first|(go_simp;done)|(go_simp;simp[ae,aa];done)));simp only[Act.put,ag,ah,ai])
        |(with_reducible show aK _ _ _ _ (⟨_,_,4,_,_,_⟩::_) _;refine aK.cons (.bool false) (bc.val rfl ?h) ?_;(case h=>(intro G J;clear J;first|(go_simp;done)|(go_simp;simp[ae,aa];done)));simp only[Act.put,ag,ah,ai])
        |(refine aK.cons ?_ (bc.val rfl ?h) ?_;(case h=>(intro G J;clear J;go_simp;rfl));simp only[Act.put,ag,ah,ai]))
       refine aK.done λG J=> ?_
       have JP:=au (dB ac.out J (by simp));have qB:=au (iZ.out.trans' J);have OO:=KO.out G f av (iZ.out.trans' J);rw[HX.out] at OO;have aQ:w.heap.size+1<=G.heap.size:=by have :=J.size;simp at aC;omega
       clear J;obtain⟨b,hb⟩:∃b:Nat,x=(b:Int):=⟨x.toNat,by omega⟩;obtain⟨n,hn⟩:∃n:Nat,n=j-f:=⟨_,rfl⟩;have aT:(j:Int)-(f:Int)=(n:Int):=by omega
       have aO:IntKind.i64.wrap (n:Int)=(n:Int):=eW _ (by omega);have Dy:=au (zq f b n (by omega) (by omega) (by omega));have EW:Hid (fS l j=fS l f++[tL f (b:Int) n]):=by
        have :=zn aB.out af.out (by omega) LL.out aj.out;rw[HX.out,hb] at this;rw[hn];exact this
       rw[hb] at OO;have LM:Hid (j<=13/\n=j-f):=⟨by omega,hn⟩;have ar:=au hf;clear hb hn hf;generalize tL f (b:Int) n=W at *;generalize hL:fS l f=L at *;have Vx:=au hL;clear hL;have pX:=au (show L.length<=13 by have :=aJ.out;omega);go_wp2_with fail;refine(Dy.out _).mono ?_;rintro e w1 ⟨rfl,rfl⟩;have aR:=pX.out;go_wp2_with(at_builtin;refine dO _ rfl _ _ 71 rfl (w.heap.size+1) 56 i0 (.int .u64 0) 1 8 underlying71 hi aM aG aH rfl (by decide) (.slice a L.length cap) L.length _ rfl (JP.out.alloc _) ⟨G.heap.size,0,none⟩ 1 1 [.int .u64 W] rfl rfl ?c1 ?c2 (by unfold maxLen;omega) (by omega) (by simp;omega) ?_);case c1=>exact jP _ [_] _ _ rfl
       case c2=>simp[Value.oneCell']
       intro v' w1 U V _;have Dv:=au U;have iU:=au ((qB.out.alloc _).grown V (λk hk=>by have :=cZ JP.out k hk;simpa using this));clear U V;go_wp2_with fail;go_roundg (13-j);case measure=>have :=ar.out;have :=af.out;have :=LM.out.1;omega
       case rel=>
        refine⟨j,by have :=LM.out.1;omega,by go_num,?_,aj.out,iU.out⟩;have :=Dv.out;rw[EW.out,aD,nP];exact this
     ·have aj:Hid (¬lJ l j):=λh=>Wj (KP.out.1 h).1
      have af:=au ay;have ae:(j<13)=False:=eq_false Wj;have aU:¬(j:Int)<13:=by omega
      have aa:(1:Int)=1:=rfl;clear KP p9;go_wp2_with fail;refine dX (S:=λG=>az [] wr G) (by kernel_rfl) (by kernel_rfl) (λd _ _ _ _ h=>by cases d<;>exact h) ((az.refl _ _).drew) (by kernel_rfl) ?_;repeat (first
       |(refine aK.cons undef (bc.off rfl) ?_;simp only[Act.put,ag,ah,ai])
       |(with_reducible show aK _ _ _ _ (⟨_,_,4,_,_,_⟩::_) _;refine aK.cons (.bool false) (bc.val rfl ?h) ?_;(case h=>(intro G J;clear J;first|(go_simp;done)|(go_simp;simp[ae,aa];done)));simp only[Act.put,ag,ah,ai])
       |(refine aK.cons ?_ (bc.val rfl ?h) ?_;(case h=>(intro G J;clear J;go_simp;rfl));simp only[Act.put,ag,ah,ai]))
      refine aK.done λG J=> ?_
      have JP:=au (dB ac.out J (by simp));have qB:=au (iZ.out.trans' J);have OO:=KO.out G f av (iZ.out.trans' J);rw[HX.out] at OO;have aQ:w.heap.size+1<=G.heap.size:=by have :=J.size;simp at aC;omega
      clear J;obtain⟨b,hb⟩:∃b:Nat,x=(b:Int):=⟨x.toNat,by omega⟩;obtain⟨n,hn⟩:∃n:Nat,n=j-f:=⟨_,rfl⟩;have aT:(j:Int)-(f:Int)=(n:Int):=by omega
      have aO:IntKind.i64.wrap (n:Int)=(n:Int):=eW _ (by omega);have Dy:=au (zq f b n (by omega) (by omega) (by omega));have EW:Hid (fS l j=fS l f++[tL f (b:Int) n]):=by
       have :=zn aB.out af.out (by omega) LL.out aj.out;rw[HX.out,hb] at this;rw[hn];exact this
      rw[hb] at OO;have LM:Hid (j<=13/\n=j-f):=⟨by omega,hn⟩;have ar:=au hf;clear hb hn hf;generalize tL f (b:Int) n=W at *;generalize hL:fS l f=L at *;have Vx:=au hL;clear hL;have pX:=au (show L.length<=13 by have :=aJ.out;omega);go_wp2_with fail;refine(Dy.out _).mono ?_;rintro e w1 ⟨rfl,rfl⟩;have aR:=pX.out;go_wp2_with(at_builtin;refine dO _ rfl _ _ 71 rfl (w.heap.size+1) 56 i0 (.int .u64 0) 1 8 underlying71 hi aM aG aH rfl (by decide) (.slice a L.length cap) L.length _ rfl (JP.out.alloc _) ⟨G.heap.size,0,none⟩ 1 1 [.int .u64 W] rfl rfl ?c1 ?c2 (by unfold maxLen;omega) (by omega) (by simp;omega) ?_);case c1=>exact jP _ [_] _ _ rfl
      case c2=>simp[Value.oneCell']
      intro v' w1 U V _;have Dv:=au U;have iU:=au ((qB.out.alloc _).grown V (λk hk=>by have :=cZ JP.out k hk;simpa using this));clear U V;go_wp2_with fail;go_roundg (13-j);case measure=>have :=ar.out;have :=af.out;have :=LM.out.1;omega
      case rel=>
       refine⟨j,by have :=LM.out.1;omega,by go_num,?_,aj.out,iU.out⟩;have :=Dv.out;rw[EW.out,aD,nP];exact this
   ·rw[aS hB] at ax
    have Wk:¬lJ l (f+1):=λh=>hB h.2.2.2.1
    have HN:Hid (wr.ownsRow (w.heap.size+1) 56 1 u3 (fS l (f+1)).length (aW (fS l (f+1)))/\¬lJ l (f+1)/\az [] (w.alloc (.cells Z 109)) wr):=by
     refine⟨?_,Wk,HR.out.2.2⟩;rw[LJ hB];exact HR.out.1
    clear HR hB Wk;generalize l.getD f 0=x at *;go_wp2_with fail;refine(ax.out _).mono ?_;rintro e w1 ⟨rfl,rfl⟩;go_wp2_with fail;go_roundg gg;case measure=>omega
    case rel=>exact⟨f+1,by omega,by go_num,HN.out⟩
theorem xg (a s:Nat)(V:a<=1000000)(J:1<=s)(W:s<=1000000)(w:World):Calls prog 168 #[.int .i64 (a:Int),.int .i64 (s:Int)] w λe w'=>e= .returned (.int .i64 (((a+s-1)/s:Nat):Int))/\w=w':=by
 have G:(s:Int)≠0:=by omega
 have h:¬(s:Int)= -1:=by omega
 have U:((a:Int)+s-1).tdiv s=(((a+s-1)/s:Nat):Int):=by
  rw[show(a:Int)+s-1=((a+s-1:Nat):Int) by omega,Int.ofNat_tdiv]
 have z:(a+s-1)/s<=2000000:=cD (Nat.div_le_self _ _) (by omega);generalize (a+s-1)/s=q at *;go_enter func168,ntmps168;go_wp2_with fail;go_ret;exact⟨rfl,rfl⟩
theorem QW (l:List Int)(c:Nat)(hl:l.length=13)(hc:c<=13)(w:World):Calls prog 167 #[.agg (zs l).toArray,.int .i64 (c:Int)] w λe w'=>e= .returned (.agg (zs (mj l c)).toArray)/\az [] w w':=by
 have ae:=bh.new w (zs l).toArray 109;have aa:=ae.alloc (.cells (zs (List.replicate 13 0)).toArray 109);obtain⟨off,cap,hs,ho⟩:=OI w.heap.size c hc ((w.alloc (.cells (zs l).toArray 109)).alloc (.cells (zs (List.replicate 13 0)).toArray 109));obtain⟨w1,W,ac,z⟩:=OJ (off:=off) (cap:=cap) aa hl hc ho;have G:bh ((w.alloc (.cells (zs l).toArray 109)).alloc (.cells (zs (List.replicate 13 0)).toArray 109)) (w.heap.size+1) (zs (List.replicate 13 0)).toArray 109 :=by
  simpa using bh.new (w.alloc (.cells (zs l).toArray 109)) (zs (List.replicate 13 0)).toArray 109
 have U:=G.keep z (by simp);have h:=tJ hl hc;have hL:=fc (off:=0) ac h (λk hk=>by rw[aX,aF,fR (by omega)]);obtain⟨w2,hS,J,af⟩:=bB (P:= prog) (ty:= 109) (cs:=zs (mj l c)) (by rw[eF,h];exact kP) U (by simp[eF,h]) (l9 _);have V:=fc (off:=0) J h (λk hk=>by rw[aX,aF,fR (by omega)]);have HK:Hid (az [] w w2):=((((az.refl [] w).alloc _).alloc _).trans z (by simp)).trans af (by simp);have HL:=au hL;have HS:=au hS;have qN:=au V;have ah:=oH;have ag:=W 0;clear ae aa G U hL hS V W ac z J af ho;generalize (zs (mj l c)).toArray=Y at *;generalize (zs (List.replicate 13 0)).toArray=Z0 at *;generalize (zs l).toArray=Z at *;go_enter func167,ntmps167;go_wp2_with(first|(with_reducible refine gL 109 HL.out ?_)|(with_reducible refine gS 109 HS.out ?_));exact aL (b9 results167 rfl qN.out) rfl ⟨rfl,HK.out⟩
theorem OP (b:Nat)(w:World):(Instr.sliceAt 109 (.pointer (some ⟨b,0,none⟩)) (some (.int .i64 5)) none none).run prog w= .ok (.slice (some ⟨b,5,none⟩) 8 8) w:=by show Sem.run _ _ _=_;kernel_rfl
theorem LN (a:Option Addr)(w:World):(Instr.arrayAt 255 (.slice a 8 8)).run prog w= .ok (.pointer a) w:=by show Sem.run _ _ _=_;kernel_rfl
theorem JQ (l:List Int)(hl:l.length=13)(w:World):Calls prog 209 #[.agg (zs l).toArray] w λe w'=>e= .returned (.agg (zs (l.drop 5)).toArray)/\az [] w w':=by
 have U:=bh.new w (zs l).toArray 109;have J:=U.alloc (.cells (zs (List.replicate 8 0)).toArray 255);have h:bh ((w.alloc (.cells (zs l).toArray 109)).alloc (.cells (zs (List.replicate 8 0)).toArray 255)) (w.heap.size+1) (zs (List.replicate 8 0)).toArray 255 :=by
  simpa using bh.new (w.alloc (.cells (zs l).toArray 109)) (zs (List.replicate 8 0)).toArray 255
 have W:(l.drop 5).length=8:=by simp[hl]
 have hL:=QR (off:=5) J W (λk hk=>by rw[aF,fR (by omega)];simp);obtain⟨w2,hS,z,V⟩:=bB (P:= prog) (ty:= 255) (cs:=zs (l.drop 5)) (by rw[eF,W];exact QQ) h (by simp[eF,hl]) (l9 _);have G:=QR (off:=0) z W (λk hk=>by rw[aX,aF,fR (by omega)]);have HK:Hid (az [] w w2):=(((az.refl [] w).alloc _).alloc _).trans V (by simp);have HL:=au hL;have HS:=au hS;have qN:=au G;have ae:=JI;have ac:=OP w.heap.size;have aa:=LN;clear U J h hL hS G z V;generalize (zs (l.drop 5)).toArray=Y at *;generalize (zs (List.replicate 8 0)).toArray=Z0 at *;generalize (zs l).toArray=Z at *;go_enter func209,ntmps209;go_wp2_with(first|(with_reducible refine gL 255 HL.out ?_)|(with_reducible refine gS 255 HS.out ?_));exact aL (b9 results209 rfl qN.out) rfl ⟨rfl,HK.out⟩
theorem rG (n:bP)(a:Option Addr)(cap:Nat)(G:n.B.length=13)(V:n.E.length<=100000)(w:World):Calls prog 192 #[.agg (aR n (.slice a n.E.length cap))] w λe w'=>e= .returned (.int .i64 ((bj n.E.length:Nat):Int))/\az [] w w':=by
 have h:=bh.new w (aR n (.slice a n.E.length cap)) 111;have U:(w.alloc (.cells (aR n (.slice a n.E.length cap)) 111)).cell? ⟨w.heap.size,17,none⟩=some (.slice a n.E.length cap):=by rw[h.cell];exact zk _ G
 have z:=au (xg n.E.length 4 (by omega) (by omega) (by omega));have J:Hid (az [] w (w.alloc (.cells (aR n (.slice a n.E.length cap)) 111))):=(az.refl [] w).alloc _;clear h G;generalize aR n (.slice a n.E.length cap)=Z at *;unfold bj;generalize n.E.length=m at *;rw[show m+4-1=m+3 by omega] at z;go_enter func192,ntmps192;go_wp2_with fail;refine(z.out _).mono ?_;rintro e w' ⟨rfl,rfl⟩;go_wp2_with fail;go_ret;exact⟨rfl,J.out⟩
def eZ (n:bP):Nat:=if 5<bj n.E.length\/n.B.drop 5≠List.replicate 8 0 then bj n.E.length+1 else bj n.E.length
theorem QX (n:bP)(a:Option Addr)(cap:Nat)(z:n.B.length=13)(hE:n.E.length<=100000)(w:World):Calls prog 194 #[.agg (aR n (.slice a n.E.length cap))] w λe w'=>e= .returned (.int .i64 ((eZ n:Nat):Int))/\az [] w w':=by
 have Zg:=au (rG n a cap z hE);have HR:=au (JQ n.B z);have wK:=JI;have LO:=LC;have GU:=au (λJ=>ab3 (a:=n.B.drop 5) (b:=List.replicate 8 0) (by simp[z]) rfl J);have fW:Hid (az [] w (w.alloc (.cells (aR n (.slice a n.E.length cap)) 111))):=(az.refl [] w).alloc _;have oK:Hid (bh (w.alloc (.cells (aR n (.slice a n.E.length cap)) 111)) w.heap.size (aR n (.slice a n.E.length cap)) 111):=bh.new _ _ _;have vY:=au (λ(J:World) (hb:bh J w.heap.size (aR n (.slice a n.E.length cap)) 111)=>ct hb z);have pX:=au (λ(J:World) (hb:bh J w.heap.size (aR n (.slice a n.E.length cap)) 111)=>fc (off:=4) hb z λk hk=>BK _ (by omega));have GV:=au (vY.out _ oK.out);have aa:bj n.E.length<=1000000:=by unfold bj;omega
 unfold eZ;generalize W:n.B.drop 5=d at *;generalize aR n (.slice a n.E.length cap)=Z at *;generalize (zs n.B).toArray=ZB at *;clear W z hE;generalize bj n.E.length=m at *;by_cases hm:5<m
 ·have U:(5:Int)<(m:Int):=by omega
  rw[aC (.inl hm)];go_enter func194,ntmps194;go_wp2_with(with_reducible refine gL 111 GV.out ?_);refine(Zg.out _).mono ?_;rintro e w1 ⟨rfl,h⟩;have iU:=au (fW.out.trans h (by simp));clear h;go_wp2_with fail;go_ret;exact⟨rfl,iU.out⟩
 ·have U:¬(5:Int)<(m:Int):=by omega
  obtain⟨t,ht⟩:∃t,decide (d=List.replicate 8 0)=t:=⟨_,rfl⟩;rw[ht] at GU;have G:(if 5<m\/d≠List.replicate 8 0 then m+1 else m)=if t=true then m else m+1:=by
   rw[<-ht];generalize List.replicate 8 (0:Int)=z8;by_cases W:d=z8
   ·simp[W,hm]
   ·simp[W]
  rw[G];clear G ht;generalize (zs (List.replicate 8 0)).toArray=Z8 at *;generalize (zs d).toArray=ZD at *;go_enter func194,ntmps194;go_wp2_with(with_reducible refine gL 111 GV.out ?_);refine(Zg.out _).mono ?_;rintro e w1 ⟨rfl,h⟩;have iU:=au (fW.out.trans h (by simp));have tM:=au (oK.out.keep h (by simp));have yr:=au (pX.out _ tM.out);have ac:=GU.out;clear h GV;cases t;all_goals
   go_wp2_with(first|((with_reducible show wpList _ _ _ (⟨_,.load 109 (.tmp 9),_,_,_,_⟩::_) _ _);refine eB (by simp[Region.wanted,yielded,U]) 109 (.tmp 9) rfl _ rfl _ yr.out ?_)|(go_at_call 209;refine(HR.out _).mono ?_;rintro e w2 ⟨rfl,V⟩;have fL:=au (iU.out.trans V (by simp));clear V));go_ret;exact⟨rfl,fL.out⟩
theorem SB (w:World):(zeroValue 231).run prog w= .ok (.agg (bools (List.replicate 256 false)).toArray) w:=by kernel_rfl
theorem Dz (l:List Int)(hl:l.length=13)(w:World):Calls prog 169 #[.agg (zs l).toArray] w λe w'=>e= .returned (.bool (decide (lA l)))/\az [] w w':=by
 have ae:=bh.new w (zs l).toArray 109;have hL:=fc (off:=0) (ae.alloc (.cells (bools (List.replicate 256 false)).toArray 231)) hl (λk hk=>by rw[aX,aF,fR (by omega)]);have HZ:Hid (∀k,k<13->(zs l).toArray[k]? =some (.int .i64 (l.getD k 0))):=λk hk=>by rw[aF,fR (by omega)]
 have HL:=au hL;have HB:Hid (bh ((w.alloc (.cells (zs l).toArray 109)).alloc (.cells (bools (List.replicate 256 false)).toArray 231)) (w.heap.size+1) (bools (List.replicate 256 false)).toArray 231):=by
  have :=bh.new (w.alloc (.cells (zs l).toArray 109)) (bools (List.replicate 256 false)).toArray 231;have e:(w.alloc (.cells (zs l).toArray 109)).heap.size=w.heap.size+1:=by simp
  rw[e] at this;exact this
 have HK:Hid (az [] w ((w.alloc (.cells (zs l).toArray 109)).alloc (.cells (bools (List.replicate 256 false)).toArray 231))):=((az.refl _ _).alloc _).alloc _;have af:=SB;rw[EP l] at HB HK HL;rw[EP l] at af;clear ae hL hl;generalize ac:(bools (rF l 0)).toArray=S0 at *;generalize (zs l).toArray=Z at *;go_enter func169,ntmps169;go_wp2_with(with_reducible refine gL 109 HL.out ?_);clear af HL;go_loopg [7] 13 (λgh s7 wx=>∃k:Nat,k+gh=13/\s7= .int .i64 (k:Int)/\Hid (bh wx (w.heap.size+1) (bools (rF l k)).toArray 231/\(∀i,i<k->(0<=l.getD i 0/\l.getD i 0<256)/\(l.getD i 0≠0->∀j,j<i->l.getD j 0≠l.getD i 0))/\az [] w wx))
 case atStart=>exact⟨0,by omega,rfl,by rw[ac];exact HB.out,by simp,HK.out⟩
 case round=>
  clear HB HK ac;obtain⟨k,hk,rfl,HR⟩:=hrel;cases gk with
  |zero=>
   obtain rfl:k=13:=by omega
   have HT:Hid (decide (lA l)=true):=bq HR.out.2.1;have iZ:=au HR.out.2.2;clear HR hk;go_wp2_with fail;go_ret;exact⟨by rw[HT.out];rfl,iZ.out⟩
  |succ gg=>
   have mC:k<13:=by omega
   have ar:(k:Int)<13:=by omega
   have dt:(0:Int)<=(k:Int):=by omega
   have ah:=xO mC (HZ.out k mC);have HN:Hid (lA l->(0<=l.getD k 0/\l.getD k 0<256)/\(l.getD k 0≠0->∀j,j<k->l.getD j 0≠l.getD k 0)):=λh=>h k mC
   have V:=au (λc he=>OH l k c he);have U:=au (λc hc=>Su l k c hc);have iZ:=au HR.out.2.2;by_cases G:l.getD k 0<0
   ·have HF:Hid (decide (lA l)=false):=aS λh=>by have :=(HN.out h).1;omega
    clear HR HN V U hk;generalize l.getD k 0=x at *;go_wp2_with fail;go_ret;exact⟨by rw[HF.out];rfl,iZ.out⟩
   ·by_cases z:256<=l.getD k 0
    ·have HF:Hid (decide (lA l)=false):=aS λh=>by have :=(HN.out h).1;omega
     clear HR HN V U hk;generalize l.getD k 0=x at *;go_wp2_with fail;go_ret;exact⟨by rw[HF.out];rfl,iZ.out⟩
    ·obtain⟨c,hc⟩:∃c:Nat,l.getD k 0=(c:Int):=⟨(l.getD k 0).toNat,by omega⟩
     rw[hc] at ah G z;have aa:c<256:=by omega
     have aj:(c:Int)<256:=by omega
     have ak:(0:Int)<=(c:Int):=by omega
     obtain⟨hb,J,-⟩:=HR.out;have W:wr.cell? ⟨w.heap.size+1,c,none⟩=some (.bool ((rF l k).getD c false)):=by
      rw[hb.cell,aF,tC (by rw[xQ];exact aa)]
     have hf:wr.frozen? ⟨w.heap.size+1,c,none⟩=false:=hb.frozen c;have o7:Hid (bh (wr.setCell ⟨w.heap.size+1,c,none⟩ (.bool true)) (w.heap.size+1) (bools (rF l (k+1))).toArray 231):=by
      have :=hb.set c (.bool true);rw[ag,Bw,V.out c hc] at this;exact this
     have EX:=U.out c aa;have tG:=au J;by_cases h0:c=0
     ·subst h0
      have Wl:Hid (∀i,i<k+1->(0<=l.getD i 0/\l.getD i 0<256)/\(l.getD i 0≠0->∀j,j<i->l.getD j 0≠l.getD i 0)):=λi hi=>by
       by_cases e:i=k
       ·subst e
        rw[hc];exact⟨by decide,λh=>absurd rfl h⟩
       ·exact tG.out i (by omega)
      clear HR HN V U hb J EX tG G z hc;generalize (rF l k).getD 0 false=sv at *;go_wp2_with fail;go_roundg gg;case measure=>omega
      case rel=>exact⟨k+1,by omega,by go_num,o7.out,Wl.out,iZ.out.setCell (by simp) _⟩
     ·have av:((c:Int) != 0)=true:=by simp;omega
      cases Zh:(rF l k).getD c false
      ·have Wl:Hid (∀i,i<k+1->(0<=l.getD i 0/\l.getD i 0<256)/\(l.getD i 0≠0->∀j,j<i->l.getD j 0≠l.getD i 0)):=λi hi=>by
        by_cases e:i=k
        ·subst e
         rw[Zh] at EX;have ai:=of_decide_eq_false EX.symm;rw[hc];exact⟨⟨ak,aj⟩,λ_ j hj e=>ai ⟨j,hj,e⟩⟩
        ·exact tG.out i (by omega)
       rw[Zh] at W;clear HR HN V U hb J EX tG G z hc Zh;go_wp2_with fail;go_roundg gg;case measure=>omega
       case rel=>exact⟨k+1,by omega,by go_num,o7.out,Wl.out,iZ.out.setCell (by simp) _⟩
      ·rw[Zh] at EX W
       obtain⟨j,hj,he⟩:=of_decide_eq_true EX.symm;have HF:Hid (decide (lA l)=false):=aS λh=>(HN.out h).2 (by omega) j hj (by rw[he,hc])
       clear HR HN V U hb J EX tG G z hc Zh hk he;go_wp2_with fail;go_ret;exact⟨by rw[HF.out];rfl,iZ.out⟩
theorem JR (n:bP)(a:Option Addr)(cap:Nat)(V:n.B.length=13)(w:World):Calls prog 138 #[.agg (aR n (.slice a n.E.length cap))] w λe w'=>e= .returned (.bool (decide (qg n)))/\az [] w w':=by
 obtain⟨Z,hZ⟩:∃Z,Z=aR n (.slice a n.E.length cap):=⟨_,rfl⟩;have U:QO Z n (.slice a n.E.length cap):=by rw[hZ];exact iX _ V
 rw[<-hZ];have W:=bh.new w Z 111;have c3:(w.alloc (.cells Z 111)).cell? ⟨w.heap.size,3,none⟩=some (.int .i64 n.S):=by rw[W.cell];exact U.f3
 have ac:(w.alloc (.cells Z 111)).cell? ⟨w.heap.size,17,none⟩=some (.slice a n.E.length cap):=by rw[W.cell];exact U.f5
 have HK:Hid (az [] w (w.alloc (.cells Z 111))):=(az.refl [] w).alloc _;have oK:=au W;have pX:Hid (∀z:World,bh z w.heap.size Z 111->(loadVar 109 ⟨w.heap.size,4,none⟩).run prog z= .ok (.agg (zs n.B).toArray) z):=λz hb=>fc (off:=4) hb V U.f4
 have aa:Hid (∀z:World,bh z w.heap.size Z 111->(loadVar 3 ⟨w.heap.size,3,none⟩).run prog z= .ok (.int .i64 n.S) z):=λz hb=>ER (off:=3) underlying3 hb U.f3
 clear W hZ;by_cases h0:n.S<0
 ·have HF:Hid (decide (qg n)=false):=aS λh=>by have :=h.1.1;omega
  generalize n.S=s at *;clear V;go_enter func138,ntmps138;go_wp2_with fail;go_ret;exact⟨by rw[HF.out];rfl,HK.out⟩
 ·by_cases h1:832<n.S
  ·have HF:Hid (decide (qg n)=false):=aS λh=>by have :=h.1.2;omega
   generalize n.S=s at *;clear V;go_enter func138,ntmps138;go_wp2_with fail;go_ret;exact⟨by rw[HF.out];rfl,HK.out⟩
  ·by_cases h2:n.E.length=0
   ·have HP:=au (xg n.S.toNat 64 (by omega) (by omega) (by omega))
    have SC:dM n.S.toNat<=13:=by unfold dM;omega
    rw[show(n.S.toNat+64-1)/64=dM n.S.toNat by unfold dM;congr 1] at HP;have HU:=au (QW n.B (dM n.S.toNat) V SC);have HN:=au (Dz n.B V);have HE:=au (λz=>OG (a:=n.B) (b:=mj n.B (dM n.S.toNat)) V (tJ V SC) z);have ae:=BL;have HD:Hid (decide (qg n)=(decide (n.B=mj n.B (dM n.S.toNat))&&decide (lA n.B))):=by
     have SD:qg n↔(n.B=mj n.B (dM n.S.toNat)/\lA n.B):=⟨λh=>⟨h.2.2.1,h.2.2.2⟩,λh=>⟨⟨by omega,by omega⟩,h2,h.1,h.2⟩⟩;show _=_;rw[decide_eq_decide.2 SD,Bool.decide_and]
    obtain⟨s,hs⟩:∃s:Nat,n.S=(s:Int):=⟨n.S.toNat,by omega⟩;rw[h2] at ac;rw[hs] at h0 h1 c3 aa HP HD HE HU SC;rw[aH] at HP HU HE HD SC;generalize dM s=p at *;obtain⟨t,ht⟩:∃t,decide (n.B=mj n.B p)=t:=⟨_,rfl⟩;rw[ht] at HD HE;generalize decide (lA n.B)=q at *;generalize (zs (mj n.B p)).toArray=ZU at *;generalize (zs n.B).toArray=ZB at *;have af:=HE.out;clear ht V hs HE h2 U;cases t;all_goals
     go_enter func138,ntmps138;go_wp2_with fail;refine dX (S:=λz=>az [] (w.alloc (.cells Z 111)) z) (by kernel_rfl) (by kernel_rfl) (λd _ _ _ _ h=>by cases d<;>exact h) ((az.refl _ _).drew) (by kernel_rfl) ?_;repeat (first
      |(refine aK.cons (.agg ZB) (bc.load rfl 109 (.tmp 17) rfl _ rfl λz J=>pX.out _ (oK.out.keep J (by simp))) ?_;simp only[Act.put,ag,ah,ai])
      |(refine aK.cons (.agg ZB) (bc.load rfl 109 (.tmp 19) rfl _ rfl λz J=>pX.out _ (oK.out.keep J (by simp))) ?_;simp only[Act.put,ag,ah,ai])
      |(refine aK.cons _ (bc.load rfl 3 (.tmp 21) rfl _ rfl λz J=>aa.out _ (oK.out.keep J (by simp))) ?_;simp only[Act.put,ag,ah,ai])
      |(refine aK.cons (.int .i64 (p:Int)) (bc.call rfl 168 #[.int .i64 (s:Int),.int .i64 64] ?G ?h) ?_;(case G=>(intro wz;go_simp));(case h=>exact λz J=>(HP.out z).mono λe w' G=>⟨G.1,by rw[<-G.2];exact J⟩);simp only[Act.put,ag,ah,ai])
      |(refine aK.cons (.agg ZU) (bc.call rfl 167 #[.agg ZB,.int .i64 (p:Int)] ?G ?h) ?_;(case G=>(intro wz;go_simp));(case h=>exact λz J=>(HU.out z).mono λe w' G=>⟨G.1,J.trans' G.2⟩);simp only[Act.put,ag,ah,ai])
      |(refine aK.cons (.agg ZB) (bc.load rfl 109 (.tmp 27) rfl _ rfl λz J=>pX.out _ (oK.out.keep J (by simp))) ?_;simp only[Act.put,ag,ah,ai])
      |(refine aK.cons (.bool q) (bc.call rfl 169 #[.agg ZB] ?G ?h) ?_;(case G=>(intro wz;go_simp));(case h=>exact λz J=>(HN.out z).mono λe w' G=>⟨G.1,J.trans' G.2⟩);simp only[Act.put,ag,ah,ai])
      |(refine aK.cons undef (bc.off rfl) ?_;simp only[Act.put,ag,ah,ai])
      |(refine aK.cons ?_ (bc.val rfl ?h) ?_;(case h=>(intro z J;go_simp;rfl));simp only[Act.put,ag,ah,ai]))
     refine aK.done λwz hz=> ?_
     have HZ:=au (HK.out.trans' hz);clear hz;go_wp2_with fail;go_ret;exact⟨by rw[HD.out];rfl,HZ.out⟩
   ·have HF:Hid (decide (qg n)=false):=aS λh=>h2 h.2.1
    have e2:((n.E.length:Nat):Int)≠0:=by omega
    have e3:(((n.E.length:Nat):Int) != 0)=true:=bne_iff_ne.2 e2;generalize n.S=s at *;generalize n.E.length=m at *;clear V U;go_enter func138,ntmps138;go_wp2_with fail;go_ret;exact⟨by rw[HF.out];rfl,HK.out⟩
def acG (l:List Int):Prop:=∀k,0<=l.getD k 0/\l.getD k 0<9223372036854775808
theorem mD{x:Int}(z:0<=x)(h:x<9223372036854775808):IntKind.u64.wrap x=x:=by rw[gi];omega
theorem OQ (l:List Int)(hl:l.length=13)(hn:acG l)(w:World):Calls prog 197 #[.agg (zs l).toArray] w λe w'=>e= .returned (.agg (aW (l.drop 5)).toArray)/\az [] w w':=by
 have V:(l.drop 5).length=8:=by simp[hl]
 have ah:Hid (∀k,0<=(l.drop 5).getD k 0/\(l.drop 5).getD k 0<9223372036854775808):=λk=>by
  have :=hn (5+k);simpa[aj] using this
 have HR:=au (JQ l hl);have ac:=bh.new w (zs l).toArray 109;have xR:(aW (List.replicate 8 0)).toArray=(aW (dW 0 (l.drop 5) 0)).toArray:=by rw[kN,V]
 obtain⟨J,h⟩:∃J,J=((w.alloc (.cells (zs l).toArray 109)).alloc (.cells (aW (List.replicate 8 0)).toArray 195)).alloc (.cells (aW (List.replicate 8 0)).toArray 195):=⟨_,rfl⟩;have o7:Hid (bh J (w.heap.size+1) (aW (List.replicate 8 0)).toArray 195):=by
  have :=(bh.new (w.alloc (.cells (zs l).toArray 109)) (aW (List.replicate 8 0)).toArray 195).alloc (.cells (aW (List.replicate 8 0)).toArray 195);have e:(w.alloc (.cells (zs l).toArray 109)).heap.size=w.heap.size+1:=by simp
  rw[e,<-h] at this;exact this
 have rb:Hid (bh J (w.heap.size+2) (aW (dW 0 (l.drop 5) 0)).toArray 195):=by
  have :=bh.new ((w.alloc (.cells (zs l).toArray 109)).alloc (.cells (aW (List.replicate 8 0)).toArray 195)) (aW (List.replicate 8 0)).toArray 195;have e:((w.alloc (.cells (zs l).toArray 109)).alloc (.cells (aW (List.replicate 8 0)).toArray 195)).heap.size=w.heap.size+2:=by simp
  rw[e,<-h,xR] at this;exact this
 have HK:Hid (az [] w J):=by
  show az _ _ _;rw[h];exact(((az.refl [] w).alloc _).alloc _).alloc _
 have HL:Hid ((loadVar 109 ⟨w.heap.size,0,none⟩).run prog J= .ok (.agg (zs l).toArray) J):=by
  rw[h];exact fc (off:=0) ((ac.alloc _).alloc _) hl (λk hk=>by rw[aX,aF,fR (by omega)])
 have HX:Hid (∀k,k<8->(zs (l.drop 5)).toArray[k]? =some (.int .i64 ((l.drop 5).getD k 0))):=λk hk=>by rw[aF,fR (by omega)]
 have ar:=kC;have qC:=au h;clear ac xR hn h;generalize l.drop 5=d at *;generalize (zs l).toArray=Z at *;generalize (zs d).toArray=D at *;generalize wK:(aW (List.replicate 8 0)).toArray=Z8 at *;clear hl;go_enter func197,ntmps197;go_wp2_with((with_reducible show wpList _ _ _ (⟨_,.load 109 (.tmp 1),_,_,_,_⟩::_) _ _);rw[<-qC.out];refine gH rfl 109 (.tmp 1) rfl _ rfl _ HL.out ?_);refine(HR.out _).mono ?_;rintro e w1 ⟨rfl,G⟩;have aa:=au (o7.out.keep G (by simp));have ae:=au (rb.out.keep G (by simp));have iU:=au (HK.out.trans' G);clear G qC o7 rb HL;go_wp2_with fail;go_loopg [8] 8 (λgh s8 wx=>∃k:Nat,k+gh=8/\s8= .int .i64 (k:Int)/\Hid (bh wx (w.heap.size+2) (aW (dW 0 d k)).toArray 195/\bh wx (w.heap.size+1) Z8 195/\az [] w wx))
 case atStart=>exact⟨0,by omega,rfl,ae.out,aa.out,iU.out⟩
 case round=>
  clear aa ae HK iU ar;obtain⟨k,hk,rfl,z⟩:=hrel;cases gk with
  |zero=>
   obtain rfl:k=8:=by omega
   have U:=z.out.1;rw[show dW 0 d 8=d by rw[<-V];exact lL 0 d] at U;have HL:=au (eY U V);obtain⟨w2,hS,W,af⟩:=bB (P:= prog) (ty:= 195) (cs:=aW d) (by rw[bp,V];exact ja) z.out.2.1 (by rw[<-wK];simp[bp,V]) (fh _);have HS:=au hS;have qN:=au (eY W V);have iZ:=au (z.out.2.2.trans af (by simp));clear hS U W af z hk;go_wp2_with(first|(with_reducible refine gL 195 HL.out ?_)|(with_reducible refine gS 195 HS.out ?_));exact aL (b9 results197 rfl qN.out) rfl ⟨rfl,iZ.out⟩
  |succ gg=>
   have uS:k<8:=by omega
   have av:(k:Int)<8:=by omega
   have dt:(0:Int)<=(k:Int):=by omega
   have Bx:=Wa uS (HX.out k uS);have hw:=mD (ah.out k).1 (ah.out k).2;have ai:wr.cell? ⟨w.heap.size+2,k,none⟩=some (.int .u64 ((dW 0 d k).getD k 0)):=by
    rw[z.out.1.cell,aF,dA (by rw[kT _ _ _ (by omega)];omega)]
   have hf:wr.frozen? ⟨w.heap.size+2,k,none⟩=false:=z.out.1.frozen k;have HB:Hid (bh (wr.setCell ⟨w.heap.size+2,k,none⟩ (.int .u64 (d.getD k 0))) (w.heap.size+2) (aW (dW 0 d (k+1))).toArray 195):=by
    have :=z.out.1.set k (.int .u64 (d.getD k 0));rw[ag,lT,kO 0 d k (by omega) (d.getD k 0) (by simp[show k<d.length by omega])] at this;exact this
   have ak:Hid (bh (wr.setCell ⟨w.heap.size+2,k,none⟩ (.int .u64 (d.getD k 0))) (w.heap.size+1) Z8 195):=z.out.2.1.other (by simp) _;have iZ:=au z.out.2.2;clear z;generalize d.getD k 0=x at *;generalize (dW 0 d k).getD k 0=y at *;go_wp2_with fail;go_roundg gg;case measure=>omega
   case rel=>exact⟨k+1,by omega,by go_num,HB.out,ak.out,iZ.out.setCell (.inr (by show w.heap.size<=w.heap.size+2;omega)) _⟩
end Go.Proofs.YtepbpdipenedhaaGreatDoor
