/- Lemmas. -/
import Derived.OrdersHeld
import Derived.Test.YtepbpdipenedhaaGreatDoorM03
set_option maxHeartbeats 8000000
set_option maxRecDepth 100000
namespace Go.Proofs.YtepbpdipenedhaaGreatDoor
open Go.Proofs.Tryz
section
variable{w:World}{v:Value}
section
variable {P:Program} {ops:Array Oper} {Q:Exit->Act->World->Prop} {md:Region.Mode} {S:World->Prop}
def Steps (P:Program) (S:World->Prop) (v:Value):Result Next->Prop
 | .ok (.value u) w'=>u=v/\S w'
 | .ok .skip w'=>v=undef/\S w'
 | .ok (.enter f args) w'=>Calls P f args w' λe h=>e=v/\S h
 |_=>False
def bR (P:Program) (ops:Array Oper) (S:World->Prop) (o:Oper) (v:Value) (a:Act):Prop:=
 (Region.wanted o (yielded ops a.tmps)=true/\∀w,S w->Steps P S v ((execOp a.eval o).run P w))\/(Region.wanted o (yielded ops a.tmps)=false/\v=undef)
theorem bR.of_same{o:Oper}{v:Value}{a h:Act}(z:bR P ops S o v a)(G:execOp h.eval o=execOp a.eval o)
  (J:Region.wanted o (yielded ops h.tmps)=Region.wanted o (yielded ops a.tmps)):bR P ops S o v h:=by
 unfold bR at *;rw[G,J];exact z
theorem bR.wpOp{i:Nat}{o:Oper}{v:Value}{a:Act}(hi:ops[i]? =some o)(hy:bR P ops S o v a){K:Act->World->Prop}{w:World}(U:S w)(h:∀w',S w'->K (a.put o.dst v) w'):wpOp P ops Q i K a w:=by
 unfold Go.wpOp;simp only[hi];rcases hy with ⟨J,hv⟩|⟨J,rfl⟩
 ·have G:=hv w U
  simp only[J,if_true];refine .inl ?_;unfold Oper.wp;generalize (execOp a.eval o).run P w=r at *;cases r with
  |ok n w'=>
   cases n with
   |value u=>obtain⟨rfl,z⟩:=G;exact h _ z
   |skip=>obtain⟨rfl,z⟩:=G;exact h _ z
   |enter f args=>
    refine Calls.mono G λe V W=> ?_
    obtain⟨rfl,z⟩:=W;exact h _ z
   |_=>exact G.elim
  |halt x w'=>exact G.elim
 ·simp only[J,Bool.false_eq_true,if_false];exact h _ U
def JH (P:Program) (ops:Array Oper) (S h:World->Prop) (o:Oper) (v:Value) (a:Act):Prop:=
 Region.wanted o (yielded ops a.tmps)=true/\∀w,S w->Steps P h v ((execOp a.eval o).run P w)
theorem JH.wpOp{S J:World->Prop}{i:Nat}{o:Oper}{v:Value}{a:Act}(hi:ops[i]? =some o)(hy:JH P ops S J o v a){K:Act->World->Prop}{w:World}(hS:S w)(h:∀w',J w'->K (a.put o.dst v) w'):wpOp P ops Q i K a w:=by
 unfold Go.wpOp;simp only[hi];obtain⟨hw,W⟩:=hy;have z:=W w hS;simp only[hw,if_true];refine .inl ?_;unfold Oper.wp;generalize (execOp a.eval o).run P w=r at *;cases r with
 |ok n w'=>
  cases n with
  |value u=>obtain⟨rfl,G⟩:=z;exact h _ G
  |skip=>obtain⟨rfl,G⟩:=z;exact h _ G
  |enter f args=>
   refine Calls.mono z λe U V=> ?_
   obtain⟨rfl,G⟩:=V;exact h _ G
  |_=>exact z.elim
 |halt x w'=>exact z.elim
def FY (P:Program) (ops:Array Oper) (S:Bool->World->Prop) (o:Oper) (v:Value) (a:Act):Prop:=∀b,bR P ops (S b) o v a
theorem K1 {S:Bool->World->Prop}{j:Nat}{z J:Oper}{v:Value}(hj:ops[j]? =some J)(ag:z.apart ops J=true)
  (ae:∀cs b,z.op≠.select cs b) (aa:∀cs b,J.op≠.select cs b)
  (hQ:∀c a w,Q (.panic c) (a.put z.dst v) w->Q (.panic c) a w) {K:Act->World->Prop} {a:Act} {w:World}
  (U:FY P ops S z v a) (h:wpOp P ops Q j K (a.put z.dst v) w):
  wpOp P ops Q j (λa' w'=>FY P ops S z v a'/\K (a'.put z.dst v) w') a w:=by
 obtain⟨h1,V,h3⟩:=Oper.apart_spec ag;have keep:∀(a:Act),FY P ops S z v a->∀u,FY P ops S z v (a.put J.dst u):=λa U u=>
  λb=>(U b).of_same (execOp_put z ae a J.dst u h3) (wanted_put z a J.dst u h3)
 have af:∀d,FY P ops S z v { a with defers:=d::a.defers }:=λd=>λb=>(U b).of_same rfl rfl
 unfold Go.wpOp at *;simp only[hj] at *;rw[wanted_put J a z.dst v h1] at h;split
 ·rename_i hw
  simp only[hw,if_true] at h;rcases h with h|⟨G,ah⟩
  case inr=>exact .inr ⟨by unfold Oper.asks at *;rw[execOp_put J aa a z.dst v h1] at G;exact G,ah⟩
  refine .inl ?_;unfold Oper.wp at *;rw[execOp_put J aa a z.dst v h1] at h;generalize (execOp a.eval J).run P w=r at *;cases r with
  |ok n w'=>
   cases n<;>simp only[Oper.upon] at h ⊢
   case value u=>exact⟨keep a U u,by rw[<-Act.put_comm a v u V];exact h⟩
   case skip=>exact⟨keep a U _,by rw[<-Act.put_comm a v undef V];exact h⟩
   case defer d=>
    refine⟨keep _ (af d) _,?_⟩;rw[<-Act.put_comm _ v undef V,<-Act.put_defers];exact h
   case enter f args=>
    refine Calls.mono h λe ac W=> ?_
    cases e with
    |returned u=>exact⟨keep a U u,by rw[<-Act.put_comm a v u V];exact W⟩
    |panicked c=>exact hQ _ _ _ W
    |outgrown=>exact W
   case row row args=>exact Rows.mono h λu ac W=>⟨keep a U u,by rw[<-Act.put_comm a v u V];exact W⟩
  |halt x w'=>
   cases x<;>simp only[Oper.upon] at h ⊢
   case panic u=>exact hQ _ _ _ h
 ·rename_i hw
  simp only[hw] at h;exact⟨keep a U _,by rw[<-Act.put_comm a v undef V];exact h⟩
def Cz (md:Region.Mode) (ops:Array Oper) (h:Array Bool):Prop:=
 ∀k o,ops[k]? =some o->h.getD k true=true->∀e∈o.after,Region.binds md e=true->h.getD e.on false=true
def leads (md:Region.Mode) (ops:Array Oper):Nat->Nat->Nat->Bool
 |0,_,_=>false
 |fuel+1,i,L=>(List.range ops.size).any λk=>k != i&&((ops[k]?).map (·.after.any λe=>Region.binds md e&&e.on==i)).getD false&&(k==L||leads md ops fuel k L)
theorem JI {z:Array Bool}{i:Nat}(h:z.getD i true=false):z.getD i false=false:=by
 rcases dE i z.size with G|G
 ·simp[G] at h ⊢;exact h
 ·simp[Array.getElem?_eq_none G] at h
theorem MZ {z:Array Bool}(hc:Cz md ops z):∀(fuel i L:Nat),leads md ops fuel i L=true->z.getD i true=false->L∉Region.ready md ops z:=by
 intro fuel;induction fuel with
 |zero=>intro i L h;simp[leads] at h
 |succ fuel ih=>
  intro i L h hi;unfold leads at h;rw[List.any_eq_true] at h;obtain⟨k,-,hk⟩:=h;simp only[gj,Bool.or_eq_true,bne_iff_ne,ne_eq] at hk;obtain⟨⟨-,aa⟩,G⟩:=hk;cases ho:ops[k]? with
  |none=>simp[ho] at aa
  |some o=>
   have ae:o.after.any (λe=>Region.binds md e&&e.on==i)=true:=by simpa[ho] using aa
   obtain⟨e,he,W⟩:=Array.any_eq_true'.1 ae;simp only[gj,beq_iff_eq] at W;obtain⟨hb,rq⟩:=W;have J:z.getD e.on false=false:=by rw[rq];exact JI hi
   by_cases ac:k=L
   ·subst ac
    intro hm;obtain⟨-,o',U,V⟩:=mem_ready.1 hm;rw[ho] at U;cases U;rw[V e he hb] at J;cases J
   ·rcases G with G|G
    ·exact absurd (by simpa using G) ac
    ·refine ih k L G ?_
     cases hl:z.getD k true with
     |false=>rfl
     |true=>
      rw[hc k o ho hl e he hb] at J;cases J
theorem FZ {h:Array Bool}{j:Nat}(hc:Cz md ops h)(hj:j∈Region.ready md ops h):Cz md ops (h.setIfInBounds j true):=by
 intro k o ho U e V W;by_cases J:j=k
 ·subst J
  obtain⟨-,o',z,G⟩:=mem_ready.1 hj;rw[ho] at z;cases z;exact getD_set_true (G e V W)
 ·rw[Go.getD_set_ne true J] at U
  exact getD_set_true (hc k o ho U e V W)
def xZ (P:Program) (md:Region.Mode) (ops:Array Oper) (Q:Exit->Act->World->Prop) (S:Bool->World->Prop) (F L:Nat):Nat->Array Bool->Act->Prop
 |0,listed,a=>Region.ready md ops listed=[]/\∀w,S (listed.getD F false) w->Q .normal a w
 |fuel+1,listed,a=>
  (Region.ready md ops listed=[]->∀w,S (listed.getD F false) w->Q .normal a w)/\
  (∀i∈Region.ready md ops listed,i≠L->∀w,S (listed.getD F false) w->wpOp P ops Q i (λh w'=>S ((listed.setIfInBounds i true).getD F false) w'/\xZ P md ops Q S F L fuel (listed.setIfInBounds i true) h) a w)/\
  (L∈Region.ready md ops listed->∀w,S (listed.getD F false) w->wpOp P ops Q L (wpAny P md ops Q fuel (listed.setIfInBounds L true)) a w)
theorem oK {S:Bool->World->Prop}{F L:Nat}:∀(fuel:Nat) (z:Array Bool) (a:Act),xZ P md ops Q S F L fuel z a->∀w,S (z.getD F false) w->wpAny P md ops Q fuel z a w
 |0,_,_,h,w,hS=>⟨h.1,h.2 w hS⟩
 |fuel+1,z,a,h,w,hS=>by
  refine⟨λV=>h.1 V w hS,λi U=> ?_⟩;by_cases G:i=L
  ·subst G
   exact h.2.2 U w hS
  ·exact wpOp_mono (λW w' J=>oK fuel _ W J.2 w' J.1) (h.2.1 i U G w hS)
theorem pF {z:Array Bool}{i j:Nat}(h:i≠j):(z.setIfInBounds i true).getD j false=z.getD j false:=by
 simp[Array.getElem?_setIfInBounds_ne h]
theorem K2 {S:Bool->World->Prop}{i F L:Nat}{oi:Oper}{v:Value}(hi:ops[i]? =some oi)(ax:i≠L)(U:i≠F)(ae:∀(j:Nat) (o:Oper) cs b,ops[j]? =some o->o.op≠.select cs b)
  (hQ:∀c a w,Q (.panic c) (a.put oi.dst v) w->Q (.panic c) a w) (hL:L≥ops.size\/leads md ops ops.size i L=true):
  ∀(fuel:Nat) (z:Array Bool) (a:Act),Cz md ops z->
   (∀j oj,ops[j]? =some oj->j≠i->z.getD j true=false->(∀e∈oj.after,Region.binds md e=true->e.on≠i)->oi.apart ops oj=true)->
   i∈Region.ready md ops z->FY P ops S oi v a->
   xZ P md ops Q S F L fuel (z.setIfInBounds i true) (a.put oi.dst v)->xZ P md ops Q S F L (fuel+1) z a:=by
 have ag:∀z:Array Bool,Cz md ops z->i∈Region.ready md ops z->L∉Region.ready md ops z:=by
  intro z hc G hm;rcases hL with hL|hL
  ·obtain⟨-,o,ho,-⟩:=mem_ready.1 hm
   rw[Array.getElem?_eq_none hL] at ho;cases ho
  ·exact MZ hc _ i L hL (mem_ready.1 G).1 hm
 intro fuel;induction fuel with
 |zero=>
  intro z a hc _ G hy H;refine⟨λh=>(by rw[h] at G;cases G),λj hj _ w hS=> ?_,λhm=>absurd hm (ag z hc G)⟩;by_cases V:j=i
  ·subst V;exact(hy _).wpOp hi hS λw' W=>⟨by rw[pF U];exact W,H⟩
  ·have :=ready_mono hj V
   rw[H.1] at this;cases this
 |succ fuel ih=>
  intro z a hc J G hy H;refine⟨λh=>(by rw[h] at G;cases G),λj hj ak w hS=> ?_,λhm=>absurd hm (ag z hc G)⟩;by_cases V:j=i
  ·subst V;exact(hy _).wpOp hi hS λw' W=>⟨by rw[pF U];exact W,H⟩
  ·have h1:=H.2.1 j (ready_mono hj V) ak w (by rw[pF U];exact hS)
   obtain⟨ac,oj,aa,af⟩:=mem_ready.1 hj;have ar:∀e∈oj.after,Region.binds md e=true->e.on≠i:=λe he hb aj=>by
    have h1:=af e he hb;have h0:=(mem_ready.1 G).1;rw[aj] at h1;rw[JI h0] at h1;cases h1
   have h2:=K1 aa (J j oj aa V ac ar) (λcs b=>ae i oi cs b hi) (λcs b=>ae j oj cs b aa) hQ hy h1;have au:∀k ok,ops[k]? =some ok->k≠i->(z.setIfInBounds j true).getD k true=false->
     (∀e∈ok.after,Region.binds md e=true->e.on≠i)->oi.apart ops ok=true:=λk ok hk xI ai av=>by
    refine J k ok hk xI ?_ av;by_cases ah:j=k
    ·subst ah;exact ac
    ·rw[Go.getD_set_ne true ah] at ai;exact ai
   refine wpOp_mono (λa' w' h3=> ?_) h2;obtain⟨h4,h5,h6⟩:=h3;rw[Array.setIfInBounds_comm _ _ (cY V)] at h6;rw[Array.setIfInBounds_comm _ _ (cY V),pF U] at h5;exact⟨h5,ih (z.setIfInBounds j true) a' (FZ hc hj) au (ready_mono G (cY V)) h4 h6⟩
def eN (n i:Nat):Array Bool:=((List.range n).map λk=>decide (k<i)).toArray
theorem nS (n i:Nat):(eN n i).setIfInBounds i true=eN n (i+1):=by
 apply Array.ext
 ·simp[eN]
 ·intro k J z
  simp only[eN,ag,iB,List.getElem_set,ic,j0];by_cases h:i=k
  ·subst h;simp
  ·rw[aA h]
   exact decide_eq_decide.2 ⟨λh=>by omega,λG=>by omega⟩
theorem mU (n:Nat):eN n 0=Array.replicate n false:=by
 apply Array.ext
 ·simp[eN]
 ·intro k z h
  simp[eN]
def xk (md:Region.Mode) (ops:Array Oper) (m L:Nat):Bool:=
 Region.noSelect ops&&(List.range m).all λi=>Region.free md ops (eN ops.size i) i&&(Region.ready md ops (eN ops.size i)).contains i&&(decide (ops.size<=L)||leads md ops ops.size i L)
theorem T8 {m L:Nat}(h:xk md ops m L=true):∀i,i<=m->Cz md ops (eN ops.size i):=by
 intro i;induction i with
 |zero=>
  intro _ k o J z;rw[mU] at z;have G:k<ops.size:=(Array.getElem?_eq_some_iff.1 J).1;simp[G] at z
 |succ i ih=>
  intro U;rw[<-nS];simp only[xk,gj,eP,bW] at h;exact FZ (ih (by omega)) (by simpa using (h.2 i (by omega)).1.2)
def aU (P:Program) (ops:Array Oper) (S:World->Prop) (E:Act->World->Prop):List Oper->Act->Prop
 | [],a=>∀w,S w->E a w
 |o::rest,a=>∃v,bR P ops S o v a/\aU P ops S E rest (a.put o.dst v)
def km (P:Program) (ops:Array Oper) (S:Bool->World->Prop) (E:Act->Prop):List Oper->Act->Prop
 | [],a=>E a
 |o::rest,a=>∃v,FY P ops S o v a/\km P ops S E rest (a.put o.dst v)
theorem aU.toB{E:Act->World->Prop}:∀(l:List Oper) (a:Act),aU P ops S E l a->km P ops (λ_=>S) (λa=>∀w,S w->E a w) l a
 | [],_,h=>h
 |_::l,_,⟨v,h1,h2⟩=>⟨v,λ_=>h1,aU.toB l _ h2⟩
theorem JJ {S:Bool->World->Prop}{m F L:Nat}(V:xk md ops m L=true)(ac:m<=L)(aa:m<=F)(hQ:∀d v c a w,Q (.panic c) (Act.put a d v) w->Q (.panic c) a w){E:Act->Prop}
  (J:∀a,E a->xZ P md ops Q S F L (ops.size-m) (eN ops.size m) a):
  ∀(l:List Oper) (i:Nat) (a:Act),i+l.length=m->m<=ops.size->(∀k,k<l.length->ops[i+k]? =l[k]?)->km P ops S E l a->xZ P md ops Q S F L (ops.size-i) (eN ops.size i) a:=by
 have G:=V;simp only[xk,gj,eP,bW] at G;intro l;induction l with
 |nil=>
  intro i a U W _ h;obtain rfl:i=m:=by simpa using U
  exact J a h
 |cons o rest ih=>
  intro i a U W qp h;rw[cr] at U;obtain⟨v,hv,hr⟩:=h;have ho:ops[i]? =some o:=by simpa using qp 0 (by simp)
  obtain⟨⟨c1,c2⟩,c3⟩:=G.2 i (by omega);have z:=ih (i+1) (a.put o.dst v) (by omega) W (λk hk=>by
   have :=qp (k+1) (by simpa using hk);rw[show i+1+k=i+(k+1) by omega,this];simp) hr
  rw[<-nS] at z;rw[show ops.size-i=(ops.size-(i+1))+1 by omega];refine K2 ho (by omega) (by omega) (Region.noSelect_spec G.1) (hQ o.dst v) ?_ _ _ a (T8 V i (by omega)) (Region.free_spec ho c1) (by simpa using c2) hv z;simp only[Bool.or_eq_true,decide_eq_true_eq] at c3;exact c3
theorem F3 {G:Nat}{a:Act}{w:World}(J:P.follows .mixedOrders=true)(z:xk .any ops ops.size ops.size=true)(U:∀d v c a w,Q (.panic c) (Act.put a d v) w->Q (.panic c) a w)(W:S w.drew)
  (V:Region.ready .any ops (eN ops.size ops.size)=[]) (h:aU P ops S (Q .normal) ops.toList a):(Code.region G ops true).wp P Q a w:=by
 refine wp_region_any J ?_;rw[<-mU];refine oK (S:=λ_=>S) (F:=ops.size) (L:=ops.size) _ _ _ ?_ _ W;refine JJ (m:=ops.size) z (aH _) (aH _) U (E:=λa=>∀w,S w->Q .normal a w) (λa h=> ?_) ops.toList 0 a (by simp) (aH _) (λk hk=>by simp) (aU.toB _ _ h);rw[jg];exact⟨V,h⟩
theorem jy {J:Nat}{a:Act}{w:World}(W:S w.drew)(h:aU P ops S (Q .normal) ops.toList a)(U:P.follows .mixedOrders=true:=by kernel_rfl)(z:xk .any ops ops.size ops.size=true:=by kernel_rfl)
  (G:Region.ready .any ops (eN ops.size ops.size)=[]:=by kernel_rfl) (V:∀d v c a w,Q (.panic c) (Act.put a d v) w->Q (.panic c) a w:=by intro d _ _ _ _ h;cases d<;>exact h):(Code.region J ops true).wp P Q a w:=F3 U z V W G h
theorem M0:∀(l:List Oper) (i:Nat) (a:Act) (w:World),i+l.length=ops.size->(∀k,k<l.length->ops[i+k]? =l[k]?)->(∀j,i<=j->j<ops.size->Region.ready md ops (eN ops.size j)=[j])->
  Region.ready md ops (eN ops.size ops.size)=[]->wpList P ops Q l a w->wpAny P md ops Q (ops.size-i) (eN ops.size i) a w:=by
 intro l;induction l with
 |nil=>
  intro i a w z _ _ G h;obtain rfl:i=ops.size:=by simpa using z
  rw[jg];exact⟨G,h⟩
 |cons o rest ih=>
  intro i a w z V nb G h;rw[cr] at z;have ho:ops[i]? =some o:=by simpa using V 0 (by simp)
  have h1:=nb i (aH _) (by omega);rw[show ops.size-i=(ops.size-(i+1))+1 by omega];refine⟨λU=>(by rw[h1] at U;cases U),λj W=> ?_⟩;rw[h1,au] at W;subst W;rw[nS];have h2:wpOp P ops Q j (wpList P ops Q rest) a w:=by
   unfold Go.wpOp;simp only[ho];unfold wpList at h;exact h
  refine wpOp_mono (λa' w' h'=>ih (j+1) a' w' (by omega) (λk hk=> ?_) (λi hi J=>nb i (by omega) J) G h') h2;have :=V (k+1) (by simpa using hk);rw[show j+1+k=j+(k+1) by omega,this];simp
theorem Bh {m r:Nat}(h:((List.range r).all λk=>Region.ready md ops (eN ops.size (m+k)) == [m+k])=true):∀j,m<=j->j<m+r->Region.ready md ops (eN ops.size j)=[j]:=λj G z=>by
 have :=eP.1 h (j-m) (by rw[bW];omega);rw[show m+(j-m)=j by omega] at this;simpa using this
theorem F4 {id:Nat}{a:Act}{w:World}{l:List Oper}{o:Oper}{tl:List Oper}(V:P.follows .mixedOrders=true)(qp:ops.toList=l++(o::tl))(ht:xk .any ops l.length l.length=true)(hQ:∀d v c a w,Q (.panic c) (Act.put a d v) w->Q (.panic c) a w)(G:S w.drew)
  (U:((List.range (tl.length+1)).all λk=>Region.ready .any ops (eN ops.size (l.length+k)) == [l.length+k])=true) (W:Region.ready .any ops (eN ops.size ops.size)=[]) (h:aU P ops S (wpList P ops Q (o::tl)) l a):(Code.region id ops true).wp P Q a w:=by
 have J:ops.size=l.length+(tl.length+1):=by rw[<-dL,qp];simp
 have nb:=Bh U;rw[<-J] at nb;refine wp_region_any V ?_;rw[<-mU];refine oK (S:=λ_=>S) (F:=ops.size) (L:=l.length) _ _ _ ?_ _ G;have z:∀k,ops[k]? =(l++(o::tl))[k]? :=λk=>by rw[<-qp,dG]
 refine JJ (m:=l.length) ht (aH _) (by omega) hQ (E:=λa=>∀w,S w->wpList P ops Q (o::tl) a w) (λa h=> ?_) l 0 a (by simp) (by omega) (λk hk=>by rw[z,bc,ba hk]) (aU.toB _ _ h);have h1:=nb l.length (aH _) (by omega);have XG:∀w,S w->wpAny P .any ops Q (ops.size-l.length) (eN ops.size l.length) a w:=λw G=>
  M0 (o::tl) l.length a w (by simpa using J.symm) (λk hk=>by rw[z,aR (by omega),dD]) nb W (h w G)
 rw[show ops.size-l.length=tl.length+1 by omega] at XG ⊢;refine⟨λh0=>(by rw[h1] at h0;cases h0),λi hi aa=> ?_,λV w G=>(XG w G).2 _ V⟩;rw[h1,au] at hi;exact absurd hi aa
theorem j4 {U:Nat}{a:Act}{w:World}{l:List Oper}{o:Oper}{tl:List Oper}(W:ops.toList=l++(o::tl))(hS:S w.drew)(h:aU P ops S (wpList P ops Q (o::tl)) l a)(V:P.follows .mixedOrders=true:=by kernel_rfl)(J:xk .any ops l.length l.length=true:=by kernel_rfl)
  (z:((List.range (tl.length+1)).all λk=>Region.ready .any ops (eN ops.size (l.length+k)) == [l.length+k])=true:=by kernel_rfl) (G:Region.ready .any ops (eN ops.size ops.size)=[]:=by kernel_rfl) (hQ:∀d v c a w,Q (.panic c) (Act.put a d v) w->Q (.panic c) a w:=by intro d _ _ _ _ h;cases d<;>exact h):(Code.region U ops true).wp P Q a w:=F4 V W J hQ hS z G h
theorem mV {n F i:Nat}(h:F<n):(eN n i).getD F false=decide (F<i):=by
 simp[eN,h]
theorem ah6 {S:Bool->World->Prop}{F L:Nat}(nb:∀j,F<j->j<ops.size->Region.ready md ops (eN ops.size j)=[j]){E:Act->World->Prop}
  (G:∀a,(∀w,S true w->E a w)->xZ P md ops Q S F L (ops.size-L) (eN ops.size L) a):
  ∀(l:List Oper) (i:Nat) (a:Act),F<i->i+l.length=L->L<ops.size->(∀k,k<l.length->ops[i+k]? =l[k]?)->aU P ops (S true) E l a->xZ P md ops Q S F L (ops.size-i) (eN ops.size i) a:=by
 intro l;induction l with
 |nil=>
  intro i a _ U _ _ h;obtain rfl:i=L:=by simpa using U
  exact G a h
 |cons o rest ih=>
  intro i a hF U hL qp h;rw[cr] at U;obtain⟨v,hv,hr⟩:=h;have ho:ops[i]? =some o:=by simpa using qp 0 (by simp)
  have J:=nb i hF (by omega);have z:=ih (i+1) (a.put o.dst v) (by omega) (by omega) hL (λk hk=>by
   have :=qp (k+1) (by simpa using hk);rw[show i+1+k=i+(k+1) by omega,this];simp) hr
  rw[show ops.size-i=(ops.size-(i+1))+1 by omega];refine⟨λW=>(by rw[J] at W;cases W),λj hj _ w hS=> ?_,λhm=> ?_⟩
  ·rw[J,au] at hj
   subst hj;rw[mV (by omega),bu (show F<j by omega)] at hS;refine hv.wpOp ho hS λw' V=> ?_
   rw[nS,mV (by omega),bu (show F<j+1 by omega)];exact⟨V,z⟩
  ·rw[J,au] at hm
   omega
theorem Ez {S:Bool->World->Prop}{id:Nat}{a:Act}{w:World}{l mid:List Oper}{f o:Oper}{tl:List Oper}(W:P.follows .mixedOrders=true)(qp:ops.toList=l++(f::(mid++(o::tl))))(ht:xk .any ops l.length (l.length+1+mid.length)=true)(hQ:∀d v c a w,Q (.panic c) (Act.put a d v) w->Q (.panic c) a w)(G:S false w.drew)
  (ac:((List.range (ops.size-l.length)).all λk=>Region.ready .any ops (eN ops.size (l.length+k)) == [l.length+k])=true) (af:Region.ready .any ops (eN ops.size ops.size)=[])
  (h:km P ops S (λa=>∃v,JH P ops (S false) (S true) f v a/\aU P ops (S true) (wpList P ops Q (o::tl)) mid (a.put f.dst v)) l a):(Code.region id ops true).wp P Q a w:=by
 have ag:ops.size=l.length+(1+(mid.length+(1+tl.length))):=by rw[<-dL,qp];simp;omega
 have nb:=Bh ac;rw[show l.length+(ops.size-l.length)=ops.size by omega] at nb;refine wp_region_any W ?_;rw[<-mU];refine oK (S:=S) (F:=l.length) (L:=l.length+1+mid.length) _ _ _ ?_ _ (by rw[mV (by omega)];exact G);have z:∀k,ops[k]? =(l++(f::(mid++(o::tl))))[k]? :=λk=>by rw[<-qp,dG]
 refine JJ (m:=l.length) ht (by omega) (aH _) hQ (λa h=> ?_) l 0 a (by simp) (by omega) (λk hk=>by rw[z,bc,ba hk]) h;obtain⟨v,hf,J⟩:=h;have h1:=nb l.length (aH _) (by omega);have aa:=ah6 (md:= .any) (Q:=Q) (S:=S) (F:=l.length) (L:=l.length+1+mid.length) (λj hj=>nb j (by omega)) (E:=wpList P ops Q (o::tl)) (λa2 h=>by
  have h2:=nb (l.length+1+mid.length) (by omega) (by omega);have XG:∀w,S true w->wpAny P .any ops Q (ops.size-(l.length+1+mid.length)) (eN ops.size (l.length+1+mid.length)) a2 w:=λw G=>
   M0 (o::tl) (l.length+1+mid.length) _ w (by simp;omega) (λk hk=>by
    rw[z,aR (by omega),show l.length+1+mid.length+k-l.length=mid.length+k+1 by omega,dC,aR (by omega),dD]) (λj hj=>nb j (by omega)) af (h w G)
  rw[show ops.size-(l.length+1+mid.length)=tl.length+1 by omega] at XG ⊢;refine⟨λV=>(by rw[h2] at V;cases V),λi hi U=> ?_,λW w G=> ?_⟩
  ·rw[h2,au] at hi
   exact absurd hi U
  ·rw[mV (by omega),bu (by omega)] at G
   exact(XG w G).2 _ W) mid (l.length+1) (a.put f.dst v) (by omega) rfl (by omega) (λk hk=>by
    rw[z,aR (by omega),show l.length+1+k-l.length=k+1 by omega,dC,ba hk]) J
 rw[show ops.size-l.length=(ops.size-(l.length+1))+1 by omega];refine⟨λV=>(by rw[h1] at V;cases V),λi hi U w G=> ?_,λW=> ?_⟩
 ·rw[h1,au] at hi
  subst hi;rw[mV (by omega),aQ (by omega)] at G;refine hf.wpOp (by rw[z];simp) G λw' ae=> ?_
  rw[nS,mV (by omega),bu (by omega)];exact⟨ae,aa⟩
 ·rw[h1,au] at W
  omega
theorem km.cons{S:Bool->World->Prop}{E:Act->Prop}{o:Oper}{rest:List Oper}{a:Act}(v:Value)(h:∀b,bR P ops (S b) o v a)(z:km P ops S E rest (a.put o.dst v)):km P ops S E (o::rest) a:=⟨v,h,z⟩
theorem km.done{S:Bool->World->Prop}{E:Act->Prop}{a:Act}(h:E a):km P ops S E [] a:=h
theorem aU.cons{E:Act->World->Prop}{o:Oper}{rest:List Oper}{a:Act}(v:Value)(h:bR P ops S o v a)(z:aU P ops S E rest (a.put o.dst v)):aU P ops S E (o::rest) a:=⟨v,h,z⟩
theorem aU.done{E:Act->World->Prop}{a:Act}(h:∀w,S w->E a w):aU P ops S E [] a:=h
theorem bR.val{o:Oper}{v:Value}{a:Act}(G:Region.wanted o (yielded ops a.tmps)=true)(h:∀w,S w->(execOp a.eval o).run P w= .ok (.value v) w):bR P ops S o v a:=
 .inl ⟨G,λw z=>by rw[h w z];exact⟨rfl,z⟩⟩
theorem bR.off{o:Oper}{a:Act}(h:Region.wanted o (yielded ops a.tmps)=false):bR P ops S o undef a:= .inr ⟨h,rfl⟩
theorem bR.load{o:Oper}{v:Value}{a:Act}(G:Region.wanted o (yielded ops a.tmps)=true)(ty:TypeId)(x:Operand)(U:o.op= .load ty x)(z:Addr)(V:a.eval x= .pointer (some z))(h:∀w,S w->(loadVar ty z).run P w= .ok v w):bR P ops S o v a:=
 .val G λw J=>by
  unfold execOp;simp only[U,V,Instr.loadAt,Instr.sureAddr,ck,fO,cL,h w J]
theorem JH.store{S G:World->Prop}{o:Oper}{a:Act}(hw:Region.wanted o (yielded ops a.tmps)=true)(ty:TypeId)(x y:Operand)(ho:o.op= .store ty x y)(z:Addr)(U:a.eval x= .pointer (some z))(v:Value)(V:a.eval y=v)
  (h:∀w,S w->∃w',(storeVar ty z v).run P w= .ok () w'/\G w'):JH P ops S G o undef a:=
 ⟨hw,λw hS=>by
  obtain⟨w',J,W⟩:=h w hS;unfold execOp;simp only[ho,U,V,Instr.storeAt,Instr.sureAddr,ck,fO,cL,J];exact⟨rfl,W⟩⟩
theorem bR.call{o:Oper}{v:Value}{a:Act}(J:Region.wanted o (yielded ops a.tmps)=true)(f:Nat)(args:Array Value)(G:∀w,(execOp a.eval o).run P w= .ok (.enter f args) w)(h:∀w,S w->Calls P f args w λe w'=>e=v/\S w'):bR P ops S o v a:=
 .inl ⟨J,λw z=>by rw[G w];exact h w z⟩
end
end
section
open Go.RowKit
variable{w:World}{v:Value}
theorem Qf{P:Program}{ty:TypeId}{k:IntKind}{z:Addr}(J:P.underlying ty=some (.int k))(G:w.cell? z=some v):(loadVar ty z).run P w= .ok v w:=by
 have h:(isAgg ty).run P w= .ok false w:=by
  unfold isAgg;rw[ck,dA J w];rfl
 simp[loadVar,h,G]
theorem F5 (i:Int)(w:World):Calls prog 228 #[i] w λe w'=>e=(decide (DR i))/\w=w':=by
 by_cases G:0<i
 ·by_cases z:i<256
  ·rw[bu (show DR i from ⟨G,z⟩)]
   go_in;go_wp2;go_ret;exact⟨rfl,rfl⟩
  ·rw[aQ (show ¬DR i from λh=>z h.2)]
   go_in;go_wp2;go_ret;exact⟨rfl,rfl⟩
 ·rw[aQ (show ¬DR i from λh=>G h.1)]
  go_in;go_wp2;go_ret;exact⟨rfl,rfl⟩
theorem adu (p b n:Nat)(G:b<256)(z:p<256)(h:n<256):bits .or .u64 ((p:Int)*4294967296) ((b:Int)*256)=((p*4294967296+b*256:Nat):Int)/\bits .or .u64 ((p*4294967296+b*256:Nat):Int) (n:Int)=((p*4294967296+b*256+n:Nat):Int):=by
 constructor
 ·rw[show(p:Int)*4294967296=((p*4294967296:Nat):Int) by omega,show(b:Int)*256=((b*256:Nat):Int) by omega,u64_or_nat _ _ (by omega) (by omega),nat_join 32 _ _ (by exact Nat.mul_mod_left _ _) (show b*256<4294967296 by omega)]
 ·rw[u64_or_nat _ _ (by omega) (by omega),nat_join 8 _ _ (by omega) h]
theorem K3 (p b n x y:Nat)(G:b<256)(z:p<256)(h:n<256)(q1:bits .or .u64 ((p:Int)*4294967296) ((b:Int)*256)=(y:Int))(q2:bits .or .u64 (y:Int) (n:Int)=(x:Int))(w:World):
  Calls prog 229 #[(p:Int),(b:Int),(n:Int)] w λe w'=>e= .returned (.int .u64 (x:Int))/\w=w':=by
 go_in;go_wp2_with fail;go_ret;exact⟨rfl,rfl⟩
theorem Qg (p b n:Nat)(G:b<256)(z:p<256)(h:n<256)(w:World):Calls prog 229 #[(p:Int),(b:Int),(n:Int)] w λe w'=>e= .returned (.int .u64 (zz p (b:Int) n))/\w=w':=by
 obtain⟨q1,q2⟩:=adu p b n G z h;have J:zz p (b:Int) n=((p*4294967296+b*256+n:Nat):Int):=by unfold zz;omega
 rw[J];exact K3 p b n _ _ G z h q1 q2 w
def Words (w:World) (L:List Int) (v:Value) (h:World):Prop:=h.ownsRow (w.heap.size+1) 56 1 v L.length (aY L)/\L.length<=13/\ay [] w h
theorem Words.made{z:World}{L:List Int}(h:Words w L v z):jN w L (.returned v) z:=by
 obtain⟨g,J,U⟩:=fp.of_row h.1;by_cases G:L.length=0
 ·exact⟨v,w.heap.size,rfl,J.reads.anyG (by rw[bo G];rfl) _,aH _,h.2.2⟩
 ·exact⟨v,g,rfl,J.reads,by have :=(U G).1;omega,h.2.2⟩
theorem K4 (l:List Int)(hl:l.length=13)(w:World):Calls prog 215 #[(zs l).toArray] w (jN w (fu l)):=by
 obtain⟨i0,hi,aR,aV,aP⟩:=dc Tryz.info_u64;have aD:=bh.new w (zs l).toArray 109;have qa:=ar aD;have fI:Hid (ay [] w (w.alloc (.cells (zs l).toArray 109))):=(ay.refl _ _).alloc _;have aB:Hid (∀G k,k<13->ay [] (w.alloc (.cells (zs l).toArray 109)) G->G.cell? ⟨w.heap.size,k,none⟩=some (.int .i64 (l.getD k 0))):=λG k hk fW=>by
  rw[(aD.keep fW (by simp)).cell,aF,gK (by omega)]
 clear aD;have HL:=ar hl;clear hl;generalize hz:(zs l).toArray=Z at *;clear hz;go_in;go_wp2_with fail;go_step3;go_wp2_with fail;go_step3;go_wp2_with fail;go_loopg [3,4] 13 (λgh s3 s4 G=>∃f:Nat,f+gh=13/\s4= .int .i64 (f:Int)/\Hid (G.ownsRow (w.heap.size+1) 56 1 s3 (gD l f).length (aY (gD l f))/\¬mf l f/\ay [] (w.alloc (.cells Z 109)) G))
 case atStart=>exact⟨0,by omega,rfl,⟨rfl,.inl ⟨rfl,rfl⟩⟩,λh=>absurd h.1 (by omega),ay.refl _ _⟩
 case round=>
  obtain⟨f,hf,rfl,V⟩:=hrel;cases gk with
  |zero=>
   obtain rfl:f=13:=by omega
   have HM:Hid (jN w (fu l) (.returned u3) wr):=Words.made ⟨V.out.1,mB l 13,fI.out.trans' V.out.2.2⟩;clear hf V;go_wp2_with fail;rw[Exit.noGoto_ret];go_ret;exact HM.out
  |succ gg=>
   have aH:f<13:=by omega
   have bf:(f:Int)<13:=by omega
   have bl:(0:Int)<=(f:Int):=by omega
   have aM:=aB.out wr f aH V.out.2.2;have av:=ar (F5 (l.getD f 0));by_cases hB:DR (l.getD f 0)
   ·rw[bu hB] at av
    have aW:Hid (sS l f):=⟨hB,V.out.2.1⟩;have HB:=ar hB;have aZ:0<l.getD f 0:=hB.1;have ba:l.getD f 0<256:=hB.2;obtain⟨ac,jA,aN⟩:=hh3 V.out.1 V.out.2.2 (mB l f);clear V hB;generalize J:l.getD f 0=x at *;have HX:=ar J;clear J;go_wp2_with fail;refine C' (av.out _) ?_;go_wp2_with fail;clear aM;obtain⟨a,cap,rfl,q1,q2⟩:=iX ac.out;go_loopg [3,4,5] (12-f) (λgh s3 s4 s5 G=>∃j:Nat,s3= .slice a (gD l f).length cap/\s4= .int .i64 (f:Int)/\j+gh=13/\s5= .int .i64 (j:Int)/\Hid (f<j/\(∀i,f<i->i<j->mf l i)/\G.ownsRow (w.heap.size+1) 56 1 (.slice a (gD l f).length cap) (gD l f).length (aY (gD l f))/\ay [] (w.alloc (.cells Z 109)) G))
    case atStart=>exact⟨f+1,rfl,rfl,by omega,by go_num,by omega,λi h1 h2=>by omega,ac.out,jA.out⟩
    case round=>
     clear ac jA;obtain⟨j,rfl,rfl,hj,rfl,V⟩:=hrel;obtain⟨az,XH,aA,fW⟩:=V.out;obtain⟨XI,ac,jA⟩:=hh3 XH aA fW;have Cf:(0:Int)<=(j:Int):=by omega
     have aJ:DR (l.getD f 0):=by rw[HX.out];exact HB.out
     have Mg:=ar (XF aJ az XH);have aO:=fW.size;clear V aA XH fW aJ;have mY:Hid (∀G k,k<13->ay [] wr G->(loadVar 3 ⟨w.heap.size,k,none⟩).run prog G= .ok (.int .i64 (l.getD k 0)) G):=λG k hk fW=>Qf underlying3 (aB.out G k hk (jA.out.trans' fW))
     by_cases XJ:j<13;have aT:(j:Int)<13:=by omega
     have T9:=ar (F5 (l.getD j 0));obtain⟨y,hy⟩:∃y,y=l.getD j 0:=⟨_,rfl⟩;obtain⟨z,hz⟩:∃z,z=l.getD (j-1) 0:=⟨_,rfl⟩;rw[<-hy] at T9;rw[<-hy,<-hz] at Mg;have ax:Hid (∀G,ay [] wr G->(loadVar 3 ⟨w.heap.size,j,none⟩).run prog G= .ok (.int .i64 y) G):=λG hk=>by rw[hy];exact mY.out G j XJ hk
     obtain⟨q,hq⟩:∃q,q=j-1:=⟨_,rfl⟩;have aG:DR z:=by
      have :DR (l.getD f 0):=by rw[HX.out];exact HB.out
      rw[hz];exact Sr this XI.out (j-1) (by omega) (by omega)
     have aK:Hid (∀G,ay [] wr G->(loadVar 3 ⟨w.heap.size,q,none⟩).run prog G= .ok (.int .i64 z) G):=λG hk=>by rw[hz,hq];exact mY.out G (j-1) (by omega) hk
     have bj:(j:Int)-1=(q:Int):=by omega
     have bn:IntKind.i64.wrap (q:Int)=(q:Int):=fR _ (by omega);have bq:(0:Int)<=(q:Int):=by omega
     have bo:(q:Int)<13:=by omega
     have bg:IntKind.i64.wrap (z+1)=z+1:=fR _ (by have :=aG.1;have :=aG.2;omega);clear hy hz mY hq aG;have ae:(j<13)=True:=eq_true XJ;by_cases hY:DR y;rw[bu hY] at T9;by_cases aa:y=z+1
     ·have hC:mf l j:=Mg.out.2 ⟨XJ,hY,aa⟩
      have HN:Hid (f<j+1/\(∀i,f<i->i<j+1->mf l i)/\ay [] wr wr):=by
       refine⟨by omega,λi h1 h2=> ?_,ay.refl _ _⟩;by_cases e:i=j
       ·subst e;exact hC
       ·exact XI.out i h1 (by omega)
      have U:(y==z+1)=true:=by simp[aa]
      clear hC Mg aa;go_wp2_with fail;refine jy (S:=λG=>ay [] wr G) ((ay.refl _ _).drew) ?_;repeat (
       (first
       |(refine aU.cons (.int .i64 y) (bR.load rfl 3 (.tmp 23) rfl _ rfl λG J=>ax.out G J) ?_)
       |(refine aU.cons (.int .i64 y) (bR.load rfl 3 (.tmp 29) rfl _ rfl λG J=>ax.out G J) ?_)
       |(refine aU.cons (.int .i64 z) (bR.load rfl 3 (.tmp 33) rfl _ rfl λG J=>aK.out G J) ?_)
       |(refine aU.cons (.bool true) (bR.call rfl 228 #[(y:Int)] ?he ?h) ?_;(case he=>(intro wz;go_simp));(case h=>exact λG J=>(T9.out G).mono λe w' he=>⟨he.1,he.2▸J⟩))
       |(refine aU.cons undef (bR.off rfl) ?_)
       |(with_reducible show aU _ _ _ _ (⟨_,_,4,_,_,_⟩::_) _;refine aU.cons (.bool true) (bR.val rfl ?h) ?_;(case h=>(intro G J;clear J;first|(go_simp;done)|(go_simp;simp[ae,U];done))))
       |(with_reducible show aU _ _ _ _ (⟨_,_,4,_,_,_⟩::_) _;refine aU.cons (.bool false) (bR.val rfl ?h) ?_;(case h=>(intro G J;clear J;first|(go_simp;done)|(go_simp;simp[ae,U];done))))
       |(refine aU.cons ?_ (bR.val rfl ?h) ?_;(case h=>(intro G J;clear J;go_simp;rfl))));simp only[Act.put,ag,ah,ai])
      refine aU.done λG J=> ?_
      obtain⟨um,JK⟩:=hh2 J (eo ac.out J (by simp));clear J;go_wp2_with fail;go_roundg (gk-1);case measure=>omega
      case rel=>exact⟨j+1,rfl,rfl,by omega,by go_num,HN.out.1,HN.out.2.1,JK.out,jA.out.trans' um.out⟩
     have ak:Hid (¬mf l j):=λh=>aa (Mg.out.1 h).2.2
     have au:=ar az;have U:(y==z+1)=false:=cP.2 aa;clear Mg aa
     rotate_left
     have ak:Hid (¬mf l j):=λh=>hY (Mg.out.1 h).2.1
     have au:=ar az;rw[aQ hY] at T9;have U:(1:Int)=1:=rfl;clear Mg hY
     rotate_left
     have ak:Hid (¬mf l j):=λh=>XJ (Mg.out.1 h).1
     have au:=ar az;have ae:(j<13)=False:=eq_false XJ;have aT:¬(j:Int)<13:=by omega
     have U:(1:Int)=1:=rfl;clear Mg mY
     rotate_left
     all_goals
      go_wp2_with fail;refine jy (S:=λG=>ay [] wr G) ((ay.refl _ _).drew) ?_;repeat (
       (first
       |(refine aU.cons (.int .i64 y) (bR.load rfl 3 (.tmp 23) rfl _ rfl λG J=>ax.out G J) ?_)
       |(refine aU.cons (.int .i64 y) (bR.load rfl 3 (.tmp 29) rfl _ rfl λG J=>ax.out G J) ?_)
       |(refine aU.cons (.int .i64 z) (bR.load rfl 3 (.tmp 33) rfl _ rfl λG J=>aK.out G J) ?_)
       |(refine aU.cons (.bool true) (bR.call rfl 228 #[(y:Int)] ?he ?h) ?_;(case he=>(intro wz;go_simp));(case h=>exact λG J=>(T9.out G).mono λe w' he=>⟨he.1,he.2▸J⟩))
       |(refine aU.cons (.bool false) (bR.call rfl 228 #[(y:Int)] ?he ?h) ?_;(case he=>(intro wz;go_simp));(case h=>exact λG J=>(T9.out G).mono λe w' he=>⟨he.1,he.2▸J⟩))
       |(refine aU.cons undef (bR.off rfl) ?_)
       |(with_reducible show aU _ _ _ _ (⟨_,_,4,_,_,_⟩::_) _;refine aU.cons (.bool true) (bR.val rfl ?h) ?_;(case h=>(intro G J;clear J;first|(go_simp;done)|(go_simp;simp[ae,U];done))))
       |(with_reducible show aU _ _ _ _ (⟨_,_,4,_,_,_⟩::_) _;refine aU.cons (.bool false) (bR.val rfl ?h) ?_;(case h=>(intro G J;clear J;first|(go_simp;done)|(go_simp;simp[ae,U];done))))
       |(refine aU.cons ?_ (bR.val rfl ?h) ?_;(case h=>(intro G J;clear J;go_simp;rfl))));simp only[Act.put,ag,ah,ai])
      refine aU.done λG J=> ?_
      obtain⟨JK,um⟩:=hh2 (eo ac.out J (by simp)) (jA.out.trans' J);have aL:=aB.out G f aH (jA.out.trans' J);rw[HX.out] at aL;have bc:w.heap.size+1<=G.heap.size:=by have :=J.size;simp at aO;omega
      clear J;obtain⟨b,hb⟩:∃b:Nat,x=(b:Int):=⟨x.toNat,by omega⟩;obtain⟨n,hn⟩:∃n:Nat,n=j-f:=⟨_,rfl⟩;have bk:(j:Int)-(f:Int)=(n:Int):=by omega
      have bp:IntKind.i64.wrap (n:Int)=(n:Int):=fR _ (by omega);have JL:=ar (Qg f b n (by omega) (by omega) (by omega));have xA:Hid (gD l j=gD l f++[zz f (b:Int) n]):=by
       have :=Qd aW.out au.out (by omega) XI.out ak.out;rw[HX.out,hb] at this;rw[hn];exact this
      rw[hb] at aL;have aI:Hid (j<=13/\n=j-f):=⟨by omega,hn⟩;have aS:=ar hf;clear hb hn hf;generalize zz f (b:Int) n=W,hL:gD l f=L at *;have bb:=ar hL;clear hL;have sf:=ar (show L.length<=13 by have :=aN.out;omega);go_wp2_with fail;refine C' (JL.out _) ?_;have aX:=sf.out;go_wp2_with(at_builtin;refine eU _ rfl _ _ 71 rfl (w.heap.size+1) 56 i0 (.int .u64 0) 1 8 underlying71 hi aR aV aP rfl (by decide) (.slice a L.length cap) L.length _ rfl (JK.out.alloc _) ⟨G.heap.size,0,none⟩ 1 1 [.int .u64 W] rfl rfl ?c1 ?c2 (by unfold maxLen;omega) (by omega) (by simp;omega) ?_);case c1=>exact lI _ [_] _ _ rfl
      case c2=>simp[Value.oneCell']
      intro v' w1 af aj _;obtain⟨MO,jK⟩:=hh2 af ((um.out.alloc _).grown aj (λk hk=>by have :=dP JK.out k hk;simpa using this));clear af aj;go_wp2_with fail;go_roundg (13-j);case measure=>have :=aS.out;have :=au.out;have :=aI.out.1;omega
      case rel=>
       refine⟨j,by have :=aI.out.1;omega,by go_num,?_,ak.out,jK.out⟩;have :=MO.out;rw[xA.out,aC,uf];exact this
   ·rw[aQ hB] at av
    have XK:¬mf l (f+1):=λh=>hB h.2.2.2.1
    have HN:Hid (wr.ownsRow (w.heap.size+1) 56 1 u3 (gD l (f+1)).length (aY (gD l (f+1)))/\¬mf l (f+1)/\ay [] (w.alloc (.cells Z 109)) wr):=by
     refine⟨?_,XK,V.out.2.2⟩;rw[MX hB];exact V.out.1
    clear V hB XK;generalize l.getD f 0=x at *;go_wp2_with fail;refine C' (av.out _) ?_;go_wp2_with fail;go_roundg gg;case measure=>omega
    case rel=>exact⟨f+1,by omega,by go_num,HN.out⟩
theorem Bi (a s:Nat)(J:a<=1000000)(W:1<=s)(V:s<=1000000)(w:World):Calls prog 168 #[(a:Int),(s:Int)] w λe w'=>e=(((a+s-1)/s:Nat):Int)/\w=w':=by
 have z:(s:Int)≠0:=by omega
 have G:¬(s:Int)= -1:=by omega
 have U:((a:Int)+s-1).tdiv s=(((a+s-1)/s:Nat):Int):=by
  rw[show(a:Int)+s-1=((a+s-1:Nat):Int) by omega,Int.ofNat_tdiv]
 have h:(a+s-1)/s<=2000000:=cE (Nat.div_le_self _ _) (by omega);generalize (a+s-1)/s=q at *;go_in;go_wp2_with fail;go_ret;exact⟨rfl,rfl⟩
theorem Ss (l:List Int)(c:Nat)(hl:l.length=13)(hc:c<=13)(w:World):Calls prog 167 #[(zs l).toArray,(c:Int)] w λe w'=>e=(zs (jm l c)).toArray/\ay [] w w':=by
 have G:=bh.new w (zs l).toArray 109;have af:=G.alloc (.cells (zs (List.replicate 13 0)).toArray 109);obtain⟨off,cap,hs,ho⟩:=Qb w.heap.size c hc ((w.alloc (.cells (zs l).toArray 109)).alloc (.cells (zs (List.replicate 13 0)).toArray 109));obtain⟨w1,ac,V,z⟩:=Qc (off:=off) (cap:=cap) af hl hc ho;have aa:bh ((w.alloc (.cells (zs l).toArray 109)).alloc (.cells (zs (List.replicate 13 0)).toArray 109)) (w.heap.size+1) (zs (List.replicate 13 0)).toArray 109 :=by
  simpa using bh.new (w.alloc (.cells (zs l).toArray 109)) (zs (List.replicate 13 0)).toArray 109
 have W:=aa.keep z (by simp);have h:=nR hl hc;have hL:=fA (off:=0) V h (λk hk=>by rw[bc,aF,gK (by omega)]);obtain⟨w2,hS,ae,U⟩:=bH (P:= prog) (ty:= 109) (cs:=zs (jm l c)) (by rw[eO,h];exact mb) W (by simp[eO,h]) (nC _);have J:=fA (off:=0) ae h (λk hk=>by rw[bc,aF,gK (by omega)]);have HK:Hid (ay [] w w2):=((((ay.refl [] w).alloc _).alloc _).trans z (by simp)).trans U (by simp);obtain⟨HL,HS,rN⟩:=hh3 hL hS J;have ag:=pD;have ah:=ac 0;clear G af aa W hL hS J ac V z ae U ho;generalize (zs (jm l c)).toArray=Y,(zs (List.replicate 13 0)).toArray=Z0,(zs l).toArray=Z at *;go_in;go_wp2_with(with_reducible first|refine gL 109 HL.out ?_|refine gS 109 HS.out ?_);exact aI (bA results167 rfl rN.out) rfl ⟨rfl,HK.out⟩
theorem Qh (b:Nat)(w:World):(Instr.sliceAt 109 (.pointer (some ⟨b,0,none⟩)) (some (.int .i64 5)) none none).run prog w= .ok (.slice (some ⟨b,5,none⟩) 8 8) w:=by show Sem.run _ _ _=_;kernel_rfl
theorem M3 (a:Option Addr)(w:World):(Instr.arrayAt 255 (.slice a 8 8)).run prog w= .ok (.pointer a) w:=by show Sem.run _ _ _=_;kernel_rfl
theorem K5 (l:List Int)(hl:l.length=13)(w:World):Calls prog 209 #[(zs l).toArray] w λe w'=>e=(zs (l.drop 5)).toArray/\ay [] w w':=by
 have h:=bh.new w (zs l).toArray 109;have V:=h.alloc (.cells (zs (List.replicate 8 0)).toArray 255);have J:bh ((w.alloc (.cells (zs l).toArray 109)).alloc (.cells (zs (List.replicate 8 0)).toArray 255)) (w.heap.size+1) (zs (List.replicate 8 0)).toArray 255 :=by
  simpa using bh.new (w.alloc (.cells (zs l).toArray 109)) (zs (List.replicate 8 0)).toArray 255
 have W:(l.drop 5).length=8:=by simp[hl]
 have hL:=Sm (off:=5) V W (λk hk=>by rw[aF,gK (by omega)];simp);obtain⟨w2,hS,U,G⟩:=bH (P:= prog) (ty:= 255) (cs:=zs (l.drop 5)) (by rw[eO,W];exact Sl) J (by simp[eO,hl]) (nC _);have z:=Sm (off:=0) U W (λk hk=>by rw[bc,aF,gK (by omega)]);have HK:Hid (ay [] w w2):=(((ay.refl [] w).alloc _).alloc _).trans G (by simp);obtain⟨HL,HS,rN⟩:=hh3 hL hS z;have aa:=KX;have ae:=Qh w.heap.size;have ac:=M3;clear h V J hL hS z U G;generalize (zs (l.drop 5)).toArray=Y,(zs (List.replicate 8 0)).toArray=Z0,(zs l).toArray=Z at *;go_in;go_wp2_with(with_reducible first|refine gL 255 HL.out ?_|refine gS 255 HS.out ?_);exact aI (bA results209 rfl rN.out) rfl ⟨rfl,HK.out⟩
theorem sU (n:bT)(a:Option Addr)(cap:Nat)(z:n.B.length=13)(V:n.E.length<=100000)(w:World):Calls prog 192 #[aM n (.slice a n.E.length cap)] w λe w'=>e=((bp n.E.length:Nat):Int)/\ay [] w w':=by
 have h:=bh.new w (aM n (.slice a n.E.length cap)) 111;have J:(w.alloc (.cells (aM n (.slice a n.E.length cap)) 111)).cell? ⟨w.heap.size,17,none⟩=some (.slice a n.E.length cap):=by rw[h.cell];exact Ak _ z
 have G:=ar (Bi n.E.length 4 (by omega) (by omega) (by omega));have U:Hid (ay [] w (w.alloc (.cells (aM n (.slice a n.E.length cap)) 111))):=(ay.refl [] w).alloc _;clear h z;generalize aM n (.slice a n.E.length cap)=Z at *;unfold bp;generalize n.E.length=m at *;rw[show m+4-1=m+3 by omega] at G;go_in;go_wp2_with fail;refine C' (G.out _) ?_;go_wp2_with fail;go_ret;exact⟨rfl,U.out⟩
def eY (n:bT):Nat:=if 5<bp n.E.length\/n.B.drop 5≠List.replicate 8 0 then bp n.E.length+1 else bp n.E.length
theorem Su (n:bT)(a:Option Addr)(cap:Nat)(z:n.B.length=13)(hE:n.E.length<=100000)(w:World):Calls prog 194 #[aM n (.slice a n.E.length cap)] w λe w'=>e=((eY n:Nat):Int)/\ay [] w w':=by
 obtain⟨W,HR⟩:=hh2 (sU n a cap z hE) (K5 n.B z);have wC:=KX;have Sv:=MS;have IL:=ar (λU=>acM (a:=n.B.drop 5) (b:=List.replicate 8 0) (by simp[z]) rfl U);have fI:Hid (ay [] w (w.alloc (.cells (aM n (.slice a n.E.length cap)) 111))):=(ay.refl [] w).alloc _;have qa:Hid (bh (w.alloc (.cells (aM n (.slice a n.E.length cap)) 111)) w.heap.size (aM n (.slice a n.E.length cap)) 111):=bh.new _ _ _;obtain⟨uY,sf⟩:=hh2 (λ(U:World) (hb:bh U w.heap.size (aM n (.slice a n.E.length cap)) 111)=>b9 hb z) (λ(U:World) (hb:bh U w.heap.size (aM n (.slice a n.E.length cap)) 111)=>fA (off:=4) hb z λk hk=>Cx _ (by omega));have IM:=ar (uY.out _ qa.out);have ac:bp n.E.length<=1000000:=by unfold bp;omega
 unfold eY;generalize hd:n.B.drop 5=d,aM n (.slice a n.E.length cap)=Z,(zs n.B).toArray=ZB at *;clear hd z hE;generalize bp n.E.length=m at *;by_cases hm:5<m
 ·have G:(5:Int)<(m:Int):=by omega
  rw[aB (.inl hm)];go_in;go_wp2_with(with_reducible refine gL 111 IM.out ?_);refine Rr (W.out _) λw1 h=> ?_;have jK:=ar (fI.out.trans h (by simp));clear h;go_wp2_with fail;go_ret;exact⟨rfl,jK.out⟩
 ·have G:¬(5:Int)<(m:Int):=by omega
  obtain⟨t,ht⟩:∃t,decide (d=List.replicate 8 0)=t:=⟨_,rfl⟩;rw[ht] at IL;have V:(if 5<m\/d≠List.replicate 8 0 then m+1 else m)=if t=true then m else m+1:=by
   rw[<-ht];generalize List.replicate 8 (0:Int)=z8;by_cases hd:d=z8
   ·simp[hd,hm]
   ·simp[hd]
  rw[V];clear V ht;generalize (zs (List.replicate 8 0)).toArray=Z8,(zs d).toArray=ZD at *;go_in;go_wp2_with(with_reducible refine gL 111 IM.out ?_);refine Rr (W.out _) λw1 h=> ?_;obtain⟨jK,zN⟩:=hh2 (fI.out.trans h (by simp)) (qa.out.keep h (by simp));have xw:=ar (sf.out _ zN.out);have aa:=IL.out;clear h IM;cases t;all_goals
   go_wp2_with(first|((with_reducible show wpList _ _ _ (⟨_,.load 109 (.tmp 9),_,_,_,_⟩::_) _ _);refine eA (by simp[Region.wanted,yielded,G]) 109 (.tmp 9) rfl _ rfl _ xw.out ?_)|(go_at_call 209;refine Rr (HR.out _) λw2 J=> ?_;have fx:=ar (jK.out.trans J (by simp));clear J));go_ret;exact⟨rfl,fx.out⟩
theorem Ub (w:World):(zeroValue 231).run prog w= .ok (.agg (bools (List.replicate 256 false)).toArray) w:=by kernel_rfl
theorem EA (l:List Int)(hl:l.length=13)(w:World):Calls prog 169 #[(zs l).toArray] w λe w'=>e=(decide (lF l))/\ay [] w w':=by
 have aa:=bh.new w (zs l).toArray 109;have hL:=fA (off:=0) (aa.alloc (.cells (bools (List.replicate 256 false)).toArray 231)) hl (λk hk=>by rw[bc,aF,gK (by omega)]);have HZ:Hid (∀k,k<13->(zs l).toArray[k]? =some (.int .i64 (l.getD k 0))):=λk hk=>by rw[aF,gK (by omega)]
 have HL:=ar hL;have HB:Hid (bh ((w.alloc (.cells (zs l).toArray 109)).alloc (.cells (bools (List.replicate 256 false)).toArray 231)) (w.heap.size+1) (bools (List.replicate 256 false)).toArray 231):=by
  have :=bh.new (w.alloc (.cells (zs l).toArray 109)) (bools (List.replicate 256 false)).toArray 231;have e:(w.alloc (.cells (zs l).toArray 109)).heap.size=w.heap.size+1:=by simp
  rw[e] at this;exact this
 have HK:Hid (ay [] w ((w.alloc (.cells (zs l).toArray 109)).alloc (.cells (bools (List.replicate 256 false)).toArray 231))):=((ay.refl _ _).alloc _).alloc _;have ac:=Ub;rw[FV l] at HB HK HL;rw[FV l] at ac;clear aa hL hl;generalize ae:(bools (sQ l 0)).toArray=S0,(zs l).toArray=Z at *;go_in;go_wp2_with(with_reducible refine gL 109 HL.out ?_);clear ac HL;go_loopg [7] 13 (λgh s7 wx=>∃k:Nat,k+gh=13/\s7= .int .i64 (k:Int)/\Hid (bh wx (w.heap.size+1) (bools (sQ l k)).toArray 231/\(∀i,i<k->(0<=l.getD i 0/\l.getD i 0<256)/\(l.getD i 0≠0->∀j,j<i->l.getD j 0≠l.getD i 0))/\ay [] w wx))
 case atStart=>exact⟨0,by omega,rfl,by rw[ae];exact HB.out,by simp,HK.out⟩
 case round=>
  clear HB HK ae;obtain⟨k,hk,rfl,HR⟩:=hrel;cases gk with
  |zero=>
   obtain rfl:k=13:=by omega
   have HT:Hid (decide (lF l)=true):=bu HR.out.2.1;have jA:=ar HR.out.2.2;clear HR hk;go_wp2_with fail;go_ret;exact⟨by rw[HT.out];rfl,jA.out⟩
  |succ gg=>
   have mn:k<13:=by omega
   have au:(k:Int)<13:=by omega
   have cJ:(0:Int)<=(k:Int):=by omega
   have ah:=yR mn (HZ.out k mn);have HN:Hid (lF l->(0<=l.getD k 0/\l.getD k 0<256)/\(l.getD k 0≠0->∀j,j<k->l.getD j 0≠l.getD k 0)):=λh=>h k mn
   obtain⟨Uc,U,jA⟩:=hh3 (λc he=>Qa l k c he) (λc hc=>TZ l k c hc) HR.out.2.2;by_cases z:l.getD k 0<0
   ·have HF:Hid (decide (lF l)=false):=aQ λh=>by have :=(HN.out h).1;omega
    clear HR HN Uc U hk;generalize l.getD k 0=x at *;go_wp2_with fail;go_ret;exact⟨by rw[HF.out];rfl,jA.out⟩
   ·by_cases G:256<=l.getD k 0
    ·have HF:Hid (decide (lF l)=false):=aQ λh=>by have :=(HN.out h).1;omega
     clear HR HN Uc U hk;generalize l.getD k 0=x at *;go_wp2_with fail;go_ret;exact⟨by rw[HF.out];rfl,jA.out⟩
    ·obtain⟨c,hc⟩:∃c:Nat,l.getD k 0=(c:Int):=⟨(l.getD k 0).toNat,by omega⟩
     rw[hc] at ah z G;have W:c<256:=by omega
     have aj:(c:Int)<256:=by omega
     have af:(0:Int)<=(c:Int):=by omega
     obtain⟨hb,J,-⟩:=HR.out;have V:wr.cell? ⟨w.heap.size+1,c,none⟩=some (.bool ((sQ l k).getD c false)):=by
      rw[hb.cell,aF,uQ (by rw[yT];exact W)]
     have hf:wr.frozen? ⟨w.heap.size+1,c,none⟩=false:=hb.frozen c;have oQ:Hid (bh (wr.setCell ⟨w.heap.size+1,c,none⟩ (.bool true)) (w.heap.size+1) (bools (sQ l (k+1))).toArray 231):=by
      have :=hb.set c (.bool true);rw[ag,Cl,Uc.out c hc] at this;exact this
     have F7:=U.out c W;have xy:=ar J;by_cases h0:c=0
     ·subst h0
      have XL:Hid (∀i,i<k+1->(0<=l.getD i 0/\l.getD i 0<256)/\(l.getD i 0≠0->∀j,j<i->l.getD j 0≠l.getD i 0)):=λi hi=>by
       by_cases e:i=k
       ·subst e
        rw[hc];exact⟨by decide,λh=>absurd rfl h⟩
       ·exact xy.out i (by omega)
      clear HR HN Uc U hb J F7 xy z G hc;generalize (sQ l k).getD 0 false=sv at *;go_wp2_with fail;go_roundg gg;case measure=>omega
      case rel=>exact⟨k+1,by omega,by go_num,oQ.out,XL.out,jA.out.setCell (by simp) _⟩
     ·have ak:((c:Int) != 0)=true:=by simp;omega
      cases hsv:(sQ l k).getD c false
      ·have XL:Hid (∀i,i<k+1->(0<=l.getD i 0/\l.getD i 0<256)/\(l.getD i 0≠0->∀j,j<i->l.getD j 0≠l.getD i 0)):=λi hi=>by
        by_cases e:i=k
        ·subst e
         rw[hsv] at F7;have ai:=of_decide_eq_false F7.symm;rw[hc];exact⟨⟨af,aj⟩,λ_ j hj e=>ai ⟨j,hj,e⟩⟩
        ·exact xy.out i (by omega)
       rw[hsv] at V;clear HR HN Uc U hb J F7 xy z G hc hsv;go_wp2_with fail;go_roundg gg;case measure=>omega
       case rel=>exact⟨k+1,by omega,by go_num,oQ.out,XL.out,jA.out.setCell (by simp) _⟩
      ·rw[hsv] at F7 V
       obtain⟨j,hj,he⟩:=of_decide_eq_true F7.symm;have HF:Hid (decide (lF l)=false):=aQ λh=>(HN.out h).2 (by omega) j hj (by rw[he,hc])
       clear HR HN Uc U hb J F7 xy z G hc hsv hk he;go_wp2_with fail;go_ret;exact⟨by rw[HF.out];rfl,jA.out⟩
theorem K6 (n:bT)(a:Option Addr)(cap:Nat)(V:n.B.length=13)(w:World):Calls prog 138 #[aM n (.slice a n.E.length cap)] w λe w'=>e=(decide (qQ n))/\ay [] w w':=by
 obtain⟨Z,hZ⟩:∃Z,Z=aM n (.slice a n.E.length cap):=⟨_,rfl⟩;have U:Sj Z n (.slice a n.E.length cap):=by rw[hZ];exact gG _ V
 rw[<-hZ];have W:=bh.new w Z 111;have c3:(w.alloc (.cells Z 111)).cell? ⟨w.heap.size,3,none⟩=some (.int .i64 n.S):=by rw[W.cell];exact U.f3
 have aa:(w.alloc (.cells Z 111)).cell? ⟨w.heap.size,17,none⟩=some (.slice a n.E.length cap):=by rw[W.cell];exact U.f5
 have HK:Hid (ay [] w (w.alloc (.cells Z 111))):=(ay.refl [] w).alloc _;have qa:=ar W;have sf:Hid (∀z:World,bh z w.heap.size Z 111->(loadVar 109 ⟨w.heap.size,4,none⟩).run prog z= .ok (.agg (zs n.B).toArray) z):=λz hb=>fA (off:=4) hb V U.f4
 have JM:Hid (∀z:World,bh z w.heap.size Z 111->(loadVar 3 ⟨w.heap.size,3,none⟩).run prog z= .ok (.int .i64 n.S) z):=λz hb=>FW (off:=3) underlying3 hb U.f3
 clear W hZ;by_cases h0:n.S<0
 ·have HF:Hid (decide (qQ n)=false):=aQ λh=>by have :=h.1.1;omega
  generalize n.S=s at *;clear V;go_in;go_wp2_with fail;go_ret;exact⟨by rw[HF.out];rfl,HK.out⟩
 ·by_cases h1:832<n.S
  ·have HF:Hid (decide (qQ n)=false):=aQ λh=>by have :=h.1.2;omega
   generalize n.S=s at *;clear V;go_in;go_wp2_with fail;go_ret;exact⟨by rw[HF.out];rfl,HK.out⟩
  ·by_cases h2:n.E.length=0
   ·have HP:=ar (Bi n.S.toNat 64 (by omega) (by omega) (by omega))
    have Ud:bL n.S.toNat<=13:=by unfold bL;omega
    rw[show(n.S.toNat+64-1)/64=bL n.S.toNat by unfold bL;congr 1] at HP;obtain⟨HU,HN,HE⟩:=hh3 (Ss n.B (bL n.S.toNat) V Ud) (EA n.B V) (λz=>P9 (a:=n.B) (b:=jm n.B (bL n.S.toNat)) V (nR V Ud) z);have ae:=Cy;have HD:Hid (decide (qQ n)=(decide (n.B=jm n.B (bL n.S.toNat))&&decide (lF n.B))):=by
     have M4:qQ n↔(n.B=jm n.B (bL n.S.toNat)/\lF n.B):=⟨λh=>⟨h.2.2.1,h.2.2.2⟩,λh=>⟨⟨by omega,by omega⟩,h2,h.1,h.2⟩⟩;show _=_;rw[decide_eq_decide.2 M4,Bool.decide_and]
    obtain⟨s,hs⟩:∃s:Nat,n.S=(s:Int):=⟨n.S.toNat,by omega⟩;rw[h2] at aa;rw[hs] at h0 h1 c3 JM HP HD HE HU Ud;rw[aG] at HP HU HE HD Ud;generalize bL s=p at *;obtain⟨t,ht⟩:∃t,decide (n.B=jm n.B p)=t:=⟨_,rfl⟩;rw[ht] at HD HE;generalize decide (lF n.B)=q,(zs (jm n.B p)).toArray=ZU,(zs n.B).toArray=ZB at *;have ac:=HE.out;clear ht V hs HE h2 U;cases t;all_goals
     go_in;go_wp2_with fail;refine jy (S:=λz=>ay [] (w.alloc (.cells Z 111)) z) ((ay.refl _ _).drew) ?_;repeat (
      (first
      |(refine aU.cons (.agg ZB) (bR.load rfl 109 (.tmp 17) rfl _ rfl λz J=>sf.out _ (qa.out.keep J (by simp))) ?_)
      |(refine aU.cons (.agg ZB) (bR.load rfl 109 (.tmp 19) rfl _ rfl λz J=>sf.out _ (qa.out.keep J (by simp))) ?_)
      |(refine aU.cons _ (bR.load rfl 3 (.tmp 21) rfl _ rfl λz J=>JM.out _ (qa.out.keep J (by simp))) ?_)
      |(refine aU.cons (.int .i64 (p:Int)) (bR.call rfl 168 #[(s:Int),(64:Int)] ?G ?h) ?_;(case G=>(intro wz;go_simp));(case h=>exact λz J=>(HP.out z).mono λe w' G=>⟨G.1,by rw[<-G.2];exact J⟩))
      |(refine aU.cons (.agg ZU) (bR.call rfl 167 #[ZB,(p:Int)] ?G ?h) ?_;(case G=>(intro wz;go_simp));(case h=>exact λz J=>(HU.out z).mono λe w' G=>⟨G.1,J.trans' G.2⟩))
      |(refine aU.cons (.agg ZB) (bR.load rfl 109 (.tmp 27) rfl _ rfl λz J=>sf.out _ (qa.out.keep J (by simp))) ?_)
      |(refine aU.cons (.bool q) (bR.call rfl 169 #[ZB] ?G ?h) ?_;(case G=>(intro wz;go_simp));(case h=>exact λz J=>(HN.out z).mono λe w' G=>⟨G.1,J.trans' G.2⟩))
      |(refine aU.cons undef (bR.off rfl) ?_)
      |(refine aU.cons ?_ (bR.val rfl ?h) ?_;(case h=>(intro z J;go_simp;rfl))));simp only[Act.put,ag,ah,ai])
     refine aU.done λwz hz=> ?_
     have HZ:=ar (HK.out.trans' hz);clear hz;go_wp2_with fail;go_ret;exact⟨by rw[HD.out];rfl,HZ.out⟩
   ·have HF:Hid (decide (qQ n)=false):=aQ λh=>h2 h.2.1
    have e2:((n.E.length:Nat):Int)≠0:=by omega
    have e3:(((n.E.length:Nat):Int) != 0)=true:=bne_iff_ne.2 e2;generalize n.S=s,n.E.length=m at *;clear V U;go_in;go_wp2_with fail;go_ret;exact⟨by rw[HF.out];rfl,HK.out⟩
def adw (l:List Int):Prop:=∀k,0<=l.getD k 0/\l.getD k 0<9223372036854775808
theorem nD{x:Int}(h:0<=x)(z:x<9223372036854775808):IntKind.u64.wrap x=x:=by rw[fY];omega
theorem Qi (l:List Int)(hl:l.length=13)(hn:adw l)(w:World):Calls prog 197 #[(zs l).toArray] w λe w'=>e=(aY (l.drop 5)).toArray/\ay [] w w':=by
 have V:(l.drop 5).length=8:=by simp[hl]
 have ae:Hid (∀k,0<=(l.drop 5).getD k 0/\(l.drop 5).getD k 0<9223372036854775808):=λk=>by
  have :=hn (5+k);simpa[aj] using this
 have HR:=ar (K5 l hl);have W:=bh.new w (zs l).toArray 109;have xJ:(aY (List.replicate 8 0)).toArray=(aY (dS 0 (l.drop 5) 0)).toArray:=by rw[lJ,V]
 obtain⟨J,h⟩:∃J,J=((w.alloc (.cells (zs l).toArray 109)).alloc (.cells (aY (List.replicate 8 0)).toArray 195)).alloc (.cells (aY (List.replicate 8 0)).toArray 195):=⟨_,rfl⟩;have oQ:Hid (bh J (w.heap.size+1) (aY (List.replicate 8 0)).toArray 195):=by
  have :=(bh.new (w.alloc (.cells (zs l).toArray 109)) (aY (List.replicate 8 0)).toArray 195).alloc (.cells (aY (List.replicate 8 0)).toArray 195);have e:(w.alloc (.cells (zs l).toArray 109)).heap.size=w.heap.size+1:=by simp
  rw[e,<-h] at this;exact this
 have qI:Hid (bh J (w.heap.size+2) (aY (dS 0 (l.drop 5) 0)).toArray 195):=by
  have :=bh.new ((w.alloc (.cells (zs l).toArray 109)).alloc (.cells (aY (List.replicate 8 0)).toArray 195)) (aY (List.replicate 8 0)).toArray 195;have e:((w.alloc (.cells (zs l).toArray 109)).alloc (.cells (aY (List.replicate 8 0)).toArray 195)).heap.size=w.heap.size+2:=by simp
  rw[e,<-h,xJ] at this;exact this
 have HK:Hid (ay [] w J):=by
  show ay _ _ _;rw[h];exact(((ay.refl [] w).alloc _).alloc _).alloc _
 have HL:Hid ((loadVar 109 w.heap.size).run prog J= .ok (.agg (zs l).toArray) J):=by
  rw[h];exact fA (off:=0) ((W.alloc _).alloc _) hl (λk hk=>by rw[bc,aF,gK (by omega)])
 have HX:Hid (∀k,k<8->(zs (l.drop 5)).toArray[k]? =some (.int .i64 ((l.drop 5).getD k 0))):=λk hk=>by rw[aF,gK (by omega)]
 have ak:=lj;have ru:=ar h;clear W xJ hn h;generalize l.drop 5=d,(zs l).toArray=Z at *;generalize (zs d).toArray=D,wC:(aY (List.replicate 8 0)).toArray=Z8 at *;clear hl;go_in;go_wp2_with((with_reducible show wpList _ _ _ (⟨_,.load 109 (.tmp 1),_,_,_,_⟩::_) _ _);rw[<-ru.out];refine gJ rfl 109 (.tmp 1) rfl _ rfl _ HL.out ?_);refine Rr (HR.out _) λw1 G=> ?_;obtain⟨ac,af,jK⟩:=hh3 (oQ.out.keep G (by simp)) (qI.out.keep G (by simp)) (HK.out.trans' G);clear G ru oQ qI HL;go_wp2_with fail;go_loopg [8] 8 (λgh s8 wx=>∃k:Nat,k+gh=8/\s8= .int .i64 (k:Int)/\Hid (bh wx (w.heap.size+2) (aY (dS 0 d k)).toArray 195/\bh wx (w.heap.size+1) Z8 195/\ay [] w wx))
 case atStart=>exact⟨0,by omega,rfl,af.out,ac.out,jK.out⟩
 case round=>
  clear ac af HK jK ak;obtain⟨k,hk,rfl,z⟩:=hrel;cases gk with
  |zero=>
   obtain rfl:k=8:=by omega
   have U:=z.out.1;rw[show dS 0 d 8=d by rw[<-V];exact mz 0 d] at U;have HL:=ar (fM U V);obtain⟨w2,hS,ah,aa⟩:=bH (P:= prog) (ty:= 195) (cs:=aY d) (by rw[bB,V];exact jc) z.out.2.1 (by rw[<-wC];simp[bB,V]) (fh _);obtain⟨HS,rN,jA⟩:=hh3 hS (fM ah V) (z.out.2.2.trans aa (by simp));clear hS U ah aa z hk;go_wp2_with(with_reducible first|refine gL 195 HL.out ?_|refine gS 195 HS.out ?_);exact aI (bA results197 rfl rN.out) rfl ⟨rfl,jA.out⟩
  |succ gg=>
   have uR:k<8:=by omega
   have av:(k:Int)<8:=by omega
   have cJ:(0:Int)<=(k:Int):=by omega
   have Iv:=Xz uR (HX.out k uR);have hw:=nD (ae.out k).1 (ae.out k).2;have ai:wr.cell? ⟨w.heap.size+2,k,none⟩=some (.int .u64 ((dS 0 d k).getD k 0)):=by
    rw[z.out.1.cell,aF,dO (by rw[lR _ _ _ (by omega)];omega)]
   have hf:wr.frozen? ⟨w.heap.size+2,k,none⟩=false:=z.out.1.frozen k;have HB:Hid (bh (wr.setCell ⟨w.heap.size+2,k,none⟩ (.int .u64 (d.getD k 0))) (w.heap.size+2) (aY (dS 0 d (k+1))).toArray 195):=by
    have :=z.out.1.set k (.int .u64 (d.getD k 0));rw[ag,mI,lK 0 d k (by omega) (d.getD k 0) (by simp[show k<d.length by omega])] at this;exact this
   have au:Hid (bh (wr.setCell ⟨w.heap.size+2,k,none⟩ (.int .u64 (d.getD k 0))) (w.heap.size+1) Z8 195):=z.out.2.1.other (by simp) _;have jA:=ar z.out.2.2;clear z;generalize d.getD k 0=x,(dS 0 d k).getD k 0=y at *;go_wp2_with fail;go_roundg gg;case measure=>omega
   case rel=>exact⟨k+1,by omega,by go_num,HB.out,au.out,jA.out.setCell (.inr (by show w.heap.size<=w.heap.size+2;omega)) _⟩
end
end Go.Proofs.YtepbpdipenedhaaGreatDoor
