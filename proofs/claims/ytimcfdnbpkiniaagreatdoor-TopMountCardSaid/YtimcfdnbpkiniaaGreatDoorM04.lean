/- Lemmas. -/
import Derived.OrdersHeld
import Derived.Test.YtimcfdnbpkiniaaGreatDoorM03
set_option maxHeartbeats 8000000
set_option maxRecDepth 100000
namespace Go.Proofs.YtimcfdnbpkiniaaGreatDoor
open Go.Proofs.Tryz
section
variable{w:World}{v:Value}
section
variable {P:Program} {ops:Array Oper} {Q:Exit->Act->World->Prop} {md:Region.Mode} {S:World->Prop}
def Steps (P:Program) (S:World->Prop) (v:Value):Result Next->Prop
 | .ok (.value u) w'=>u=v/\S w'
 | .ok .skip w'=>v=undef/\S w'
 | .ok (.enter f args) w'=>Calls P f args w' λe h=>e=v/\S h
 |_=>False
def bR (P:Program) (ops:Array Oper) (S:World->Prop) (o:Oper) (v:Value) (a:Act):Prop:=
 (Region.wanted o (yielded ops a.tmps)=true/\∀w,S w->Steps P S v ((execOp a.eval o).run P w))\/(Region.wanted o (yielded ops a.tmps)=false/\v=undef)
theorem bR.of_same{o:Oper}{v:Value}{a h:Act}(z:bR P ops S o v a)(G:execOp h.eval o=execOp a.eval o)
  (J:Region.wanted o (yielded ops h.tmps)=Region.wanted o (yielded ops a.tmps)):bR P ops S o v h:=by
 unfold bR at *;rw[G,J];exact z
theorem bR.wpOp{i:Nat}{o:Oper}{v:Value}{a:Act}(W:ops[i]? =some o)(hy:bR P ops S o v a){K:Act->World->Prop}{w:World}(U:S w)(h:∀w',S w'->K (a.put o.dst v) w'):wpOp P ops Q i K a w:=by
 unfold Go.wpOp;simp only[W];rcases hy with ⟨J,hv⟩|⟨J,rfl⟩
 ·have z:=hv w U
  simp only[J,if_true];refine .inl ?_;unfold Oper.wp;generalize (execOp a.eval o).run P w=r at *;cases r with
  |ok n w'=>
   cases n with
   |value u=>obtain⟨rfl,G⟩:=z;exact h _ G
   |skip=>obtain⟨rfl,G⟩:=z;exact h _ G
   |enter f args=>
    refine Calls.mono z λe V he=> ?_
    obtain⟨rfl,G⟩:=he;exact h _ G
   |_=>exact z.elim
  |halt x w'=>exact z.elim
 ·simp only[J,Bool.false_eq_true,if_false];exact h _ U
def JE (P:Program) (ops:Array Oper) (S h:World->Prop) (o:Oper) (v:Value) (a:Act):Prop:=
 Region.wanted o (yielded ops a.tmps)=true/\∀w,S w->Steps P h v ((execOp a.eval o).run P w)
theorem JE.wpOp{S J:World->Prop}{i:Nat}{o:Oper}{v:Value}{a:Act}(W:ops[i]? =some o)(hy:JE P ops S J o v a){K:Act->World->Prop}{w:World}(U:S w)(h:∀w',J w'->K (a.put o.dst v) w'):wpOp P ops Q i K a w:=by
 unfold Go.wpOp;simp only[W];obtain⟨hw,hv⟩:=hy;have z:=hv w U;simp only[hw,if_true];refine .inl ?_;unfold Oper.wp;generalize (execOp a.eval o).run P w=r at *;cases r with
 |ok n w'=>
  cases n with
  |value u=>obtain⟨rfl,G⟩:=z;exact h _ G
  |skip=>obtain⟨rfl,G⟩:=z;exact h _ G
  |enter f args=>
   refine Calls.mono z λe V he=> ?_
   obtain⟨rfl,G⟩:=he;exact h _ G
  |_=>exact z.elim
 |halt x w'=>exact z.elim
def F3 (P:Program) (ops:Array Oper) (S:Bool->World->Prop) (o:Oper) (v:Value) (a:Act):Prop:=∀b,bR P ops (S b) o v a
theorem KX {S:Bool->World->Prop}{j:Nat}{z J:Oper}{v:Value}(hj:ops[j]? =some J)(ah:z.apart ops J=true)
  (ac:∀cs b,z.op≠.select cs b) (aa:∀cs b,J.op≠.select cs b)
  (hQ:∀c a w,Q (.panic c) (a.put z.dst v) w->Q (.panic c) a w) {K:Act->World->Prop} {a:Act} {w:World}
  (U:F3 P ops S z v a) (h:wpOp P ops Q j K (a.put z.dst v) w):
  wpOp P ops Q j (λa' w'=>F3 P ops S z v a'/\K (a'.put z.dst v) w') a w:=by
 obtain⟨h1,V,h3⟩:=Oper.apart_spec ah;have keep:∀(a:Act),F3 P ops S z v a->∀u,F3 P ops S z v (a.put J.dst u):=λa U u=>
  λb=>(U b).of_same (execOp_put z ac a J.dst u h3) (wanted_put z a J.dst u h3)
 have ag:∀d,F3 P ops S z v { a with defers:=d::a.defers }:=λd=>λb=>(U b).of_same rfl rfl
 unfold Go.wpOp at *;simp only[hj] at *;rw[wanted_put J a z.dst v h1] at h;split
 ·rename_i hw
  simp only[hw,if_true] at h;rcases h with h|⟨G,af⟩
  case inr=>exact .inr ⟨by unfold Oper.asks at *;rw[execOp_put J aa a z.dst v h1] at G;exact G,af⟩
  refine .inl ?_;unfold Oper.wp at *;rw[execOp_put J aa a z.dst v h1] at h;generalize (execOp a.eval J).run P w=r at *;cases r with
  |ok n w'=>
   cases n<;>simp only[Oper.upon] at h ⊢
   case value u=>exact⟨keep a U u,by rw[<-Act.put_comm a v u V];exact h⟩
   case skip=>exact⟨keep a U _,by rw[<-Act.put_comm a v undef V];exact h⟩
   case defer d=>
    refine⟨keep _ (ag d) _,?_⟩;rw[<-Act.put_comm _ v undef V,<-Act.put_defers];exact h
   case enter f args=>
    refine Calls.mono h λe ae W=> ?_
    cases e with
    |returned u=>exact⟨keep a U u,by rw[<-Act.put_comm a v u V];exact W⟩
    |panicked c=>exact hQ _ _ _ W
    |outgrown=>exact W
   case row row args=>exact Rows.mono h λu ae W=>⟨keep a U u,by rw[<-Act.put_comm a v u V];exact W⟩
  |halt x w'=>
   cases x<;>simp only[Oper.upon] at h ⊢
   case panic u=>exact hQ _ _ _ h
 ·rename_i hw
  simp only[hw] at h;exact⟨keep a U _,by rw[<-Act.put_comm a v undef V];exact h⟩
def CG (md:Region.Mode) (ops:Array Oper) (h:Array Bool):Prop:=
 ∀k o,ops[k]? =some o->h.getD k true=true->∀e∈o.after,Region.binds md e=true->h.getD e.on false=true
def leads (md:Region.Mode) (ops:Array Oper):Nat->Nat->Nat->Bool
 |0,_,_=>false
 |fuel+1,i,L=>(List.range ops.size).any λk=>k != i&&((ops[k]?).map (·.after.any λe=>Region.binds md e&&e.on==i)).getD false&&(k==L||leads md ops fuel k L)
theorem JF {z:Array Bool}{i:Nat}(h:z.getD i true=false):z.getD i false=false:=by
 rcases dE i z.size with G|G
 ·simp[G] at h ⊢;exact h
 ·simp[Array.getElem?_eq_none G] at h
theorem M0 {z:Array Bool}(hc:CG md ops z):∀(fuel i L:Nat),leads md ops fuel i L=true->z.getD i true=false->L∉Region.ready md ops z:=by
 intro fuel;induction fuel with
 |zero=>intro i L h;simp[leads] at h
 |succ fuel ih=>
  intro i L h hi;unfold leads at h;rw[List.any_eq_true] at h;obtain⟨k,-,hk⟩:=h;simp only[gj,Bool.or_eq_true,bne_iff_ne,ne_eq] at hk;obtain⟨⟨-,aa⟩,G⟩:=hk;cases ho:ops[k]? with
  |none=>simp[ho] at aa
  |some o=>
   have ae:o.after.any (λe=>Region.binds md e&&e.on==i)=true:=by simpa[ho] using aa
   obtain⟨e,he,U⟩:=Array.any_eq_true'.1 ae;simp only[gj,beq_iff_eq] at U;obtain⟨hb,xd⟩:=U;have J:z.getD e.on false=false:=by rw[xd];exact JF hi
   by_cases ac:k=L
   ·subst ac
    intro hm;obtain⟨-,o',V,W⟩:=mem_ready.1 hm;rw[ho] at V;cases V;rw[W e he hb] at J;cases J
   ·rcases G with G|G
    ·exact absurd (by simpa using G) ac
    ·refine ih k L G ?_
     cases hl:z.getD k true with
     |false=>rfl
     |true=>
      rw[hc k o ho hl e he hb] at J;cases J
theorem F4 {h:Array Bool}{j:Nat}(hc:CG md ops h)(hj:j∈Region.ready md ops h):CG md ops (h.setIfInBounds j true):=by
 intro k o W U e V hb;by_cases J:j=k
 ·subst J
  obtain⟨-,o',z,G⟩:=mem_ready.1 hj;rw[W] at z;cases z;exact getD_set_true (G e V hb)
 ·rw[Go.getD_set_ne true J] at U
  exact getD_set_true (hc k o W U e V hb)
def xY (P:Program) (md:Region.Mode) (ops:Array Oper) (Q:Exit->Act->World->Prop) (S:Bool->World->Prop) (F L:Nat):Nat->Array Bool->Act->Prop
 |0,listed,a=>Region.ready md ops listed=[]/\∀w,S (listed.getD F false) w->Q .normal a w
 |fuel+1,listed,a=>
  (Region.ready md ops listed=[]->∀w,S (listed.getD F false) w->Q .normal a w)/\
  (∀i∈Region.ready md ops listed,i≠L->∀w,S (listed.getD F false) w->wpOp P ops Q i (λh w'=>S ((listed.setIfInBounds i true).getD F false) w'/\xY P md ops Q S F L fuel (listed.setIfInBounds i true) h) a w)/\
  (L∈Region.ready md ops listed->∀w,S (listed.getD F false) w->wpOp P ops Q L (wpAny P md ops Q fuel (listed.setIfInBounds L true)) a w)
theorem oJ {S:Bool->World->Prop}{F L:Nat}:∀(fuel:Nat) (z:Array Bool) (a:Act),xY P md ops Q S F L fuel z a->∀w,S (z.getD F false) w->wpAny P md ops Q fuel z a w
 |0,_,_,h,w,hS=>⟨h.1,h.2 w hS⟩
 |fuel+1,z,a,h,w,hS=>by
  refine⟨λW=>h.1 W w hS,λi U=> ?_⟩;by_cases J:i=L
  ·subst J
   exact h.2.2 U w hS
  ·exact wpOp_mono (λV w' G=>oJ fuel _ V G.2 w' G.1) (h.2.1 i U J w hS)
theorem pE {z:Array Bool}{i j:Nat}(h:i≠j):(z.setIfInBounds i true).getD j false=z.getD j false:=by
 simp[Array.getElem?_setIfInBounds_ne h]
theorem KY {S:Bool->World->Prop}{i F L:Nat}{oi:Oper}{v:Value}(hi:ops[i]? =some oi)(ax:i≠L)(U:i≠F)(ae:∀(j:Nat) (o:Oper) cs b,ops[j]? =some o->o.op≠.select cs b)
  (hQ:∀c a w,Q (.panic c) (a.put oi.dst v) w->Q (.panic c) a w) (hL:L≥ops.size\/leads md ops ops.size i L=true):
  ∀(fuel:Nat) (z:Array Bool) (a:Act),CG md ops z->
   (∀j oj,ops[j]? =some oj->j≠i->z.getD j true=false->(∀e∈oj.after,Region.binds md e=true->e.on≠i)->oi.apart ops oj=true)->
   i∈Region.ready md ops z->F3 P ops S oi v a->
   xY P md ops Q S F L fuel (z.setIfInBounds i true) (a.put oi.dst v)->xY P md ops Q S F L (fuel+1) z a:=by
 have ag:∀z:Array Bool,CG md ops z->i∈Region.ready md ops z->L∉Region.ready md ops z:=by
  intro z hc J hm;rcases hL with hL|hL
  ·obtain⟨-,o,ho,-⟩:=mem_ready.1 hm
   rw[Array.getElem?_eq_none hL] at ho;cases ho
  ·exact M0 hc _ i L hL (mem_ready.1 J).1 hm
 intro fuel;induction fuel with
 |zero=>
  intro z a hc _ J hy H;refine⟨λh=>(by rw[h] at J;cases J),λj hj _ w hS=> ?_,λhm=>absurd hm (ag z hc J)⟩;by_cases V:j=i
  ·subst V;exact(hy _).wpOp hi hS λw' aa=>⟨by rw[pE U];exact aa,H⟩
  ·have :=ready_mono hj V
   rw[H.1] at this;cases this
 |succ fuel ih=>
  intro z a hc G J hy H;refine⟨λh=>(by rw[h] at J;cases J),λj hj ak w hS=> ?_,λhm=>absurd hm (ag z hc J)⟩;by_cases V:j=i
  ·subst V;exact(hy _).wpOp hi hS λw' aa=>⟨by rw[pE U];exact aa,H⟩
  ·have h1:=H.2.1 j (ready_mono hj V) ak w (by rw[pE U];exact hS)
   obtain⟨ah,oj,W,ac⟩:=mem_ready.1 hj;have av:∀e∈oj.after,Region.binds md e=true->e.on≠i:=λe he hb ar=>by
    have h1:=ac e he hb;have h0:=(mem_ready.1 J).1;rw[ar] at h1;rw[JF h0] at h1;cases h1
   have h2:=KX W (G j oj W V ah av) (λcs b=>ae i oi cs b hi) (λcs b=>ae j oj cs b W) hQ hy h1;have aj:∀k ok,ops[k]? =some ok->k≠i->(z.setIfInBounds j true).getD k true=false->
     (∀e∈ok.after,Region.binds md e=true->e.on≠i)->oi.apart ops ok=true:=λk ok hk xD ai au=>by
    refine G k ok hk xD ?_ au;by_cases af:j=k
    ·subst af;exact ah
    ·rw[Go.getD_set_ne true af] at ai;exact ai
   refine wpOp_mono (λa' w' h3=> ?_) h2;obtain⟨h4,h5,h6⟩:=h3;rw[Array.setIfInBounds_comm _ _ (cZ V)] at h6;rw[Array.setIfInBounds_comm _ _ (cZ V),pE U] at h5;exact⟨h5,ih (z.setIfInBounds j true) a' (F4 hc hj) aj (ready_mono J (cZ V)) h4 h6⟩
def eN (n i:Nat):Array Bool:=((List.range n).map λk=>decide (k<i)).toArray
theorem nR (n i:Nat):(eN n i).setIfInBounds i true=eN n (i+1):=by
 apply Array.ext
 ·simp[eN]
 ·intro k z J
  simp only[eN,ag,iz,List.getElem_set,ic,jV];by_cases h:i=k
  ·subst h;simp
  ·rw[aA h]
   exact decide_eq_decide.2 ⟨λh=>by omega,λG=>by omega⟩
theorem mU (n:Nat):eN n 0=Array.replicate n false:=by
 apply Array.ext
 ·simp[eN]
 ·intro k h z
  simp[eN]
def xe (md:Region.Mode) (ops:Array Oper) (m L:Nat):Bool:=
 Region.noSelect ops&&(List.range m).all λi=>Region.free md ops (eN ops.size i) i&&(Region.ready md ops (eN ops.size i)).contains i&&(decide (ops.size<=L)||leads md ops ops.size i L)
theorem T7 {m L:Nat}(h:xe md ops m L=true):∀i,i<=m->CG md ops (eN ops.size i):=by
 intro i;induction i with
 |zero=>
  intro _ k o J z;rw[mU] at z;have G:k<ops.size:=(Array.getElem?_eq_some_iff.1 J).1;simp[G] at z
 |succ i ih=>
  intro U;rw[<-nR];simp only[xe,gj,eQ,b7] at h;exact F4 (ih (by omega)) (by simpa using (h.2 i (by omega)).1.2)
def aU (P:Program) (ops:Array Oper) (S:World->Prop) (E:Act->World->Prop):List Oper->Act->Prop
 | [],a=>∀w,S w->E a w
 |o::rest,a=>∃v,bR P ops S o v a/\aU P ops S E rest (a.put o.dst v)
def j6 (P:Program) (ops:Array Oper) (S:Bool->World->Prop) (E:Act->Prop):List Oper->Act->Prop
 | [],a=>E a
 |o::rest,a=>∃v,F3 P ops S o v a/\j6 P ops S E rest (a.put o.dst v)
theorem aU.toB{E:Act->World->Prop}:∀(l:List Oper) (a:Act),aU P ops S E l a->j6 P ops (λ_=>S) (λa=>∀w,S w->E a w) l a
 | [],_,h=>h
 |_::l,_,⟨v,h1,h2⟩=>⟨v,λ_=>h1,aU.toB l _ h2⟩
theorem JG {S:Bool->World->Prop}{m F L:Nat}(V:xe md ops m L=true)(aa:m<=L)(ac:m<=F)(hQ:∀d v c a w,Q (.panic c) (Act.put a d v) w->Q (.panic c) a w){E:Act->Prop}
  (J:∀a,E a->xY P md ops Q S F L (ops.size-m) (eN ops.size m) a):
  ∀(l:List Oper) (i:Nat) (a:Act),i+l.length=m->m<=ops.size->(∀k,k<l.length->ops[i+k]? =l[k]?)->j6 P ops S E l a->xY P md ops Q S F L (ops.size-i) (eN ops.size i) a:=by
 have G:=V;simp only[xe,gj,eQ,b7] at G;intro l;induction l with
 |nil=>
  intro i a U hm _ h;obtain rfl:i=m:=by simpa using U
  exact J a h
 |cons o rest ih=>
  intro i a U hm W h;rw[cu] at U;obtain⟨v,hv,hr⟩:=h;have ho:ops[i]? =some o:=by simpa using W 0 (by simp)
  obtain⟨⟨c1,c2⟩,c3⟩:=G.2 i (by omega);have z:=ih (i+1) (a.put o.dst v) (by omega) hm (λk hk=>by
   have :=W (k+1) (by simpa using hk);rw[show i+1+k=i+(k+1) by omega,this];simp) hr
  rw[<-nR] at z;rw[show ops.size-i=(ops.size-(i+1))+1 by omega];refine KY ho (by omega) (by omega) (Region.noSelect_spec G.1) (hQ o.dst v) ?_ _ _ a (T7 V i (by omega)) (Region.free_spec ho c1) (by simpa using c2) hv z;simp only[Bool.or_eq_true,decide_eq_true_eq] at c3;exact c3
theorem F5 {W:Nat}{a:Act}{w:World}(U:P.follows .mixedOrders=true)(J:xe .any ops ops.size ops.size=true)(z:∀d v c a w,Q (.panic c) (Act.put a d v) w->Q (.panic c) a w)(G:S w.drew)
  (V:Region.ready .any ops (eN ops.size ops.size)=[]) (h:aU P ops S (Q .normal) ops.toList a):(Code.region W ops true).wp P Q a w:=by
 refine wp_region_any U ?_;rw[<-mU];refine oJ (S:=λ_=>S) (F:=ops.size) (L:=ops.size) _ _ _ ?_ _ G;refine JG (m:=ops.size) J (aH _) (aH _) z (E:=λa=>∀w,S w->Q .normal a w) (λa h=> ?_) ops.toList 0 a (by simp) (aH _) (λk hk=>by simp) (aU.toB _ _ h);rw[je];exact⟨V,h⟩
theorem ju {J:Nat}{a:Act}{w:World}(G:S w.drew)(h:aU P ops S (Q .normal) ops.toList a)(V:P.follows .mixedOrders=true:=by kernel_rfl)(U:xe .any ops ops.size ops.size=true:=by kernel_rfl)
  (W:Region.ready .any ops (eN ops.size ops.size)=[]:=by kernel_rfl) (z:∀d v c a w,Q (.panic c) (Act.put a d v) w->Q (.panic c) a w:=by intro d _ _ _ _ h;cases d<;>exact h):(Code.region J ops true).wp P Q a w:=F5 V U z G W h
theorem M3:∀(l:List Oper) (i:Nat) (a:Act) (w:World),i+l.length=ops.size->(∀k,k<l.length->ops[i+k]? =l[k]?)->(∀j,i<=j->j<ops.size->Region.ready md ops (eN ops.size j)=[j])->
  Region.ready md ops (eN ops.size ops.size)=[]->wpList P ops Q l a w->wpAny P md ops Q (ops.size-i) (eN ops.size i) a w:=by
 intro l;induction l with
 |nil=>
  intro i a w G _ _ z h;obtain rfl:i=ops.size:=by simpa using G
  rw[je];exact⟨z,h⟩
 |cons o rest ih=>
  intro i a w G W na z h;rw[cu] at G;have ho:ops[i]? =some o:=by simpa using W 0 (by simp)
  have U:=na i (aH _) (by omega);rw[show ops.size-i=(ops.size-(i+1))+1 by omega];refine⟨λV=>(by rw[U] at V;cases V),λj hj=> ?_⟩;rw[U,au] at hj;subst hj;rw[nR];have h2:wpOp P ops Q j (wpList P ops Q rest) a w:=by
   unfold Go.wpOp;simp only[ho];unfold wpList at h;exact h
  refine wpOp_mono (λa' w' h'=>ih (j+1) a' w' (by omega) (λk hk=> ?_) (λi hi J=>na i (by omega) J) z h') h2;have :=W (k+1) (by simpa using hk);rw[show j+1+k=j+(k+1) by omega,this];simp
theorem Bn {m r:Nat}(h:((List.range r).all λk=>Region.ready md ops (eN ops.size (m+k)) == [m+k])=true):∀j,m<=j->j<m+r->Region.ready md ops (eN ops.size j)=[j]:=λj G z=>by
 have :=eQ.1 h (j-m) (by rw[b7];omega);rw[show m+(j-m)=j by omega] at this;simpa using this
theorem F7 {id:Nat}{a:Act}{w:World}{l:List Oper}{o:Oper}{tl:List Oper}(U:P.follows .mixedOrders=true)(qp:ops.toList=l++(o::tl))(ht:xe .any ops l.length l.length=true)(hQ:∀d v c a w,Q (.panic c) (Act.put a d v) w->Q (.panic c) a w)(G:S w.drew)
  (V:((List.range (tl.length+1)).all λk=>Region.ready .any ops (eN ops.size (l.length+k)) == [l.length+k])=true) (ac:Region.ready .any ops (eN ops.size ops.size)=[]) (h:aU P ops S (wpList P ops Q (o::tl)) l a):(Code.region id ops true).wp P Q a w:=by
 have J:ops.size=l.length+(tl.length+1):=by rw[<-dO,qp];simp
 have W:=Bn V;rw[<-J] at W;refine wp_region_any U ?_;rw[<-mU];refine oJ (S:=λ_=>S) (F:=ops.size) (L:=l.length) _ _ _ ?_ _ G;have z:∀k,ops[k]? =(l++(o::tl))[k]? :=λk=>by rw[<-qp,dH]
 refine JG (m:=l.length) ht (aH _) (by omega) hQ (E:=λa=>∀w,S w->wpList P ops Q (o::tl) a w) (λa h=> ?_) l 0 a (by simp) (by omega) (λk hk=>by rw[z,bc,ba hk]) (aU.toB _ _ h);have h1:=W l.length (aH _) (by omega);have XJ:∀w,S w->wpAny P .any ops Q (ops.size-l.length) (eN ops.size l.length) a w:=λw G=>
  M3 (o::tl) l.length a w (by simpa using J.symm) (λk hk=>by rw[z,aR (by omega),dD]) W ac (h w G)
 rw[show ops.size-l.length=tl.length+1 by omega] at XJ ⊢;refine⟨λh0=>(by rw[h1] at h0;cases h0),λi hi aa=> ?_,λU w G=>(XJ w G).2 _ U⟩;rw[h1,au] at hi;exact absurd hi aa
theorem jW {id:Nat}{a:Act}{w:World}{l:List Oper}{o:Oper}{tl:List Oper}(W:ops.toList=l++(o::tl))(U:S w.drew)(h:aU P ops S (wpList P ops Q (o::tl)) l a)(hm:P.follows .mixedOrders=true:=by kernel_rfl)(V:xe .any ops l.length l.length=true:=by kernel_rfl)
  (z:((List.range (tl.length+1)).all λk=>Region.ready .any ops (eN ops.size (l.length+k)) == [l.length+k])=true:=by kernel_rfl) (G:Region.ready .any ops (eN ops.size ops.size)=[]:=by kernel_rfl) (J:∀d v c a w,Q (.panic c) (Act.put a d v) w->Q (.panic c) a w:=by intro d _ _ _ _ h;cases d<;>exact h):(Code.region id ops true).wp P Q a w:=F7 hm W V J U z G h
theorem mV {n F i:Nat}(h:F<n):(eN n i).getD F false=decide (F<i):=by
 simp[eN,h]
theorem aib {S:Bool->World->Prop}{F L:Nat}(na:∀j,F<j->j<ops.size->Region.ready md ops (eN ops.size j)=[j]){E:Act->World->Prop}
  (G:∀a,(∀w,S true w->E a w)->xY P md ops Q S F L (ops.size-L) (eN ops.size L) a):
  ∀(l:List Oper) (i:Nat) (a:Act),F<i->i+l.length=L->L<ops.size->(∀k,k<l.length->ops[i+k]? =l[k]?)->aU P ops (S true) E l a->xY P md ops Q S F L (ops.size-i) (eN ops.size i) a:=by
 intro l;induction l with
 |nil=>
  intro i a _ U _ _ h;obtain rfl:i=L:=by simpa using U
  exact G a h
 |cons o rest ih=>
  intro i a hF U hL qp h;rw[cu] at U;obtain⟨v,hv,hr⟩:=h;have ho:ops[i]? =some o:=by simpa using qp 0 (by simp)
  have J:=na i hF (by omega);have z:=ih (i+1) (a.put o.dst v) (by omega) (by omega) hL (λk hk=>by
   have :=qp (k+1) (by simpa using hk);rw[show i+1+k=i+(k+1) by omega,this];simp) hr
  rw[show ops.size-i=(ops.size-(i+1))+1 by omega];refine⟨λh0=>(by rw[J] at h0;cases h0),λj hj _ w W=> ?_,λhm=> ?_⟩
  ·rw[J,au] at hj
   subst hj;rw[mV (by omega),bu (show F<j by omega)] at W;refine hv.wpOp ho W λw' V=> ?_
   rw[nR,mV (by omega),bu (show F<j+1 by omega)];exact⟨V,z⟩
  ·rw[J,au] at hm
   omega
theorem EE {S:Bool->World->Prop}{id:Nat}{a:Act}{w:World}{l mid:List Oper}{f o:Oper}{tl:List Oper}(V:P.follows .mixedOrders=true)(qp:ops.toList=l++(f::(mid++(o::tl))))(ht:xe .any ops l.length (l.length+1+mid.length)=true)(hQ:∀d v c a w,Q (.panic c) (Act.put a d v) w->Q (.panic c) a w)(G:S false w.drew)
  (af:((List.range (ops.size-l.length)).all λk=>Region.ready .any ops (eN ops.size (l.length+k)) == [l.length+k])=true) (ag:Region.ready .any ops (eN ops.size ops.size)=[])
  (h:j6 P ops S (λa=>∃v,JE P ops (S false) (S true) f v a/\aU P ops (S true) (wpList P ops Q (o::tl)) mid (a.put f.dst v)) l a):(Code.region id ops true).wp P Q a w:=by
 have ah:ops.size=l.length+(1+(mid.length+(1+tl.length))):=by rw[<-dO,qp];simp;omega
 have na:=Bn af;rw[show l.length+(ops.size-l.length)=ops.size by omega] at na;refine wp_region_any V ?_;rw[<-mU];refine oJ (S:=S) (F:=l.length) (L:=l.length+1+mid.length) _ _ _ ?_ _ (by rw[mV (by omega)];exact G);have z:∀k,ops[k]? =(l++(f::(mid++(o::tl))))[k]? :=λk=>by rw[<-qp,dH]
 refine JG (m:=l.length) ht (by omega) (aH _) hQ (λa h=> ?_) l 0 a (by simp) (by omega) (λk hk=>by rw[z,bc,ba hk]) h;obtain⟨v,hf,J⟩:=h;have h1:=na l.length (aH _) (by omega);have aa:=aib (md:= .any) (Q:=Q) (S:=S) (F:=l.length) (L:=l.length+1+mid.length) (λj hj=>na j (by omega)) (E:=wpList P ops Q (o::tl)) (λa2 h=>by
  have h2:=na (l.length+1+mid.length) (by omega) (by omega);have XJ:∀w,S true w->wpAny P .any ops Q (ops.size-(l.length+1+mid.length)) (eN ops.size (l.length+1+mid.length)) a2 w:=λw G=>
   M3 (o::tl) (l.length+1+mid.length) _ w (by simp;omega) (λk hk=>by
    rw[z,aR (by omega),show l.length+1+mid.length+k-l.length=mid.length+k+1 by omega,dU,aR (by omega),dD]) (λj hj=>na j (by omega)) ag (h w G)
  rw[show ops.size-(l.length+1+mid.length)=tl.length+1 by omega] at XJ ⊢;refine⟨λU=>(by rw[h2] at U;cases U),λi W ac=> ?_,λV w G=> ?_⟩
  ·rw[h2,au] at W
   exact absurd W ac
  ·rw[mV (by omega),bu (by omega)] at G
   exact(XJ w G).2 _ V) mid (l.length+1) (a.put f.dst v) (by omega) rfl (by omega) (λk hk=>by
    rw[z,aR (by omega),show l.length+1+k-l.length=k+1 by omega,dU,ba hk]) J
 rw[show ops.size-l.length=(ops.size-(l.length+1))+1 by omega];refine⟨λU=>(by rw[h1] at U;cases U),λi W ac w G=> ?_,λV=> ?_⟩
 ·rw[h1,au] at W
  subst W;rw[mV (by omega),aQ (by omega)] at G;refine hf.wpOp (by rw[z];simp) G λw' ae=> ?_
  rw[nR,mV (by omega),bu (by omega)];exact⟨ae,aa⟩
 ·rw[h1,au] at V
  omega
theorem j6.cons{S:Bool->World->Prop}{E:Act->Prop}{o:Oper}{rest:List Oper}{a:Act}(v:Value)(h:∀b,bR P ops (S b) o v a)(z:j6 P ops S E rest (a.put o.dst v)):j6 P ops S E (o::rest) a:=⟨v,h,z⟩
theorem j6.done{S:Bool->World->Prop}{E:Act->Prop}{a:Act}(h:E a):j6 P ops S E [] a:=h
theorem aU.cons{E:Act->World->Prop}{o:Oper}{rest:List Oper}{a:Act}(v:Value)(h:bR P ops S o v a)(z:aU P ops S E rest (a.put o.dst v)):aU P ops S E (o::rest) a:=⟨v,h,z⟩
theorem aU.done{E:Act->World->Prop}{a:Act}(h:∀w,S w->E a w):aU P ops S E [] a:=h
theorem bR.val{o:Oper}{v:Value}{a:Act}(G:Region.wanted o (yielded ops a.tmps)=true)(h:∀w,S w->(execOp a.eval o).run P w= .ok (.value v) w):bR P ops S o v a:=
 .inl ⟨G,λw z=>by rw[h w z];exact⟨rfl,z⟩⟩
theorem bR.off{o:Oper}{a:Act}(h:Region.wanted o (yielded ops a.tmps)=false):bR P ops S o undef a:= .inr ⟨h,rfl⟩
theorem bR.load{o:Oper}{v:Value}{a:Act}(J:Region.wanted o (yielded ops a.tmps)=true)(ty:TypeId)(x:Operand)(V:o.op= .load ty x)(z:Addr)(U:a.eval x= .pointer (some z))(h:∀w,S w->(loadVar ty z).run P w= .ok v w):bR P ops S o v a:=
 .val J λw G=>by
  unfold execOp;simp only[V,U,Instr.loadAt,Instr.sureAddr,cr,fQ,cO,h w G]
theorem JE.store{S G:World->Prop}{o:Oper}{a:Act}(hw:Region.wanted o (yielded ops a.tmps)=true)(ty:TypeId)(x y:Operand)(W:o.op= .store ty x y)(z:Addr)(hx:a.eval x= .pointer (some z))(v:Value)(V:a.eval y=v)
  (h:∀w,S w->∃w',(storeVar ty z v).run P w= .ok () w'/\G w'):JE P ops S G o undef a:=
 ⟨hw,λw J=>by
  obtain⟨w',U,h2⟩:=h w J;unfold execOp;simp only[W,hx,V,Instr.storeAt,Instr.sureAddr,cr,fQ,cO,U];exact⟨rfl,h2⟩⟩
theorem bR.call{o:Oper}{v:Value}{a:Act}(J:Region.wanted o (yielded ops a.tmps)=true)(f:Nat)(args:Array Value)(z:∀w,(execOp a.eval o).run P w= .ok (.enter f args) w)(h:∀w,S w->Calls P f args w λe w'=>e=v/\S w'):bR P ops S o v a:=
 .inl ⟨J,λw G=>by rw[z w];exact h w G⟩
end
end
section
open Go.RowKit
variable{w:World}{v:Value}
theorem Qf{P:Program}{ty:TypeId}{k:IntKind}{z:Addr}(J:P.underlying ty=some (.int k))(G:w.cell? z=some v):(loadVar ty z).run P w= .ok v w:=by
 have h:(isAgg ty).run P w= .ok false w:=by
  unfold isAgg;rw[cr,dB J w];rfl
 simp[loadVar,h,G]
theorem F8 (i:Int)(w:World):Calls prog 229 #[i] w λe w'=>e=(decide (DZ i))/\w=w':=by
 by_cases G:0<i
 ·by_cases z:i<256
  ·rw[bu (show DZ i from ⟨G,z⟩)]
   go_in;go_wp2;go_ret;exact⟨rfl,rfl⟩
  ·rw[aQ (show ¬DZ i from λh=>z h.2)]
   go_in;go_wp2;go_ret;exact⟨rfl,rfl⟩
 ·rw[aQ (show ¬DZ i from λh=>G h.1)]
  go_in;go_wp2;go_ret;exact⟨rfl,rfl⟩
theorem adA (p b n:Nat)(z:b<256)(G:p<256)(h:n<256):bits .or .u64 ((p:Int)*4294967296) ((b:Int)*256)=((p*4294967296+b*256:Nat):Int)/\bits .or .u64 ((p*4294967296+b*256:Nat):Int) (n:Int)=((p*4294967296+b*256+n:Nat):Int):=by
 constructor
 ·rw[show(p:Int)*4294967296=((p*4294967296:Nat):Int) by omega,show(b:Int)*256=((b*256:Nat):Int) by omega,u64_or_nat _ _ (by omega) (by omega),nat_join 32 _ _ (by exact Nat.mul_mod_left _ _) (show b*256<4294967296 by omega)]
 ·rw[u64_or_nat _ _ (by omega) (by omega),nat_join 8 _ _ (by omega) h]
theorem KZ (p b n x y:Nat)(z:b<256)(G:p<256)(h:n<256)(q1:bits .or .u64 ((p:Int)*4294967296) ((b:Int)*256)=(y:Int))(q2:bits .or .u64 (y:Int) (n:Int)=(x:Int))(w:World):
  Calls prog 230 #[(p:Int),(b:Int),(n:Int)] w λe w'=>e= .returned (.int .u64 (x:Int))/\w=w':=by
 go_in;go_wp2_with fail;go_ret;exact⟨rfl,rfl⟩
theorem Qg (p b n:Nat)(z:b<256)(G:p<256)(h:n<256)(w:World):Calls prog 230 #[(p:Int),(b:Int),(n:Int)] w λe w'=>e= .returned (.int .u64 (zA p (b:Int) n))/\w=w':=by
 obtain⟨q1,q2⟩:=adA p b n z G h;have J:zA p (b:Int) n=((p*4294967296+b*256+n:Nat):Int):=by unfold zA;omega
 rw[J];exact KZ p b n _ _ z G h q1 q2 w
def Words (w:World) (L:List Int) (v:Value) (h:World):Prop:=h.ownsRow (w.heap.size+1) 70 1 v L.length (aY L)/\L.length<=13/\ay [] w h
theorem Words.made{G:World}{L:List Int}(h:Words w L v G):jJ w L (.returned v) G:=by
 obtain⟨g,J,U⟩:=eZ.of_row h.1;by_cases z:L.length=0
 ·exact⟨v,w.heap.size,rfl,J.reads.anyG (by rw[bo z];rfl) _,aH _,h.2.2⟩
 ·exact⟨v,g,rfl,J.reads,by have :=(U z).1;omega,h.2.2⟩
theorem K0 (l:List Int)(hl:l.length=13)(w:World):Calls prog 210 #[(zs l).toArray] w (jJ w (fw l)):=by
 obtain⟨i0,hi,aV,aM,aW⟩:=df Tryz.info_u64;have aB:=bh.new w (zs l).toArray 73;have p9:=ar aB;have fJ:Hid (ay [] w (w.alloc (.cells (zs l).toArray 73))):=(ay.refl _ _).alloc _;have aG:Hid (∀G k,k<13->ay [] (w.alloc (.cells (zs l).toArray 73)) G->G.cell? ⟨w.heap.size,k,none⟩=some (.int .i64 (l.getD k 0))):=λG k hk fV=>by
  rw[(aB.keep fV (by simp)).cell,aF,gK (by omega)]
 clear aB;have HL:=ar hl;clear hl;generalize hz:(zs l).toArray=Z at *;clear hz;go_in;go_wp2_with fail;go_step3;go_wp2_with fail;go_step3;go_wp2_with fail;go_loopg [3,4] 13 (λgh s3 s4 G=>∃f:Nat,f+gh=13/\s4= .int .i64 (f:Int)/\Hid (G.ownsRow (w.heap.size+1) 70 1 s3 (gD l f).length (aY (gD l f))/\¬mg l f/\ay [] (w.alloc (.cells Z 73)) G))
 case atStart=>exact⟨0,by omega,rfl,⟨rfl,.inl ⟨rfl,rfl⟩⟩,λh=>absurd h.1 (by omega),ay.refl _ _⟩
 case round=>
  obtain⟨f,hf,rfl,HR⟩:=hrel;cases gk with
  |zero=>
   obtain rfl:f=13:=by omega
   have HM:Hid (jJ w (fw l) (.returned u3) wr):=Words.made ⟨HR.out.1,mC l 13,fJ.out.trans' HR.out.2.2⟩;clear hf HR;go_wp2_with fail;rw[Exit.noGoto_ret];go_ret;exact HM.out
  |succ gg=>
   have aH:f<13:=by omega
   have bq:(f:Int)<13:=by omega
   have bo:(0:Int)<=(f:Int):=by omega
   have aO:=aG.out wr f aH HR.out.2.2;have ax:=ar (F8 (l.getD f 0));by_cases hB:DZ (l.getD f 0)
   ·rw[bu hB] at ax
    have aN:Hid (sP l f):=⟨hB,HR.out.2.1⟩;have HB:=ar hB;have bb:0<l.getD f 0:=hB.1;have bj:l.getD f 0<256:=hB.2;obtain⟨aa,jr,aS⟩:=hh3 HR.out.1 HR.out.2.2 (mC l f);clear HR hB;generalize J:l.getD f 0=x at *;have HX:=ar J;clear J;go_wp2_with fail;refine C' (ax.out _) ?_;go_wp2_with fail;clear aO;obtain⟨a,cap,rfl,q1,q2⟩:=iV aa.out;go_loopg [3,4,5] (12-f) (λgh s3 s4 s5 G=>∃j:Nat,s3= .slice a (gD l f).length cap/\s4= .int .i64 (f:Int)/\j+gh=13/\s5= .int .i64 (j:Int)/\Hid (f<j/\(∀i,f<i->i<j->mg l i)/\G.ownsRow (w.heap.size+1) 70 1 (.slice a (gD l f).length cap) (gD l f).length (aY (gD l f))/\ay [] (w.alloc (.cells Z 73)) G))
    case atStart=>exact⟨f+1,rfl,rfl,by omega,by go_num,by omega,λi h1 h2=>by omega,aa.out,jr.out⟩
    case round=>
     clear aa jr;obtain⟨j,rfl,rfl,hj,rfl,HR⟩:=hrel;obtain⟨ak,XK,aA,fV⟩:=HR.out;obtain⟨XL,aa,jr⟩:=hh3 XK aA fV;have Ci:(0:Int)<=(j:Int):=by omega
     have aK:DZ (l.getD f 0):=by rw[HX.out];exact HB.out
     have Me:=ar (XI aK ak XK);have aP:=fV.size;clear HR aA XK fV aK;have mY:Hid (∀G k,k<13->ay [] wr G->(loadVar 3 ⟨w.heap.size,k,none⟩).run prog G= .ok (.int .i64 (l.getD k 0)) G):=λG k hk fV=>Qf underlying3 (aG.out G k hk (jr.out.trans' fV))
     by_cases XM:j<13;have aR:(j:Int)<13:=by omega
     have T8:=ar (F8 (l.getD j 0));obtain⟨y,hy⟩:∃y,y=l.getD j 0:=⟨_,rfl⟩;obtain⟨z,hz⟩:∃z,z=l.getD (j-1) 0:=⟨_,rfl⟩;rw[<-hy] at T8;rw[<-hy,<-hz] at Me;have au:Hid (∀G,ay [] wr G->(loadVar 3 ⟨w.heap.size,j,none⟩).run prog G= .ok (.int .i64 y) G):=λG hk=>by rw[hy];exact mY.out G j XM hk
     obtain⟨q,hq⟩:∃q,q=j-1:=⟨_,rfl⟩;have aD:DZ z:=by
      have :DZ (l.getD f 0):=by rw[HX.out];exact HB.out
      rw[hz];exact Ss this XL.out (j-1) (by omega) (by omega)
     have aI:Hid (∀G,ay [] wr G->(loadVar 3 ⟨w.heap.size,q,none⟩).run prog G= .ok (.int .i64 z) G):=λG hk=>by rw[hz,hq];exact mY.out G (j-1) (by omega) hk
     have bp:(j:Int)-1=(q:Int):=by omega
     have aX:IntKind.i64.wrap (q:Int)=(q:Int):=fS _ (by omega);have ba:(0:Int)<=(q:Int):=by omega
     have bg:(q:Int)<13:=by omega
     have aZ:IntKind.i64.wrap (z+1)=z+1:=fS _ (by have :=aD.1;have :=aD.2;omega);clear hy hz mY hq aD;have aj:(j<13)=True:=eq_true XM;by_cases hY:DZ y;rw[bu hY] at T8;by_cases ac:y=z+1
     ·have hC:mg l j:=Me.out.2 ⟨XM,hY,ac⟩
      have HN:Hid (f<j+1/\(∀i,f<i->i<j+1->mg l i)/\ay [] wr wr):=by
       refine⟨by omega,λi h1 h2=> ?_,ay.refl _ _⟩;by_cases e:i=j
       ·subst e;exact hC
       ·exact XL.out i h1 (by omega)
      have U:(y==z+1)=true:=by simp[ac]
      clear hC Me ac;go_wp2_with fail;refine ju (S:=λG=>ay [] wr G) ((ay.refl _ _).drew) ?_;repeat (
       (first
       |(refine aU.cons (.int .i64 y) (bR.load rfl 3 (.tmp 23) rfl _ rfl λG J=>au.out G J) ?_)
       |(refine aU.cons (.int .i64 y) (bR.load rfl 3 (.tmp 29) rfl _ rfl λG J=>au.out G J) ?_)
       |(refine aU.cons (.int .i64 z) (bR.load rfl 3 (.tmp 33) rfl _ rfl λG J=>aI.out G J) ?_)
       |(refine aU.cons (.bool true) (bR.call rfl 229 #[(y:Int)] ?V ?h) ?_;(case V=>(intro wz;go_simp));(case h=>exact λG J=>(T8.out G).mono λe w' V=>⟨V.1,V.2▸J⟩))
       |(refine aU.cons undef (bR.off rfl) ?_)
       |(with_reducible show aU _ _ _ _ (⟨_,_,4,_,_,_⟩::_) _;refine aU.cons (.bool true) (bR.val rfl ?h) ?_;(case h=>(intro G J;clear J;first|(go_simp;done)|(go_simp;simp[aj,U];done))))
       |(with_reducible show aU _ _ _ _ (⟨_,_,4,_,_,_⟩::_) _;refine aU.cons (.bool false) (bR.val rfl ?h) ?_;(case h=>(intro G J;clear J;first|(go_simp;done)|(go_simp;simp[aj,U];done))))
       |(refine aU.cons ?_ (bR.val rfl ?h) ?_;(case h=>(intro G J;clear J;go_simp;rfl))));simp only[Act.put,ag,ah,ai])
      refine aU.done λG J=> ?_
      obtain⟨uf,JH⟩:=hh2 J (eu aa.out J (by simp));clear J;go_wp2_with fail;go_roundg (gk-1);case measure=>omega
      case rel=>exact⟨j+1,rfl,rfl,by omega,by go_num,HN.out.1,HN.out.2.1,JH.out,jr.out.trans' uf.out⟩
     have av:Hid (¬mg l j):=λh=>ac (Me.out.1 h).2.2
     have az:=ar ak;have U:(y==z+1)=false:=cL.2 ac;clear Me ac
     rotate_left
     have av:Hid (¬mg l j):=λh=>hY (Me.out.1 h).2.1
     have az:=ar ak;rw[aQ hY] at T8;have U:(1:Int)=1:=rfl;clear Me hY
     rotate_left
     have av:Hid (¬mg l j):=λh=>XM (Me.out.1 h).1
     have az:=ar ak;have aj:(j<13)=False:=eq_false XM;have aR:¬(j:Int)<13:=by omega
     have U:(1:Int)=1:=rfl;clear Me mY
     rotate_left
     all_goals
      go_wp2_with fail;refine ju (S:=λG=>ay [] wr G) ((ay.refl _ _).drew) ?_;repeat (
       (first
       |(refine aU.cons (.int .i64 y) (bR.load rfl 3 (.tmp 23) rfl _ rfl λG J=>au.out G J) ?_)
       |(refine aU.cons (.int .i64 y) (bR.load rfl 3 (.tmp 29) rfl _ rfl λG J=>au.out G J) ?_)
       |(refine aU.cons (.int .i64 z) (bR.load rfl 3 (.tmp 33) rfl _ rfl λG J=>aI.out G J) ?_)
       |(refine aU.cons (.bool true) (bR.call rfl 229 #[(y:Int)] ?V ?h) ?_;(case V=>(intro wz;go_simp));(case h=>exact λG J=>(T8.out G).mono λe w' V=>⟨V.1,V.2▸J⟩))
       |(refine aU.cons (.bool false) (bR.call rfl 229 #[(y:Int)] ?V ?h) ?_;(case V=>(intro wz;go_simp));(case h=>exact λG J=>(T8.out G).mono λe w' V=>⟨V.1,V.2▸J⟩))
       |(refine aU.cons undef (bR.off rfl) ?_)
       |(with_reducible show aU _ _ _ _ (⟨_,_,4,_,_,_⟩::_) _;refine aU.cons (.bool true) (bR.val rfl ?h) ?_;(case h=>(intro G J;clear J;first|(go_simp;done)|(go_simp;simp[aj,U];done))))
       |(with_reducible show aU _ _ _ _ (⟨_,_,4,_,_,_⟩::_) _;refine aU.cons (.bool false) (bR.val rfl ?h) ?_;(case h=>(intro G J;clear J;first|(go_simp;done)|(go_simp;simp[aj,U];done))))
       |(refine aU.cons ?_ (bR.val rfl ?h) ?_;(case h=>(intro G J;clear J;go_simp;rfl))));simp only[Act.put,ag,ah,ai])
      refine aU.done λG J=> ?_
      obtain⟨JH,uf⟩:=hh2 (eu aa.out J (by simp)) (jr.out.trans' J);have aL:=aG.out G f aH (jr.out.trans' J);rw[HX.out] at aL;have bf:w.heap.size+1<=G.heap.size:=by have :=J.size;simp at aP;omega
      clear J;obtain⟨b,hb⟩:∃b:Nat,x=(b:Int):=⟨x.toNat,by omega⟩;obtain⟨n,hn⟩:∃n:Nat,n=j-f:=⟨_,rfl⟩;have bn:(j:Int)-(f:Int)=(n:Int):=by omega
      have bc:IntKind.i64.wrap (n:Int)=(n:Int):=fS _ (by omega);have JI:=ar (Qg f b n (by omega) (by omega) (by omega));have xq:Hid (gD l j=gD l f++[zA f (b:Int) n]):=by
       have :=Qd aN.out az.out (by omega) XL.out av.out;rw[HX.out,hb] at this;rw[hn];exact this
      rw[hb] at aL;have aJ:Hid (j<=13/\n=j-f):=⟨by omega,hn⟩;have aT:=ar hf;clear hb hn hf;generalize zA f (b:Int) n=W,hL:gD l f=L at *;have bl:=ar hL;clear hL;have rZ:=ar (show L.length<=13 by have :=aS.out;omega);go_wp2_with fail;refine C' (JI.out _) ?_;have bk:=rZ.out;go_wp2_with(at_builtin;refine eU _ rfl _ _ 65 rfl (w.heap.size+1) 70 i0 (.int .u64 0) 1 8 underlying65 hi aV aM aW rfl (by decide) (.slice a L.length cap) L.length _ rfl (JH.out.alloc _) ⟨G.heap.size,0,none⟩ 1 1 [.int .u64 W] rfl rfl ?c1 ?c2 (by unfold maxLen;omega) (by omega) (by simp;omega) ?_);case c1=>exact lH _ [_] _ _ rfl
      case c2=>simp[Value.oneCell']
      intro v' w1 ae af _;obtain⟨MP,jH⟩:=hh2 ae ((uf.out.alloc _).grown af (λk hk=>by have :=dQ JH.out k hk;simpa using this));clear ae af;go_wp2_with fail;go_roundg (13-j);case measure=>have :=aT.out;have :=az.out;have :=aJ.out.1;omega
      case rel=>
       refine⟨j,by have :=aJ.out.1;omega,by go_num,?_,av.out,jH.out⟩;have :=MP.out;rw[xq.out,aC,tX];exact this
   ·rw[aQ hB] at ax
    have XN:¬mg l (f+1):=λh=>hB h.2.2.2.1
    have HN:Hid (wr.ownsRow (w.heap.size+1) 70 1 u3 (gD l (f+1)).length (aY (gD l (f+1)))/\¬mg l (f+1)/\ay [] (w.alloc (.cells Z 73)) wr):=by
     refine⟨?_,XN,HR.out.2.2⟩;rw[MZ hB];exact HR.out.1
    clear HR hB XN;generalize l.getD f 0=x at *;go_wp2_with fail;refine C' (ax.out _) ?_;go_wp2_with fail;go_roundg gg;case measure=>omega
    case rel=>exact⟨f+1,by omega,by go_num,HN.out⟩
theorem Bo (a s:Nat)(V:a<=1000000)(U:1<=s)(J:s<=1000000)(w:World):Calls prog 174 #[(a:Int),(s:Int)] w λe w'=>e=(((a+s-1)/s:Nat):Int)/\w=w':=by
 have h:(s:Int)≠0:=by omega
 have z:¬(s:Int)= -1:=by omega
 have W:((a:Int)+s-1).tdiv s=(((a+s-1)/s:Nat):Int):=by
  rw[show(a:Int)+s-1=((a+s-1:Nat):Int) by omega,Int.ofNat_tdiv]
 have G:(a+s-1)/s<=2000000:=cG (Nat.div_le_self _ _) (by omega);generalize (a+s-1)/s=q at *;go_in;go_wp2_with fail;go_ret;exact⟨rfl,rfl⟩
theorem Su (l:List Int)(c:Nat)(hl:l.length=13)(hc:c<=13)(w:World):Calls prog 173 #[(zs l).toArray,(c:Int)] w λe w'=>e=(zs (jh l c)).toArray/\ay [] w w':=by
 have G:=bh.new w (zs l).toArray 73;have V:=G.alloc (.cells (zs (List.replicate 13 0)).toArray 73);obtain⟨off,cap,hs,ho⟩:=Qb w.heap.size c hc ((w.alloc (.cells (zs l).toArray 73)).alloc (.cells (zs (List.replicate 13 0)).toArray 73));obtain⟨w1,J,ae,z⟩:=Qc (off:=off) (cap:=cap) V hl hc ho;have W:bh ((w.alloc (.cells (zs l).toArray 73)).alloc (.cells (zs (List.replicate 13 0)).toArray 73)) (w.heap.size+1) (zs (List.replicate 13 0)).toArray 73 :=by
  simpa using bh.new (w.alloc (.cells (zs l).toArray 73)) (zs (List.replicate 13 0)).toArray 73
 have aa:=W.keep z (by simp);have h:=nQ hl hc;have hL:=fA (off:=0) ae h (λk hk=>by rw[bc,aF,gK (by omega)]);obtain⟨w2,hS,ac,U⟩:=bG (P:= prog) (ty:= 73) (cs:=zs (jh l c)) (by rw[eO,h];exact mf) aa (by simp[eO,h]) (nB _);have af:=fA (off:=0) ac h (λk hk=>by rw[bc,aF,gK (by omega)]);have HK:Hid (ay [] w w2):=((((ay.refl [] w).alloc _).alloc _).trans z (by simp)).trans U (by simp);obtain⟨HL,HS,rN⟩:=hh3 hL hS af;have ag:=pC;have ah:=J 0;clear G V W aa hL hS af J ae z ac U ho;generalize (zs (jh l c)).toArray=Y,(zs (List.replicate 13 0)).toArray=Z0,(zs l).toArray=Z at *;go_in;go_wp2_with(with_reducible first|refine gL 73 HL.out ?_|refine gS 73 HS.out ?_);exact aI (bA results173 rfl rN.out) rfl ⟨rfl,HK.out⟩
theorem Qh (b:Nat)(w:World):(Instr.sliceAt 73 (.pointer (some ⟨b,0,none⟩)) (some (.int .i64 5)) none none).run prog w= .ok (.slice (some ⟨b,5,none⟩) 8 8) w:=by show Sem.run _ _ _=_;kernel_rfl
theorem M4 (a:Option Addr)(w:World):(Instr.arrayAt 249 (.slice a 8 8)).run prog w= .ok (.pointer a) w:=by show Sem.run _ _ _=_;kernel_rfl
theorem K1 (l:List Int)(hl:l.length=13)(w:World):Calls prog 204 #[(zs l).toArray] w λe w'=>e=(zs (l.drop 5)).toArray/\ay [] w w':=by
 have h:=bh.new w (zs l).toArray 73;have G:=h.alloc (.cells (zs (List.replicate 8 0)).toArray 249);have J:bh ((w.alloc (.cells (zs l).toArray 73)).alloc (.cells (zs (List.replicate 8 0)).toArray 249)) (w.heap.size+1) (zs (List.replicate 8 0)).toArray 249 :=by
  simpa using bh.new (w.alloc (.cells (zs l).toArray 73)) (zs (List.replicate 8 0)).toArray 249
 have W:(l.drop 5).length=8:=by simp[hl]
 have hL:=Sn (off:=5) G W (λk hk=>by rw[aF,gK (by omega)];simp);obtain⟨w2,hS,U,z⟩:=bG (P:= prog) (ty:= 249) (cs:=zs (l.drop 5)) (by rw[eO,W];exact Sm) J (by simp[eO,hl]) (nB _);have V:=Sn (off:=0) U W (λk hk=>by rw[bc,aF,gK (by omega)]);have HK:Hid (ay [] w w2):=(((ay.refl [] w).alloc _).alloc _).trans z (by simp);obtain⟨HL,HS,rN⟩:=hh3 hL hS V;have aa:=KT;have ac:=Qh w.heap.size;have ae:=M4;clear h G J hL hS V U z;generalize (zs (l.drop 5)).toArray=Y,(zs (List.replicate 8 0)).toArray=Z0,(zs l).toArray=Z at *;go_in;go_wp2_with(with_reducible first|refine gL 249 HL.out ?_|refine gS 249 HS.out ?_);exact aI (bA results204 rfl rN.out) rfl ⟨rfl,HK.out⟩
theorem sQ (n:bT)(a:Option Addr)(cap:Nat)(G:n.B.length=13)(V:n.E.length<=100000)(w:World):Calls prog 179 #[aM n (.slice a n.E.length cap)] w λe w'=>e=((bp n.E.length:Nat):Int)/\ay [] w w':=by
 have h:=bh.new w (aM n (.slice a n.E.length cap)) 75;have U:(w.alloc (.cells (aM n (.slice a n.E.length cap)) 75)).cell? ⟨w.heap.size,17,none⟩=some (.slice a n.E.length cap):=by rw[h.cell];exact Al _ G
 have z:=ar (Bo n.E.length 4 (by omega) (by omega) (by omega));have J:Hid (ay [] w (w.alloc (.cells (aM n (.slice a n.E.length cap)) 75))):=(ay.refl [] w).alloc _;clear h G;generalize aM n (.slice a n.E.length cap)=Z at *;unfold bp;generalize n.E.length=m at *;rw[show m+4-1=m+3 by omega] at z;go_in;go_wp2_with fail;refine C' (z.out _) ?_;go_wp2_with fail;go_ret;exact⟨rfl,J.out⟩
def eY (n:bT):Nat:=if 5<bp n.E.length\/n.B.drop 5≠List.replicate 8 0 then bp n.E.length+1 else bp n.E.length
theorem Sv (n:bT)(a:Option Addr)(cap:Nat)(z:n.B.length=13)(hE:n.E.length<=100000)(w:World):Calls prog 181 #[aM n (.slice a n.E.length cap)] w λe w'=>e=((eY n:Nat):Int)/\ay [] w w':=by
 obtain⟨G,HR⟩:=hh2 (sQ n a cap z hE) (K1 n.B z);have vZ:=KT;have Sw:=MT;have IK:=ar (λW=>acS (a:=n.B.drop 5) (b:=List.replicate 8 0) (by simp[z]) rfl W);have fJ:Hid (ay [] w (w.alloc (.cells (aM n (.slice a n.E.length cap)) 75))):=(ay.refl [] w).alloc _;have p9:Hid (bh (w.alloc (.cells (aM n (.slice a n.E.length cap)) 75)) w.heap.size (aM n (.slice a n.E.length cap)) 75):=bh.new _ _ _;obtain⟨uT,rZ⟩:=hh2 (λ(W:World) (hb:bh W w.heap.size (aM n (.slice a n.E.length cap)) 75)=>cg hb z) (λ(W:World) (hb:bh W w.heap.size (aM n (.slice a n.E.length cap)) 75)=>fA (off:=4) hb z λk hk=>CE _ (by omega));have F9:=ar (uT.out _ p9.out);have ac:bp n.E.length<=1000000:=by unfold bp;omega
 unfold eY;generalize hd:n.B.drop 5=d,aM n (.slice a n.E.length cap)=Z,(zs n.B).toArray=ZB at *;clear hd z hE;generalize bp n.E.length=m at *;by_cases hm:5<m
 ·have U:(5:Int)<(m:Int):=by omega
  rw[aB (.inl hm)];go_in;go_wp2_with(with_reducible refine gL 75 F9.out ?_);refine Rr (G.out _) λw1 h=> ?_;have jH:=ar (fJ.out.trans h (by simp));clear h;go_wp2_with fail;go_ret;exact⟨rfl,jH.out⟩
 ·have U:¬(5:Int)<(m:Int):=by omega
  obtain⟨t,ht⟩:∃t,decide (d=List.replicate 8 0)=t:=⟨_,rfl⟩;rw[ht] at IK;have V:(if 5<m\/d≠List.replicate 8 0 then m+1 else m)=if t=true then m else m+1:=by
   rw[<-ht];generalize List.replicate 8 (0:Int)=z8;by_cases hd:d=z8
   ·simp[hd,hm]
   ·simp[hd]
  rw[V];clear V ht;generalize (zs (List.replicate 8 0)).toArray=Z8,(zs d).toArray=ZD at *;go_in;go_wp2_with(with_reducible refine gL 75 F9.out ?_);refine Rr (G.out _) λw1 h=> ?_;obtain⟨jH,zO⟩:=hh2 (fJ.out.trans h (by simp)) (p9.out.keep h (by simp));have xC:=ar (rZ.out _ zO.out);have aa:=IK.out;clear h F9;cases t;all_goals
   go_wp2_with(first|((with_reducible show wpList _ _ _ (⟨_,.load 73 (.tmp 9),_,_,_,_⟩::_) _ _);refine eA (by simp[Region.wanted,yielded,U]) 73 (.tmp 9) rfl _ rfl _ xC.out ?_)|(go_at_call 204;refine Rr (HR.out _) λw2 J=> ?_;have fo:=ar (jH.out.trans J (by simp));clear J));go_ret;exact⟨rfl,fo.out⟩
theorem Ua (w:World):(zeroValue 246).run prog w= .ok (.agg (bools (List.replicate 256 false)).toArray) w:=by kernel_rfl
theorem EF (l:List Int)(hl:l.length=13)(w:World):Calls prog 175 #[(zs l).toArray] w λe w'=>e=(decide (lD l))/\ay [] w w':=by
 have aa:=bh.new w (zs l).toArray 73;have hL:=fA (off:=0) (aa.alloc (.cells (bools (List.replicate 256 false)).toArray 246)) hl (λk hk=>by rw[bc,aF,gK (by omega)]);have HZ:Hid (∀k,k<13->(zs l).toArray[k]? =some (.int .i64 (l.getD k 0))):=λk hk=>by rw[aF,gK (by omega)]
 have HL:=ar hL;have HB:Hid (bh ((w.alloc (.cells (zs l).toArray 73)).alloc (.cells (bools (List.replicate 256 false)).toArray 246)) (w.heap.size+1) (bools (List.replicate 256 false)).toArray 246):=by
  have :=bh.new (w.alloc (.cells (zs l).toArray 73)) (bools (List.replicate 256 false)).toArray 246;have e:(w.alloc (.cells (zs l).toArray 73)).heap.size=w.heap.size+1:=by simp
  rw[e] at this;exact this
 have HK:Hid (ay [] w ((w.alloc (.cells (zs l).toArray 73)).alloc (.cells (bools (List.replicate 256 false)).toArray 246))):=((ay.refl _ _).alloc _).alloc _;have ac:=Ua;rw[FX l] at HB HK HL;rw[FX l] at ac;clear aa hL hl;generalize ae:(bools (sO l 0)).toArray=S0,(zs l).toArray=Z at *;go_in;go_wp2_with(with_reducible refine gL 73 HL.out ?_);clear ac HL;go_loopg [7] 13 (λgh s7 wx=>∃k:Nat,k+gh=13/\s7= .int .i64 (k:Int)/\Hid (bh wx (w.heap.size+1) (bools (sO l k)).toArray 246/\(∀i,i<k->(0<=l.getD i 0/\l.getD i 0<256)/\(l.getD i 0≠0->∀j,j<i->l.getD j 0≠l.getD i 0))/\ay [] w wx))
 case atStart=>exact⟨0,by omega,rfl,by rw[ae];exact HB.out,by simp,HK.out⟩
 case round=>
  clear HB HK ae;obtain⟨k,hk,rfl,HR⟩:=hrel;cases gk with
  |zero=>
   obtain rfl:k=13:=by omega
   have HT:Hid (decide (lD l)=true):=bu HR.out.2.1;have jr:=ar HR.out.2.2;clear HR hk;go_wp2_with fail;go_ret;exact⟨by rw[HT.out];rfl,jr.out⟩
  |succ gg=>
   have mo:k<13:=by omega
   have ak:(k:Int)<13:=by omega
   have cM:(0:Int)<=(k:Int):=by omega
   have af:=yR mo (HZ.out k mo);have HN:Hid (lD l->(0<=l.getD k 0/\l.getD k 0<256)/\(l.getD k 0≠0->∀j,j<k->l.getD j 0≠l.getD k 0)):=λh=>h k mo
   obtain⟨Ub,U,jr⟩:=hh3 (λc he=>Qa l k c he) (λc hc=>TY l k c hc) HR.out.2.2;by_cases J:l.getD k 0<0
   ·have HF:Hid (decide (lD l)=false):=aQ λh=>by have :=(HN.out h).1;omega
    clear HR HN Ub U hk;generalize l.getD k 0=x at *;go_wp2_with fail;go_ret;exact⟨by rw[HF.out];rfl,jr.out⟩
   ·by_cases z:256<=l.getD k 0
    ·have HF:Hid (decide (lD l)=false):=aQ λh=>by have :=(HN.out h).1;omega
     clear HR HN Ub U hk;generalize l.getD k 0=x at *;go_wp2_with fail;go_ret;exact⟨by rw[HF.out];rfl,jr.out⟩
    ·obtain⟨c,hc⟩:∃c:Nat,l.getD k 0=(c:Int):=⟨(l.getD k 0).toNat,by omega⟩
     rw[hc] at af J z;have W:c<256:=by omega
     have ai:(c:Int)<256:=by omega
     have ah:(0:Int)<=(c:Int):=by omega
     obtain⟨hb,G,-⟩:=HR.out;have V:wr.cell? ⟨w.heap.size+1,c,none⟩=some (.bool ((sO l k).getD c false)):=by
      rw[hb.cell,aF,uM (by rw[yT];exact W)]
     have hf:wr.frozen? ⟨w.heap.size+1,c,none⟩=false:=hb.frozen c;have oP:Hid (bh (wr.setCell ⟨w.heap.size+1,c,none⟩ (.bool true)) (w.heap.size+1) (bools (sO l (k+1))).toArray 246):=by
      have :=hb.set c (.bool true);rw[ag,Cs,Ub.out c hc] at this;exact this
     have Ga:=U.out c W;have xo:=ar G;by_cases h0:c=0
     ·subst h0
      have XO:Hid (∀i,i<k+1->(0<=l.getD i 0/\l.getD i 0<256)/\(l.getD i 0≠0->∀j,j<i->l.getD j 0≠l.getD i 0)):=λi hi=>by
       by_cases e:i=k
       ·subst e
        rw[hc];exact⟨by decide,λh=>absurd rfl h⟩
       ·exact xo.out i (by omega)
      clear HR HN Ub U hb G Ga xo J z hc;generalize (sO l k).getD 0 false=sv at *;go_wp2_with fail;go_roundg gg;case measure=>omega
      case rel=>exact⟨k+1,by omega,by go_num,oP.out,XO.out,jr.out.setCell (by simp) _⟩
     ·have au:((c:Int) != 0)=true:=by simp;omega
      cases hsv:(sO l k).getD c false
      ·have XO:Hid (∀i,i<k+1->(0<=l.getD i 0/\l.getD i 0<256)/\(l.getD i 0≠0->∀j,j<i->l.getD j 0≠l.getD i 0)):=λi hi=>by
        by_cases e:i=k
        ·subst e
         rw[hsv] at Ga;have aj:=of_decide_eq_false Ga.symm;rw[hc];exact⟨⟨ah,ai⟩,λ_ j hj e=>aj ⟨j,hj,e⟩⟩
        ·exact xo.out i (by omega)
       rw[hsv] at V;clear HR HN Ub U hb G Ga xo J z hc hsv;go_wp2_with fail;go_roundg gg;case measure=>omega
       case rel=>exact⟨k+1,by omega,by go_num,oP.out,XO.out,jr.out.setCell (by simp) _⟩
      ·rw[hsv] at Ga V
       obtain⟨j,hj,he⟩:=of_decide_eq_true Ga.symm;have HF:Hid (decide (lD l)=false):=aQ λh=>(HN.out h).2 (by omega) j hj (by rw[he,hc])
       clear HR HN Ub U hb G Ga xo J z hc hsv hk he;go_wp2_with fail;go_ret;exact⟨by rw[HF.out];rfl,jr.out⟩
theorem K2 (n:bT)(a:Option Addr)(cap:Nat)(V:n.B.length=13)(w:World):Calls prog 143 #[aM n (.slice a n.E.length cap)] w λe w'=>e=(decide (qT n))/\ay [] w w':=by
 obtain⟨Z,hZ⟩:∃Z,Z=aM n (.slice a n.E.length cap):=⟨_,rfl⟩;have U:Sk Z n (.slice a n.E.length cap):=by rw[hZ];exact gG _ V
 rw[<-hZ];have W:=bh.new w Z 75;have c3:(w.alloc (.cells Z 75)).cell? ⟨w.heap.size,3,none⟩=some (.int .i64 n.S):=by rw[W.cell];exact U.f3
 have aa:(w.alloc (.cells Z 75)).cell? ⟨w.heap.size,17,none⟩=some (.slice a n.E.length cap):=by rw[W.cell];exact U.f5
 have HK:Hid (ay [] w (w.alloc (.cells Z 75))):=(ay.refl [] w).alloc _;have p9:=ar W;have rZ:Hid (∀z:World,bh z w.heap.size Z 75->(loadVar 73 ⟨w.heap.size,4,none⟩).run prog z= .ok (.agg (zs n.B).toArray) z):=λz hb=>fA (off:=4) hb V U.f4
 have JJ:Hid (∀z:World,bh z w.heap.size Z 75->(loadVar 3 ⟨w.heap.size,3,none⟩).run prog z= .ok (.int .i64 n.S) z):=λz hb=>FY (off:=3) underlying3 hb U.f3
 clear W hZ;by_cases h0:n.S<0
 ·have HF:Hid (decide (qT n)=false):=aQ λh=>by have :=h.1.1;omega
  generalize n.S=s at *;clear V;go_in;go_wp2_with fail;go_ret;exact⟨by rw[HF.out];rfl,HK.out⟩
 ·by_cases h1:832<n.S
  ·have HF:Hid (decide (qT n)=false):=aQ λh=>by have :=h.1.2;omega
   generalize n.S=s at *;clear V;go_in;go_wp2_with fail;go_ret;exact⟨by rw[HF.out];rfl,HK.out⟩
  ·by_cases h2:n.E.length=0
   ·have HP:=ar (Bo n.S.toNat 64 (by omega) (by omega) (by omega))
    have Uc:bL n.S.toNat<=13:=by unfold bL;omega
    rw[show(n.S.toNat+64-1)/64=bL n.S.toNat by unfold bL;congr 1] at HP;obtain⟨HU,HN,HE⟩:=hh3 (Su n.B (bL n.S.toNat) V Uc) (EF n.B V) (λz=>P9 (a:=n.B) (b:=jh n.B (bL n.S.toNat)) V (nQ V Uc) z);have ae:=CF;have HD:Hid (decide (qT n)=(decide (n.B=jh n.B (bL n.S.toNat))&&decide (lD n.B))):=by
     have M5:qT n↔(n.B=jh n.B (bL n.S.toNat)/\lD n.B):=⟨λh=>⟨h.2.2.1,h.2.2.2⟩,λh=>⟨⟨by omega,by omega⟩,h2,h.1,h.2⟩⟩;show _=_;rw[decide_eq_decide.2 M5,Bool.decide_and]
    obtain⟨s,hs⟩:∃s:Nat,n.S=(s:Int):=⟨n.S.toNat,by omega⟩;rw[h2] at aa;rw[hs] at h0 h1 c3 JJ HP HD HE HU Uc;rw[aG] at HP HU HE HD Uc;generalize bL s=p at *;obtain⟨t,ht⟩:∃t,decide (n.B=jh n.B p)=t:=⟨_,rfl⟩;rw[ht] at HD HE;generalize decide (lD n.B)=q,(zs (jh n.B p)).toArray=ZU,(zs n.B).toArray=ZB at *;have ac:=HE.out;clear ht V hs HE h2 U;cases t;all_goals
     go_in;go_wp2_with fail;refine ju (S:=λz=>ay [] (w.alloc (.cells Z 75)) z) ((ay.refl _ _).drew) ?_;repeat (
      (first
      |(refine aU.cons (.agg ZB) (bR.load rfl 73 (.tmp 17) rfl _ rfl λz J=>rZ.out _ (p9.out.keep J (by simp))) ?_)
      |(refine aU.cons (.agg ZB) (bR.load rfl 73 (.tmp 19) rfl _ rfl λz J=>rZ.out _ (p9.out.keep J (by simp))) ?_)
      |(refine aU.cons _ (bR.load rfl 3 (.tmp 21) rfl _ rfl λz J=>JJ.out _ (p9.out.keep J (by simp))) ?_)
      |(refine aU.cons (.int .i64 (p:Int)) (bR.call rfl 174 #[(s:Int),(64:Int)] ?G ?h) ?_;(case G=>(intro wz;go_simp));(case h=>exact λz J=>(HP.out z).mono λe w' G=>⟨G.1,by rw[<-G.2];exact J⟩))
      |(refine aU.cons (.agg ZU) (bR.call rfl 173 #[ZB,(p:Int)] ?G ?h) ?_;(case G=>(intro wz;go_simp));(case h=>exact λz J=>(HU.out z).mono λe w' G=>⟨G.1,J.trans' G.2⟩))
      |(refine aU.cons (.agg ZB) (bR.load rfl 73 (.tmp 27) rfl _ rfl λz J=>rZ.out _ (p9.out.keep J (by simp))) ?_)
      |(refine aU.cons (.bool q) (bR.call rfl 175 #[ZB] ?G ?h) ?_;(case G=>(intro wz;go_simp));(case h=>exact λz J=>(HN.out z).mono λe w' G=>⟨G.1,J.trans' G.2⟩))
      |(refine aU.cons undef (bR.off rfl) ?_)
      |(refine aU.cons ?_ (bR.val rfl ?h) ?_;(case h=>(intro z J;go_simp;rfl))));simp only[Act.put,ag,ah,ai])
     refine aU.done λwz hz=> ?_
     have HZ:=ar (HK.out.trans' hz);clear hz;go_wp2_with fail;go_ret;exact⟨by rw[HD.out];rfl,HZ.out⟩
   ·have HF:Hid (decide (qT n)=false):=aQ λh=>h2 h.2.1
    have e2:((n.E.length:Nat):Int)≠0:=by omega
    have e3:(((n.E.length:Nat):Int) != 0)=true:=bne_iff_ne.2 e2;generalize n.S=s,n.E.length=m at *;clear V U;go_in;go_wp2_with fail;go_ret;exact⟨by rw[HF.out];rfl,HK.out⟩
def adC (l:List Int):Prop:=∀k,0<=l.getD k 0/\l.getD k 0<9223372036854775808
theorem nC{x:Int}(z:0<=x)(h:x<9223372036854775808):IntKind.u64.wrap x=x:=by rw[fY];omega
theorem Qi (l:List Int)(hl:l.length=13)(hn:adC l)(w:World):Calls prog 184 #[(zs l).toArray] w λe w'=>e=(aY (l.drop 5)).toArray/\ay [] w w':=by
 have V:(l.drop 5).length=8:=by simp[hl]
 have aa:Hid (∀k,0<=(l.drop 5).getD k 0/\(l.drop 5).getD k 0<9223372036854775808):=λk=>by
  have :=hn (5+k);simpa[aj] using this
 have HR:=ar (K1 l hl);have W:=bh.new w (zs l).toArray 73;have xE:(aY (List.replicate 8 0)).toArray=(aY (dM 0 (l.drop 5) 0)).toArray:=by rw[kJ,V]
 obtain⟨U,h⟩:∃U,U=((w.alloc (.cells (zs l).toArray 73)).alloc (.cells (aY (List.replicate 8 0)).toArray 132)).alloc (.cells (aY (List.replicate 8 0)).toArray 132):=⟨_,rfl⟩;have oP:Hid (bh U (w.heap.size+1) (aY (List.replicate 8 0)).toArray 132):=by
  have :=(bh.new (w.alloc (.cells (zs l).toArray 73)) (aY (List.replicate 8 0)).toArray 132).alloc (.cells (aY (List.replicate 8 0)).toArray 132);have e:(w.alloc (.cells (zs l).toArray 73)).heap.size=w.heap.size+1:=by simp
  rw[e,<-h] at this;exact this
 have qK:Hid (bh U (w.heap.size+2) (aY (dM 0 (l.drop 5) 0)).toArray 132):=by
  have :=bh.new ((w.alloc (.cells (zs l).toArray 73)).alloc (.cells (aY (List.replicate 8 0)).toArray 132)) (aY (List.replicate 8 0)).toArray 132;have e:((w.alloc (.cells (zs l).toArray 73)).alloc (.cells (aY (List.replicate 8 0)).toArray 132)).heap.size=w.heap.size+2:=by simp
  rw[e,<-h,xE] at this;exact this
 have HK:Hid (ay [] w U):=by
  show ay _ _ _;rw[h];exact(((ay.refl [] w).alloc _).alloc _).alloc _
 have HL:Hid ((loadVar 73 w.heap.size).run prog U= .ok (.agg (zs l).toArray) U):=by
  rw[h];exact fA (off:=0) ((W.alloc _).alloc _) hl (λk hk=>by rw[bc,aF,gK (by omega)])
 have HX:Hid (∀k,k<8->(zs (l.drop 5)).toArray[k]? =some (.int .i64 ((l.drop 5).getD k 0))):=λk hk=>by rw[aF,gK (by omega)]
 have ai:=lq;have ry:=ar h;clear W xE hn h;generalize l.drop 5=d,(zs l).toArray=Z at *;generalize (zs d).toArray=D,vZ:(aY (List.replicate 8 0)).toArray=Z8 at *;clear hl;go_in;go_wp2_with((with_reducible show wpList _ _ _ (⟨_,.load 73 (.tmp 1),_,_,_,_⟩::_) _ _);rw[<-ry.out];refine gJ rfl 73 (.tmp 1) rfl _ rfl _ HL.out ?_);refine Rr (HR.out _) λw1 G=> ?_;obtain⟨ae,af,jH⟩:=hh3 (oP.out.keep G (by simp)) (qK.out.keep G (by simp)) (HK.out.trans' G);clear G ry oP qK HL;go_wp2_with fail;go_loopg [8] 8 (λgh s8 wx=>∃k:Nat,k+gh=8/\s8= .int .i64 (k:Int)/\Hid (bh wx (w.heap.size+2) (aY (dM 0 d k)).toArray 132/\bh wx (w.heap.size+1) Z8 132/\ay [] w wx))
 case atStart=>exact⟨0,by omega,rfl,af.out,ae.out,jH.out⟩
 case round=>
  clear ae af HK jH ai;obtain⟨k,hk,rfl,z⟩:=hrel;cases gk with
  |zero=>
   obtain rfl:k=8:=by omega
   have J:=z.out.1;rw[show dM 0 d 8=d by rw[<-V];exact lR 0 d] at J;have HL:=ar (fN J V);obtain⟨w2,hS,ah,ac⟩:=bG (P:= prog) (ty:= 132) (cs:=aY d) (by rw[bB,V];exact ja) z.out.2.1 (by rw[<-vZ];simp[bB,V]) (fk _);obtain⟨HS,rN,jr⟩:=hh3 hS (fN ah V) (z.out.2.2.trans ac (by simp));clear hS J ah ac z hk;go_wp2_with(with_reducible first|refine gL 132 HL.out ?_|refine gS 132 HS.out ?_);exact aI (bA results184 rfl rN.out) rfl ⟨rfl,jr.out⟩
  |succ gg=>
   have uA:k<8:=by omega
   have av:(k:Int)<8:=by omega
   have cM:(0:Int)<=(k:Int):=by omega
   have Iu:=XC uA (HX.out k uA);have hw:=nC (aa.out k).1 (aa.out k).2;have ak:wr.cell? ⟨w.heap.size+2,k,none⟩=some (.int .u64 ((dM 0 d k).getD k 0)):=by
    rw[z.out.1.cell,aF,dF (by rw[kT _ _ _ (by omega)];omega)]
   have hf:wr.frozen? ⟨w.heap.size+2,k,none⟩=false:=z.out.1.frozen k;have HB:Hid (bh (wr.setCell ⟨w.heap.size+2,k,none⟩ (.int .u64 (d.getD k 0))) (w.heap.size+2) (aY (dM 0 d (k+1))).toArray 132):=by
    have :=z.out.1.set k (.int .u64 (d.getD k 0));rw[ag,lI,kM 0 d k (by omega) (d.getD k 0) (by simp[show k<d.length by omega])] at this;exact this
   have au:Hid (bh (wr.setCell ⟨w.heap.size+2,k,none⟩ (.int .u64 (d.getD k 0))) (w.heap.size+1) Z8 132):=z.out.2.1.other (by simp) _;have jr:=ar z.out.2.2;clear z;generalize d.getD k 0=x,(dM 0 d k).getD k 0=y at *;go_wp2_with fail;go_roundg gg;case measure=>omega
   case rel=>exact⟨k+1,by omega,by go_num,HB.out,au.out,jr.out.setCell (.inr (by show w.heap.size<=w.heap.size+2;omega)) _⟩
end
end Go.Proofs.YtimcfdnbpkiniaaGreatDoor
