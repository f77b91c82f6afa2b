/-
  A region that draws its order, whose operations each give one value in every world that meets S, and leave such a world: it is walked in the order of the text. A last operation, for which all others wait, may do what it likes. Nothing of the program is named here. Layer 7 (fmt2): isBlock, runWord, Runs. Layer 6 (fmt1): parts, upTo, rest, entryBlocks, need. Layer 6 (fmt1): rightNumbers, rightFile. Layer 6 (fmt1): rightFile. Layer 6 (fmt1): listRow.
-/
import Derived.OrdersHeld
import Derived.WalkKit
import Derived.Test.YtphojondgfjmgaaGreatDoorG02
import Derived.Test.YtphojondgfjmgaaGreatDoorG00
import Derived.WalkMore
import Derived.Laws.BitsAllLaws
namespace Go.Proofs.YtphojondgfjmgaaGreatDoor
section
variable {P:Program} {ops:Array Oper} {Q:Exit→Act→World→Prop} {md:Region.Mode} {S:World→Prop}
def Steps (P:Program) (S:World→Prop) (v:Value):Result Next→Prop
 | .ok (.value u) w'=>u=v∧S w'
 | .ok .skip w'=>v=undef∧S w'
 | .ok (.enter f args) w'=>Calls P f args w' λe w''=>e= .returned v∧S w''
 |_=>False
def EachIf (P:Program) (ops:Array Oper) (S:World→Prop) (o:Oper) (v:Value) (a:Act):Prop:=
 (Region.wanted o (yielded ops a.tmps)=true∧∀w,S w→Steps P S v ((execOp a.eval o).run P w))∨(Region.wanted o (yielded ops a.tmps)=false∧v=undef)
theorem EachIf.of_same {o:Oper} {v:Value} {a a':Act} (hy:EachIf P ops S o v a) (he:execOp a'.eval o=execOp a.eval o)
  (hw:Region.wanted o (yielded ops a'.tmps)=Region.wanted o (yielded ops a.tmps)):EachIf P ops S o v a':=by
 unfold EachIf at *
 rw[he,hw]
 exact hy
theorem EachIf.wpOp {i:Nat} {o:Oper} {v:Value} {a:Act} (hi:ops[i]? =some o) (hy:EachIf P ops S o v a) {K:Act→World→Prop} {w:World} (hS:S w) (h:∀w',S w'→K (a.put o.dst v) w'):wpOp P ops Q i K a w:=by
 unfold Go.wpOp
 simp only[hi]
 rcases hy with ⟨hw,hv⟩|⟨hw,rfl⟩
 ·have h1:=hv w hS
  simp only[hw,if_true]
  refine .inl ?_
  unfold Oper.wp
  generalize (execOp a.eval o).run P w=r at *
  cases r with
  |ok n w'=>
   cases n with
   |value u=>obtain⟨rfl,h2⟩:=h1;exact h _ h2
   |skip=>obtain⟨rfl,h2⟩:=h1;exact h _ h2
   |enter f args=>
    refine Calls.mono h1 λe w'' he=> ?_
    obtain⟨rfl,h2⟩:=he
    exact h _ h2
   |_=>exact h1.elim
  |halt x w'=>exact h1.elim
 ·simp only[hw,Bool.false_eq_true,if_false];exact h _ hS
def Each2 (P:Program) (ops:Array Oper) (S S':World→Prop) (o:Oper) (v:Value) (a:Act):Prop:=
 Region.wanted o (yielded ops a.tmps)=true∧∀w,S w→Steps P S' v ((execOp a.eval o).run P w)
theorem Each2.wpOp {S S':World→Prop} {i:Nat} {o:Oper} {v:Value} {a:Act} (hi:ops[i]? =some o) (hy:Each2 P ops S S' o v a) {K:Act→World→Prop} {w:World} (hS:S w) (h:∀w',S' w'→K (a.put o.dst v) w'):wpOp P ops Q i K a w:=by
 unfold Go.wpOp
 simp only[hi]
 obtain⟨hw,hv⟩:=hy
 have h1:=hv w hS
 simp only[hw,if_true]
 refine .inl ?_
 unfold Oper.wp
 generalize (execOp a.eval o).run P w=r at *
 cases r with
 |ok n w'=>
  cases n with
  |value u=>obtain⟨rfl,h2⟩:=h1;exact h _ h2
  |skip=>obtain⟨rfl,h2⟩:=h1;exact h _ h2
  |enter f args=>
   refine Calls.mono h1 λe w'' he=> ?_
   obtain⟨rfl,h2⟩:=he
   exact h _ h2
  |_=>exact h1.elim
 |halt x w'=>exact h1.elim
def EachB (P:Program) (ops:Array Oper) (S:Bool→World→Prop) (o:Oper) (v:Value) (a:Act):Prop:=∀b,EachIf P ops (S b) o v a
theorem wpOp_putEach {S:Bool→World→Prop} {j:Nat} {oi oj:Oper} {v:Value} (hj:ops[j]? =some oj) (hap:oi.apart ops oj=true)
  (hsi:∀cs b,oi.op≠.select cs b) (hsj:∀cs b,oj.op≠.select cs b)
  (hQ:∀c a w,Q (.panic c) (a.put oi.dst v) w→Q (.panic c) a w) {K:Act→World→Prop} {a:Act} {w:World}
  (hy:EachB P ops S oi v a) (h:wpOp P ops Q j K (a.put oi.dst v) w):
  wpOp P ops Q j (λa' w'=>EachB P ops S oi v a'∧K (a'.put oi.dst v) w') a w:=by
 obtain⟨h1,h2,h3⟩:=Oper.apart_spec hap
 have keep:∀(a:Act),EachB P ops S oi v a→∀u,EachB P ops S oi v (a.put oj.dst u):=λa hy u=>
  λb=>(hy b).of_same (execOp_put oi hsi a oj.dst u h3) (wanted_put oi a oj.dst u h3)
 have keepD:∀d,EachB P ops S oi v { a with defers:=d::a.defers }:=λd=>λb=>(hy b).of_same rfl rfl
 unfold Go.wpOp at *
 simp only[hj] at *
 rw[wanted_put oj a oi.dst v h1] at h
 split
 ·rename_i hw
  simp only[hw,if_true] at h
  rcases h with h|⟨hasks,hlets⟩
  case inr=>exact .inr ⟨by unfold Oper.asks at *;rw[execOp_put oj hsj a oi.dst v h1] at hasks;exact hasks,hlets⟩
  refine .inl ?_
  unfold Oper.wp at *
  rw[execOp_put oj hsj a oi.dst v h1] at h
  generalize (execOp a.eval oj).run P w=r at *
  cases r with
  |ok n w'=>
   cases n<;>simp only[Oper.upon] at h ⊢
   case value u=>exact⟨keep a hy u,by rw[←Act.put_comm a v u h2];exact h⟩
   case skip=>exact⟨keep a hy _,by rw[←Act.put_comm a v undef h2];exact h⟩
   case defer d=>
    refine⟨keep _ (keepD d) _,?_⟩
    rw[←Act.put_comm _ v undef h2,←Act.put_defers]
    exact h
   case enter f args=>
    refine Calls.mono h λe w'' he=> ?_
    cases e with
    |returned u=>exact⟨keep a hy u,by rw[←Act.put_comm a v u h2];exact he⟩
    |panicked c=>exact hQ _ _ _ he
    |outgrown=>exact he
   case row row args=>exact Rows.mono h λu w'' he=>⟨keep a hy u,by rw[←Act.put_comm a v u h2];exact he⟩
  |halt x w'=>
   cases x<;>simp only[Oper.upon] at h ⊢
   case panic u=>exact hQ _ _ _ h
 ·rename_i hw
  simp only[hw] at h
  exact⟨keep a hy _,by rw[←Act.put_comm a v undef h2];exact h⟩
def Closed (md:Region.Mode) (ops:Array Oper) (listed:Array Bool):Prop:=
 ∀k o,ops[k]? =some o→listed.getD k true=true→∀e∈o.after,Region.binds md e=true→listed.getD e.on false=true
def leads (md:Region.Mode) (ops:Array Oper):Nat→Nat→Nat→Bool
 |0,_,_=>false
 |fuel+1,i,L=>(List.range ops.size).any λk=>k != i&&((ops[k]?).map (·.after.any λe=>Region.binds md e&&e.on==i)).getD false&&(k==L||leads md ops fuel k L)
theorem getD_flip {listed:Array Bool} {i:Nat} (h:listed.getD i true=false):listed.getD i false=false:=by
 rcases Nat.lt_or_ge i listed.size with h'|h'
 ·simp[h'] at h ⊢;exact h
 ·simp[Array.getElem?_eq_none h'] at h
theorem leads_waits {listed:Array Bool} (hc:Closed md ops listed):∀(fuel i L:Nat),leads md ops fuel i L=true→listed.getD i true=false→L∉Region.ready md ops listed:=by
 intro fuel
 induction fuel with
 |zero=>intro i L h;simp[leads] at h
 |succ fuel ih=>
  intro i L h hi
  unfold leads at h
  rw[List.any_eq_true] at h
  obtain⟨k,-,hk⟩:=h
  simp only[Bool.and_eq_true,Bool.or_eq_true,bne_iff_ne,ne_eq] at hk
  obtain⟨⟨-,hk1⟩,hk2⟩:=hk
  cases ho:ops[k]? with
  |none=>simp[ho] at hk1
  |some o=>
   have hk1':o.after.any (λe=>Region.binds md e&&e.on==i)=true:=by simpa[ho] using hk1
   obtain⟨e,he,heb⟩:=Array.any_eq_true'.1 hk1'
   simp only[Bool.and_eq_true,beq_iff_eq] at heb
   obtain⟨hb,hon⟩:=heb
   have hun:listed.getD e.on false=false:=by rw[hon];exact getD_flip hi
   by_cases hkL:k=L
   ·subst hkL
    intro hm
    obtain⟨-,o',ho',hall⟩:=mem_ready.1 hm
    rw[ho] at ho'
    cases ho'
    rw[hall e he hb] at hun
    cases hun
   ·rcases hk2 with hk2|hk2
    ·exact absurd (by simpa using hk2) hkL
    ·refine ih k L hk2 ?_
     cases hl:listed.getD k true with
     |false=>rfl
     |true=>
      rw[hc k o ho hl e he hb] at hun
      cases hun
theorem closed_set {listed:Array Bool} {j:Nat} (hc:Closed md ops listed) (hj:j∈Region.ready md ops listed):Closed md ops (listed.setIfInBounds j true):=by
 intro k o ho hl e he hb
 by_cases hjk:j=k
 ·subst hjk
  obtain⟨-,o',ho',hall⟩:=mem_ready.1 hj
  rw[ho] at ho'
  cases ho'
  exact getD_set_true (hall e he hb)
 ·rw[Go.getD_set_ne true hjk] at hl
  exact getD_set_true (hc k o ho hl e he hb)
def wpAnyU (P:Program) (md:Region.Mode) (ops:Array Oper) (Q:Exit→Act→World→Prop) (S:Bool→World→Prop) (F L:Nat):Nat→Array Bool→Act→Prop
 |0,listed,a=>Region.ready md ops listed=[]∧∀w,S (listed.getD F false) w→Q .normal a w
 |fuel+1,listed,a=>
  (Region.ready md ops listed=[]→∀w,S (listed.getD F false) w→Q .normal a w)∧
  (∀i∈Region.ready md ops listed,i≠L→∀w,S (listed.getD F false) w→wpOp P ops Q i (λa' w'=>S ((listed.setIfInBounds i true).getD F false) w'∧wpAnyU P md ops Q S F L fuel (listed.setIfInBounds i true) a') a w)∧
  (L∈Region.ready md ops listed→∀w,S (listed.getD F false) w→wpOp P ops Q L (wpAny P md ops Q fuel (listed.setIfInBounds L true)) a w)
theorem wpAny_of_U {S:Bool→World→Prop} {F L:Nat}:∀(fuel:Nat) (listed:Array Bool) (a:Act),wpAnyU P md ops Q S F L fuel listed a→∀w,S (listed.getD F false) w→wpAny P md ops Q fuel listed a w
 |0,_,_,h,w,hS=>⟨h.1,h.2 w hS⟩
 |fuel+1,listed,a,h,w,hS=>by
  refine⟨λh0=>h.1 h0 w hS,λi hi=> ?_⟩
  by_cases hL:i=L
  ·subst hL
   exact h.2.2 hi w hS
  ·exact wpOp_mono (λa' w' h'=>wpAny_of_U fuel _ a' h'.2 w' h'.1) (h.2.1 i hi hL w hS)
theorem getD_set_false {listed:Array Bool} {i j:Nat} (h:i≠j):(listed.setIfInBounds i true).getD j false=listed.getD j false:=by
 simp[Array.getElem?_setIfInBounds_ne h]
theorem wpAnyU_first {S:Bool→World→Prop} {i F L:Nat} {oi:Oper} {v:Value} (hi:ops[i]? =some oi) (hiL:i≠L) (hiF:i≠F) (hsel:∀(j:Nat) (o:Oper) cs b,ops[j]? =some o→o.op≠.select cs b)
  (hQ:∀c a w,Q (.panic c) (a.put oi.dst v) w→Q (.panic c) a w) (hL:L≥ops.size∨leads md ops ops.size i L=true):
  ∀(fuel:Nat) (listed:Array Bool) (a:Act),Closed md ops listed→
   (∀j oj,ops[j]? =some oj→j≠i→listed.getD j true=false→(∀e∈oj.after,Region.binds md e=true→e.on≠i)→oi.apart ops oj=true)→
   i∈Region.ready md ops listed→EachB P ops S oi v a→
   wpAnyU P md ops Q S F L fuel (listed.setIfInBounds i true) (a.put oi.dst v)→wpAnyU P md ops Q S F L (fuel+1) listed a:=by
 have noL:∀listed:Array Bool,Closed md ops listed→i∈Region.ready md ops listed→L∉Region.ready md ops listed:=by
  intro listed hc hr hm
  rcases hL with hL|hL
  ·obtain⟨-,o,ho,-⟩:=mem_ready.1 hm
   rw[Array.getElem?_eq_none hL] at ho
   cases ho
  ·exact leads_waits hc _ i L hL (mem_ready.1 hr).1 hm
 intro fuel
 induction fuel with
 |zero=>
  intro listed a hc _ hr hy H
  refine⟨λh=>(by rw[h] at hr;cases hr),λj hj _ w hS=> ?_,λhm=>absurd hm (noL listed hc hr)⟩
  by_cases hji:j=i
  ·subst hji;exact(hy _).wpOp hi hS λw' hS'=>⟨by rw[getD_set_false hiF];exact hS',H⟩
  ·have :=ready_mono hj hji
   rw[H.1] at this
   cases this
 |succ fuel ih=>
  intro listed a hc hfree hr hy H
  refine⟨λh=>(by rw[h] at hr;cases hr),λj hj hjL w hS=> ?_,λhm=>absurd hm (noL listed hc hr)⟩
  by_cases hji:j=i
  ·subst hji;exact(hy _).wpOp hi hS λw' hS'=>⟨by rw[getD_set_false hiF];exact hS',H⟩
  ·have h1:=H.2.1 j (ready_mono hj hji) hjL w (by rw[getD_set_false hiF];exact hS)
   obtain⟨hjun,oj,hoj,hall⟩:=mem_ready.1 hj
   have hnot:∀e∈oj.after,Region.binds md e=true→e.on≠i:=λe he hb heq=>by
    have h1:=hall e he hb
    have h0:=(mem_ready.1 hr).1
    rw[heq] at h1
    rw[getD_flip h0] at h1
    cases h1
   have h2:=wpOp_putEach hoj (hfree j oj hoj hji hjun hnot) (λcs b=>hsel i oi cs b hi) (λcs b=>hsel j oj cs b hoj) hQ hy h1
   have hfree':∀k ok,ops[k]? =some ok→k≠i→(listed.setIfInBounds j true).getD k true=false→
     (∀e∈ok.after,Region.binds md e=true→e.on≠i)→oi.apart ops ok=true:=λk ok hk hki hun hno=>by
    refine hfree k ok hk hki ?_ hno
    by_cases hjk:j=k
    ·subst hjk;exact hjun
    ·rw[Go.getD_set_ne true hjk] at hun;exact hun
   refine wpOp_mono (λa' w' h3=> ?_) h2
   obtain⟨h4,h5,h6⟩:=h3
   rw[Array.setIfInBounds_comm _ _ (Ne.symm hji)] at h6
   rw[Array.setIfInBounds_comm _ _ (Ne.symm hji),getD_set_false hiF] at h5
   exact⟨h5,ih (listed.setIfInBounds j true) a' (closed_set hc hj) hfree' (ready_mono hr (Ne.symm hji)) h4 h6⟩
def listedTo (n i:Nat):Array Bool:=((List.range n).map λk=>decide (k<i)).toArray
theorem listedTo_set (n i:Nat):(listedTo n i).setIfInBounds i true=listedTo n (i+1):=by
 apply Array.ext
 ·simp[listedTo]
 ·intro k h1 h2
  simp only[listedTo,List.setIfInBounds_toArray,List.getElem_toArray,List.getElem_set,List.getElem_map,List.getElem_range]
  by_cases h:i=k
  ·subst h;simp
  ·rw[if_neg h]
   exact decide_eq_decide.2 ⟨λh=>by omega,λh'=>by omega⟩
theorem listedTo_zero (n:Nat):listedTo n 0=Array.replicate n false:=by
 apply Array.ext
 ·simp[listedTo]
 ·intro k h1 h2
  simp[listedTo]
def textB (md:Region.Mode) (ops:Array Oper) (m L:Nat):Bool:=
 Region.noSelect ops&&(List.range m).all λi=>Region.free md ops (listedTo ops.size i) i&&(Region.ready md ops (listedTo ops.size i)).contains i&&(decide (ops.size≤L)||leads md ops ops.size i L)
theorem closed_to {m L:Nat} (h:textB md ops m L=true):∀i,i≤m→Closed md ops (listedTo ops.size i):=by
 intro i
 induction i with
 |zero=>
  intro _ k o ho hl
  rw[listedTo_zero] at hl
  have hk:k<ops.size:=(Array.getElem?_eq_some_iff.1 ho).1
  simp[hk] at hl
 |succ i ih=>
  intro hi
  rw[←listedTo_set]
  simp only[textB,Bool.and_eq_true,List.all_eq_true,List.mem_range] at h
  exact closed_set (ih (by omega)) (by simpa using (h.2 i (by omega)).1.2)
def EachList (P:Program) (ops:Array Oper) (S:World→Prop) (E:Act→World→Prop):List Oper→Act→Prop
 | [],a=>∀w,S w→E a w
 |o::rest,a=>∃v,EachIf P ops S o v a∧EachList P ops S E rest (a.put o.dst v)
def EachListB (P:Program) (ops:Array Oper) (S:Bool→World→Prop) (E:Act→Prop):List Oper→Act→Prop
 | [],a=>E a
 |o::rest,a=>∃v,EachB P ops S o v a∧EachListB P ops S E rest (a.put o.dst v)
theorem EachList.toB {E:Act→World→Prop}:∀(l:List Oper) (a:Act),EachList P ops S E l a→EachListB P ops (λ_=>S) (λa=>∀w,S w→E a w) l a
 | [],_,h=>h
 |_::l,_,⟨v,h1,h2⟩=>⟨v,λ_=>h1,EachList.toB l _ h2⟩
theorem eachU {S:Bool→World→Prop} {m F L:Nat} (ht:textB md ops m L=true) (hmL:m≤L) (hmF:m≤F) (hQ:∀d v c a w,Q (.panic c) (Act.put a d v) w→Q (.panic c) a w) {E:Act→Prop}
  (hend:∀a,E a→wpAnyU P md ops Q S F L (ops.size-m) (listedTo ops.size m) a):
  ∀(l:List Oper) (i:Nat) (a:Act),i+l.length=m→m≤ops.size→(∀k,k<l.length→ops[i+k]? =l[k]?)→EachListB P ops S E l a→wpAnyU P md ops Q S F L (ops.size-i) (listedTo ops.size i) a:=by
 have ht':=ht
 simp only[textB,Bool.and_eq_true,List.all_eq_true,List.mem_range] at ht'
 intro l
 induction l with
 |nil=>
  intro i a hl hm _ h
  obtain rfl:i=m:=by simpa using hl
  exact hend a h
 |cons o rest ih=>
  intro i a hl hm hops h
  rw[List.length_cons] at hl
  obtain⟨v,hv,hr⟩:=h
  have ho:ops[i]? =some o:=by simpa using hops 0 (by simp)
  obtain⟨⟨c1,c2⟩,c3⟩:=ht'.2 i (by omega)
  have hrec:=ih (i+1) (a.put o.dst v) (by omega) hm (λk hk=>by
   have :=hops (k+1) (by simpa using hk)
   rw[show i+1+k=i+(k+1) by omega,this]
   simp) hr
  rw[←listedTo_set] at hrec
  rw[show ops.size-i=(ops.size-(i+1))+1 by omega]
  refine wpAnyU_first ho (by omega) (by omega) (Region.noSelect_spec ht'.1) (hQ o.dst v) ?_ _ _ a (closed_to ht i (by omega)) (Region.free_spec ho c1) (by simpa using c2) hv hrec
  simp only[Bool.or_eq_true,decide_eq_true_eq] at c3
  exact c3
theorem wp_region_each {id:Nat} {a:Act} {w:World} (hm:P.follows .mixedOrders=true) (ht:textB .any ops ops.size ops.size=true) (hQ:∀d v c a w,Q (.panic c) (Act.put a d v) w→Q (.panic c) a w) (hS:S w.drew)
  (hready:Region.ready .any ops (listedTo ops.size ops.size)=[]) (h:EachList P ops S (Q .normal) ops.toList a):(Code.region id ops true).wp P Q a w:=by
 refine wp_region_any hm ?_
 rw[←listedTo_zero]
 refine wpAny_of_U (S:=λ_=>S) (F:=ops.size) (L:=ops.size) _ _ _ ?_ _ hS
 refine eachU (m:=ops.size) ht (Nat.le_refl _) (Nat.le_refl _) hQ (E:=λa=>∀w,S w→Q .normal a w) (λa h=> ?_) ops.toList 0 a (by simp) (Nat.le_refl _) (λk hk=>by simp) (EachList.toB _ _ h)
 rw[Nat.sub_self]
 exact⟨hready,h⟩
theorem tail_any:∀(l:List Oper) (i:Nat) (a:Act) (w:World),i+l.length=ops.size→(∀k,k<l.length→ops[i+k]? =l[k]?)→(∀j,i≤j→j<ops.size→Region.ready md ops (listedTo ops.size j)=[j])→
  Region.ready md ops (listedTo ops.size ops.size)=[]→wpList P ops Q l a w→wpAny P md ops Q (ops.size-i) (listedTo ops.size i) a w:=by
 intro l
 induction l with
 |nil=>
  intro i a w hl _ _ hr h
  obtain rfl:i=ops.size:=by simpa using hl
  rw[Nat.sub_self]
  exact⟨hr,h⟩
 |cons o rest ih=>
  intro i a w hl hops hready hr h
  rw[List.length_cons] at hl
  have ho:ops[i]? =some o:=by simpa using hops 0 (by simp)
  have h1:=hready i (Nat.le_refl _) (by omega)
  rw[show ops.size-i=(ops.size-(i+1))+1 by omega]
  refine⟨λh0=>(by rw[h1] at h0;cases h0),λj hj=> ?_⟩
  rw[h1,List.mem_singleton] at hj
  subst hj
  rw[listedTo_set]
  have h2:wpOp P ops Q j (wpList P ops Q rest) a w:=by
   unfold Go.wpOp
   simp only[ho]
   unfold wpList at h
   exact h
  refine wpOp_mono (λa' w' h'=>ih (j+1) a' w' (by omega) (λk hk=> ?_) (λi hi hi2=>hready i (by omega) hi2) hr h') h2
  have :=hops (k+1) (by simpa using hk)
  rw[show j+1+k=j+(k+1) by omega,this]
  simp
theorem ready_single {m r:Nat} (hr1:((List.range r).all λk=>Region.ready md ops (listedTo ops.size (m+k)) == [m+k])=true):∀j,m≤j→j<m+r→Region.ready md ops (listedTo ops.size j)=[j]:=λj hj hj2=>by
 have :=List.all_eq_true.1 hr1 (j-m) (by rw[List.mem_range];omega)
 rw[show m+(j-m)=j by omega] at this
 simpa using this
theorem wp_region_last {id:Nat} {a:Act} {w:World} {l:List Oper} {o:Oper} {tl:List Oper} (hm:P.follows .mixedOrders=true) (hops:ops.toList=l++(o::tl)) (ht:textB .any ops l.length l.length=true) (hQ:∀d v c a w,Q (.panic c) (Act.put a d v) w→Q (.panic c) a w) (hS:S w.drew)
  (hr1:((List.range (tl.length+1)).all λk=>Region.ready .any ops (listedTo ops.size (l.length+k)) == [l.length+k])=true) (hr2:Region.ready .any ops (listedTo ops.size ops.size)=[]) (h:EachList P ops S (wpList P ops Q (o::tl)) l a):(Code.region id ops true).wp P Q a w:=by
 have hsz:ops.size=l.length+(tl.length+1):=by rw[←Array.length_toList,hops];simp
 have hready:=ready_single hr1
 rw[←hsz] at hready
 refine wp_region_any hm ?_
 rw[←listedTo_zero]
 refine wpAny_of_U (S:=λ_=>S) (F:=ops.size) (L:=l.length) _ _ _ ?_ _ hS
 have hget:∀k,ops[k]? =(l++(o::tl))[k]? :=λk=>by rw[←hops,Array.getElem?_toList]
 refine eachU (m:=l.length) ht (Nat.le_refl _) (by omega) hQ (E:=λa=>∀w,S w→wpList P ops Q (o::tl) a w) (λa h=> ?_) l 0 a (by simp) (by omega) (λk hk=>by rw[hget,Nat.zero_add,List.getElem?_append_left hk]) (EachList.toB _ _ h)
 have h1:=hready l.length (Nat.le_refl _) (by omega)
 have hany:∀w,S w→wpAny P .any ops Q (ops.size-l.length) (listedTo ops.size l.length) a w:=λw hS=>
  tail_any (o::tl) l.length a w (by simpa using hsz.symm) (λk hk=>by rw[hget,List.getElem?_append_right (by omega),Nat.add_sub_cancel_left]) hready hr2 (h w hS)
 rw[show ops.size-l.length=tl.length+1 by omega] at hany ⊢
 refine⟨λh0=>(by rw[h1] at h0;cases h0),λi hi hne=> ?_,λhm w hS=>(hany w hS).2 _ hm⟩
 rw[h1,List.mem_singleton] at hi
 exact absurd hi hne
theorem listedTo_getD {n F i:Nat} (h:F<n):(listedTo n i).getD F false=decide (F<i):=by
 simp[listedTo,h]
theorem midU {S:Bool→World→Prop} {F L:Nat} (hready:∀j,F<j→j<ops.size→Region.ready md ops (listedTo ops.size j)=[j]) {E:Act→World→Prop}
  (hend:∀a,(∀w,S true w→E a w)→wpAnyU P md ops Q S F L (ops.size-L) (listedTo ops.size L) a):
  ∀(l:List Oper) (i:Nat) (a:Act),F<i→i+l.length=L→L<ops.size→(∀k,k<l.length→ops[i+k]? =l[k]?)→EachList P ops (S true) E l a→wpAnyU P md ops Q S F L (ops.size-i) (listedTo ops.size i) a:=by
 intro l
 induction l with
 |nil=>
  intro i a _ hl _ _ h
  obtain rfl:i=L:=by simpa using hl
  exact hend a h
 |cons o rest ih=>
  intro i a hF hl hL hops h
  rw[List.length_cons] at hl
  obtain⟨v,hv,hr⟩:=h
  have ho:ops[i]? =some o:=by simpa using hops 0 (by simp)
  have h1:=hready i hF (by omega)
  have hrec:=ih (i+1) (a.put o.dst v) (by omega) (by omega) hL (λk hk=>by
   have :=hops (k+1) (by simpa using hk)
   rw[show i+1+k=i+(k+1) by omega,this]
   simp) hr
  rw[show ops.size-i=(ops.size-(i+1))+1 by omega]
  refine⟨λh0=>(by rw[h1] at h0;cases h0),λj hj _ w hS=> ?_,λhm=> ?_⟩
  ·rw[h1,List.mem_singleton] at hj
   subst hj
   rw[listedTo_getD (by omega),decide_eq_true (show F<j by omega)] at hS
   refine hv.wpOp ho hS λw' hS'=> ?_
   rw[listedTo_set,listedTo_getD (by omega),decide_eq_true (show F<j+1 by omega)]
   exact⟨hS',hrec⟩
  ·rw[h1,List.mem_singleton] at hm
   omega
theorem wp_region_store {S:Bool→World→Prop} {id:Nat} {a:Act} {w:World} {l mid:List Oper} {f o:Oper} {tl:List Oper} (hm:P.follows .mixedOrders=true) (hops:ops.toList=l++(f::(mid++(o::tl)))) (ht:textB .any ops l.length (l.length+1+mid.length)=true) (hQ:∀d v c a w,Q (.panic c) (Act.put a d v) w→Q (.panic c) a w) (hS:S false w.drew)
  (hr1:((List.range (ops.size-l.length)).all λk=>Region.ready .any ops (listedTo ops.size (l.length+k)) == [l.length+k])=true) (hr2:Region.ready .any ops (listedTo ops.size ops.size)=[])
  (h:EachListB P ops S (λa=>∃v,Each2 P ops (S false) (S true) f v a∧EachList P ops (S true) (wpList P ops Q (o::tl)) mid (a.put f.dst v)) l a):(Code.region id ops true).wp P Q a w:=by
 have hsz:ops.size=l.length+(1+(mid.length+(1+tl.length))):=by rw[←Array.length_toList,hops];simp;omega
 have hready:=ready_single hr1
 rw[show l.length+(ops.size-l.length)=ops.size by omega] at hready
 refine wp_region_any hm ?_
 rw[←listedTo_zero]
 refine wpAny_of_U (S:=S) (F:=l.length) (L:=l.length+1+mid.length) _ _ _ ?_ _ (by rw[listedTo_getD (by omega)];exact hS)
 have hget:∀k,ops[k]? =(l++(f::(mid++(o::tl))))[k]? :=λk=>by rw[←hops,Array.getElem?_toList]
 refine eachU (m:=l.length) ht (by omega) (Nat.le_refl _) hQ (λa h=> ?_) l 0 a (by simp) (by omega) (λk hk=>by rw[hget,Nat.zero_add,List.getElem?_append_left hk]) h
 obtain⟨v,hf,hrest⟩:=h
 have h1:=hready l.length (Nat.le_refl _) (by omega)
 have hmid:=midU (md:= .any) (Q:=Q) (S:=S) (F:=l.length) (L:=l.length+1+mid.length) (λj hj=>hready j (by omega)) (E:=wpList P ops Q (o::tl)) (λa2 h=>by
  have h2:=hready (l.length+1+mid.length) (by omega) (by omega)
  have hany:∀w,S true w→wpAny P .any ops Q (ops.size-(l.length+1+mid.length)) (listedTo ops.size (l.length+1+mid.length)) a2 w:=λw hS=>
   tail_any (o::tl) (l.length+1+mid.length) _ w (by simp;omega) (λk hk=>by
    rw[hget,List.getElem?_append_right (by omega),show l.length+1+mid.length+k-l.length=mid.length+k+1 by omega,List.getElem?_cons_succ,List.getElem?_append_right (by omega),Nat.add_sub_cancel_left]) (λj hj=>hready j (by omega)) hr2 (h w hS)
  rw[show ops.size-(l.length+1+mid.length)=tl.length+1 by omega] at hany ⊢
  refine⟨λh0=>(by rw[h2] at h0;cases h0),λi hi hne=> ?_,λhm w hS=> ?_⟩
  ·rw[h2,List.mem_singleton] at hi
   exact absurd hi hne
  ·rw[listedTo_getD (by omega),decide_eq_true (by omega)] at hS
   exact(hany w hS).2 _ hm) mid (l.length+1) (a.put f.dst v) (by omega) rfl (by omega) (λk hk=>by
    rw[hget,List.getElem?_append_right (by omega),show l.length+1+k-l.length=k+1 by omega,List.getElem?_cons_succ,List.getElem?_append_left hk]) hrest
 rw[show ops.size-l.length=(ops.size-(l.length+1))+1 by omega]
 refine⟨λh0=>(by rw[h1] at h0;cases h0),λi hi hne w hS=> ?_,λhm=> ?_⟩
 ·rw[h1,List.mem_singleton] at hi
  subst hi
  rw[listedTo_getD (by omega),decide_eq_false (by omega)] at hS
  refine hf.wpOp (by rw[hget];simp) hS λw' hS'=> ?_
  rw[listedTo_set,listedTo_getD (by omega),decide_eq_true (by omega)]
  exact⟨hS',hmid⟩
 ·rw[h1,List.mem_singleton] at hm
  omega
theorem EachListB.cons {S:Bool→World→Prop} {E:Act→Prop} {o:Oper} {rest:List Oper} {a:Act} (v:Value) (h:∀b,EachIf P ops (S b) o v a) (hr:EachListB P ops S E rest (a.put o.dst v)):EachListB P ops S E (o::rest) a:=⟨v,h,hr⟩
theorem EachListB.done {S:Bool→World→Prop} {E:Act→Prop} {a:Act} (h:E a):EachListB P ops S E [] a:=h
theorem EachList.cons {E:Act→World→Prop} {o:Oper} {rest:List Oper} {a:Act} (v:Value) (h:EachIf P ops S o v a) (hr:EachList P ops S E rest (a.put o.dst v)):EachList P ops S E (o::rest) a:=⟨v,h,hr⟩
theorem EachList.done {E:Act→World→Prop} {a:Act} (h:∀w,S w→E a w):EachList P ops S E [] a:=h
theorem EachIf.val {o:Oper} {v:Value} {a:Act} (hw:Region.wanted o (yielded ops a.tmps)=true) (h:∀w,S w→(execOp a.eval o).run P w= .ok (.value v) w):EachIf P ops S o v a:=
 .inl ⟨hw,λw hS=>by rw[h w hS];exact⟨rfl,hS⟩⟩
theorem EachIf.off {o:Oper} {a:Act} (hw:Region.wanted o (yielded ops a.tmps)=false):EachIf P ops S o undef a:= .inr ⟨hw,rfl⟩
theorem EachIf.load {o:Oper} {v:Value} {a:Act} (hw:Region.wanted o (yielded ops a.tmps)=true) (ty:TypeId) (x:Operand) (ho:o.op= .load ty x) (ad:Addr) (hx:a.eval x= .pointer (some ad)) (h:∀w,S w→(loadVar ty ad).run P w= .ok v w):EachIf P ops S o v a:=
 .val hw λw hS=>by
  unfold execOp
  simp only[ho,hx,Instr.loadAt,Instr.sureAddr,Sem.run_bind,Sem.run_pure,Result.andThen_ok,h w hS]
theorem Each2.store {S S':World→Prop} {o:Oper} {a:Act} (hw:Region.wanted o (yielded ops a.tmps)=true) (ty:TypeId) (x y:Operand) (ho:o.op= .store ty x y) (ad:Addr) (hx:a.eval x= .pointer (some ad)) (v:Value) (hy:a.eval y=v)
  (h:∀w,S w→∃w',(storeVar ty ad v).run P w= .ok () w'∧S' w'):Each2 P ops S S' o undef a:=
 ⟨hw,λw hS=>by
  obtain⟨w',h1,h2⟩:=h w hS
  unfold execOp
  simp only[ho,hx,hy,Instr.storeAt,Instr.sureAddr,Sem.run_bind,Sem.run_pure,Result.andThen_ok,h1]
  exact⟨rfl,h2⟩⟩
theorem EachIf.call {o:Oper} {v:Value} {a:Act} (hw:Region.wanted o (yielded ops a.tmps)=true) (f:Nat) (args:Array Value) (he:∀w,(execOp a.eval o).run P w= .ok (.enter f args) w) (h:∀w,S w→Calls P f args w λe w'=>e= .returned v∧S w'):EachIf P ops S o v a:=
 .inl ⟨hw,λw hS=>by rw[he w];exact h w hS⟩
end
end Go.Proofs.YtphojondgfjmgaaGreatDoor
namespace Go.Proofs.YtphojondgfjmgaaGreatDoor
open Go.RowKit
theorem load_cellK {P:Program} {w:World} {ty:TypeId} {k:IntKind} {ad:Addr} {v:Value} (hu:P.underlying ty=some (.int k)) (hc:w.cell? ad=some v):(loadVar ty ad).run P w= .ok v w:=by
 have hagg:(isAgg ty).run P w= .ok false w:=by
  unfold isAgg
  rw[Sem.run_bind,run_underlying hu w]
  rfl
 simp[loadVar,Sem.run_bind,hagg,hc]
set_option maxHeartbeats 400000 in
theorem isBlock_at (i:Int) (w:World):Calls Tryz.prog 116 #[.int .i64 i] w λe w'=>e= .returned (.bool (decide (isB i)))∧w=w':=by
 by_cases h0:0<i
 ·by_cases h1:i<256
  ·rw[decide_eq_true (show isB i from ⟨h0,h1⟩)]
   go_enter Tryz.func116,Tryz.ntmps116
   go_wp2
   go_ret
   exact⟨rfl,rfl⟩
  ·rw[decide_eq_false (show ¬isB i from λh=>h1 h.2)]
   go_enter Tryz.func116,Tryz.ntmps116
   go_wp2
   go_ret
   exact⟨rfl,rfl⟩
 ·rw[decide_eq_false (show ¬isB i from λh=>h0 h.1)]
  go_enter Tryz.func116,Tryz.ntmps116
  go_wp2
  go_ret
  exact⟨rfl,rfl⟩
theorem run_or (p b n:Nat) (hb:b<256) (hp:p<256) (hn:n<256):bits .or .u64 ((p:Int)*4294967296) ((b:Int)*256)=((p*4294967296+b*256:Nat):Int)∧bits .or .u64 ((p*4294967296+b*256:Nat):Int) (n:Int)=((p*4294967296+b*256+n:Nat):Int):=by
 constructor
 ·rw[show(p:Int)*4294967296=((p*4294967296:Nat):Int) by omega,show(b:Int)*256=((b*256:Nat):Int) by omega,u64_or_nat _ _ (by omega) (by omega),nat_join 32 _ _ (by exact Nat.mul_mod_left _ _) (show b*256<4294967296 by omega)]
 ·rw[u64_or_nat _ _ (by omega) (by omega),nat_join 8 _ _ (by omega) hn]
set_option maxRecDepth 100000 in
set_option maxHeartbeats 1000000 in
theorem runWord_core (p b n x y:Nat) (hb:b<256) (hp:p<256) (hn:n<256) (q1:bits .or .u64 ((p:Int)*4294967296) ((b:Int)*256)=(y:Int)) (q2:bits .or .u64 (y:Int) (n:Int)=(x:Int)) (w:World):
  Calls Tryz.prog 117 #[.int .i64 (p:Int),.int .i64 (b:Int),.int .i64 (n:Int)] w λe w'=>e= .returned (.int .u64 (x:Int))∧w=w':=by
 go_enter Tryz.func117,Tryz.ntmps117
 go_wp2_with fail
 go_ret
 exact⟨rfl,rfl⟩
theorem runWord_at (p b n:Nat) (hb:b<256) (hp:p<256) (hn:n<256) (w:World):Calls Tryz.prog 117 #[.int .i64 (p:Int),.int .i64 (b:Int),.int .i64 (n:Int)] w λe w'=>e= .returned (.int .u64 (runW p (b:Int) n))∧w=w':=by
 obtain⟨q1,q2⟩:=run_or p b n hb hp hn
 have hw:runW p (b:Int) n=((p*4294967296+b*256+n:Nat):Int):=by unfold runW;omega
 rw[hw]
 exact runWord_core p b n _ _ hb hp hn q1 q2 w
def Words (w:World) (L:List Int) (v:Value) (wx:World):Prop:=wx.ownsRow (w.heap.size+1) 29 1 v L.length (u64s L)∧L.length≤13∧Keeps [] w wx
theorem Words.made {w wx:World} {L:List Int} {v:Value} (h:Words w L v wx):MadeWords w L (.returned v) wx:=by
 obtain⟨g,ho,hg⟩:=Owns.of_row h.1
 by_cases h0:L.length=0
 ·exact⟨v,w.heap.size,rfl,ho.reads.anyG (by rw[List.eq_nil_of_length_eq_zero h0];rfl) _,Nat.le_refl _,h.2.2⟩
 ·exact⟨v,g,rfl,ho.reads,by have :=(hg h0).1;omega,h.2.2⟩
set_option maxRecDepth 100000 in
set_option maxHeartbeats 8000000 in
theorem runs_at (l:List Int) (hl:l.length=13) (w:World):Calls Tryz.prog 100 #[.agg (zs l).toArray] w (MadeWords w (runsL l)):=by
 obtain⟨i0,hi,hz0,hz1,hz2⟩:=info_parts Tryz.info_u64
 have hb0:=Blk.new w (zs l).toArray 34
 have HB0:=Lib.hid hb0
 have HK0:Hid (Keeps [] w (w.alloc (.cells (zs l).toArray 34))):=(Keeps.refl _ _).alloc _
 have HC0:Hid (∀wx k,k<13→Keeps [] (w.alloc (.cells (zs l).toArray 34)) wx→wx.cell? ⟨w.heap.size,k,none⟩=some (.int .i64 (l.getD k 0))):=λwx k hk hkp=>by
  rw[(hb0.keep hkp (by simp)).cell,List.getElem?_toArray,zs_get (by omega)]
 clear hb0
 have HL:=Lib.hid hl
 clear hl
 generalize hz:(zs l).toArray=Z at *
 clear hz
 go_enter Tryz.func100,Tryz.ntmps100
 go_wp2_with fail
 go_step3
 go_wp2_with fail
 go_step3
 go_wp2_with fail
 go_loopg [3,4] 13 (λgh s3 s4 wx=>∃f:Nat,f+gh=13∧s4= .int .i64 (f:Int)∧Hid (wx.ownsRow (w.heap.size+1) 29 1 s3 (runsTo l f).length (u64s (runsTo l f))∧¬contP l f∧Keeps [] (w.alloc (.cells Z 34)) wx))
 case atStart=>exact⟨0,by omega,rfl,⟨rfl,.inl ⟨rfl,rfl⟩⟩,λh=>absurd h.1 (by omega),Keeps.refl _ _⟩
 case round=>
  obtain⟨f,hf,rfl,HR⟩:=hrel
  cases gk with
  |zero=>
   obtain rfl:f=13:=by omega
   have HM:Hid (MadeWords w (runsL l) (.returned u3) wr):=Words.made ⟨HR.out.1,runsTo_len l 13,HK0.out.trans' HR.out.2.2⟩
   clear hf HR
   go_wp2_with fail
   rw[Exit.noGoto_ret]
   go_ret
   exact HM.out
  |succ gg=>
   have hf13:f<13:=by omega
   have hlt:(f:Int)<13:=by omega
   have hf0:(0:Int)≤(f:Int):=by omega
   have hcf:=HC0.out wr f hf13 HR.out.2.2
   have HISB:=Lib.hid (isBlock_at (l.getD f 0))
   by_cases hB:isB (l.getD f 0)
   ·rw[decide_eq_true hB] at HISB
    have HST:Hid (startP l f):=⟨hB,HR.out.2.1⟩
    have HB:=Lib.hid hB
    have hx1:0<l.getD f 0:=hB.1
    have hx2:l.getD f 0<256:=hB.2
    have HOW:=Lib.hid HR.out.1
    have HKP:=Lib.hid HR.out.2.2
    have HRL:=Lib.hid (runsTo_len l f)
    clear HR hB
    generalize hx:l.getD f 0=x at *
    have HX:=Lib.hid hx
    clear hx
    go_wp2_with fail
    refine(HISB.out _).mono ?_;rintro e w1 ⟨rfl,rfl⟩
    go_wp2_with fail
    clear hcf
    obtain⟨a,cap,rfl,q1,q2⟩:=ownsRow_val HOW.out
    go_loopg [3,4,5] (12-f) (λgh s3 s4 s5 wx=>∃j:Nat,s3= .slice a (runsTo l f).length cap∧s4= .int .i64 (f:Int)∧j+gh=13∧s5= .int .i64 (j:Int)∧Hid (f<j∧(∀i,f<i→i<j→contP l i)∧wx.ownsRow (w.heap.size+1) 29 1 (.slice a (runsTo l f).length cap) (runsTo l f).length (u64s (runsTo l f))∧Keeps [] (w.alloc (.cells Z 34)) wx))
    case atStart=>exact⟨f+1,rfl,rfl,by omega,by go_num,by omega,λi h1 h2=>by omega,HOW.out,HKP.out⟩
    case round=>
     clear HOW HKP
     obtain⟨j,rfl,rfl,hj,rfl,HR⟩:=hrel
     obtain⟨hfj,hcont,hown,hkp⟩:=HR.out
     have HCONT:=Lib.hid hcont
     have HOW:=Lib.hid hown
     have HKP:=Lib.hid hkp
     have hj0:(0:Int)≤(j:Int):=by omega
     have hb1:isB (l.getD f 0):=by rw[HX.out];exact HB.out
     have HCI:=Lib.hid (cont_iff hb1 hfj hcont)
     have hwr:=hkp.size
     clear HR hown hcont hkp hb1
     have HLD:Hid (∀wx k,k<13→Keeps [] wr wx→(loadVar 3 ⟨w.heap.size,k,none⟩).run Tryz.prog wx= .ok (.int .i64 (l.getD k 0)) wx):=λwx k hk hkp=>load_cellK Tryz.underlying3 (HC0.out wx k hk (HKP.out.trans' hkp))
     by_cases hj13:j<13
     ·have hjlt:(j:Int)<13:=by omega
      have HISJ:=Lib.hid (isBlock_at (l.getD j 0))
      obtain⟨y,hy⟩:∃y,y=l.getD j 0:=⟨_,rfl⟩
      obtain⟨z,hz⟩:∃z,z=l.getD (j-1) 0:=⟨_,rfl⟩
      rw[←hy] at HISJ
      rw[←hy,←hz] at HCI
      have HLY:Hid (∀wx,Keeps [] wr wx→(loadVar 3 ⟨w.heap.size,j,none⟩).run Tryz.prog wx= .ok (.int .i64 y) wx):=λwx hk=>by rw[hy];exact HLD.out wx j hj13 hk
      obtain⟨q,hq⟩:∃q,q=j-1:=⟨_,rfl⟩
      have hzB:isB z:=by
       have :isB (l.getD f 0):=by rw[HX.out];exact HB.out
       rw[hz]
       exact run_isB this HCONT.out (j-1) (by omega) (by omega)
      have HLZ:Hid (∀wx,Keeps [] wr wx→(loadVar 3 ⟨w.heap.size,q,none⟩).run Tryz.prog wx= .ok (.int .i64 z) wx):=λwx hk=>by rw[hz,hq];exact HLD.out wx (j-1) (by omega) hk
      have hq1:(j:Int)-1=(q:Int):=by omega
      have hq2:IntKind.i64.wrap (q:Int)=(q:Int):=IntWalk.i64_in _ (by omega)
      have hq0:(0:Int)≤(q:Int):=by omega
      have hq13:(q:Int)<13:=by omega
      have hzw:IntKind.i64.wrap (z+1)=z+1:=IntWalk.i64_in _ (by have :=hzB.1;have :=hzB.2;omega)
      clear hy hz HLD hq hzB
      have hjB:(j<13)=True:=eq_true hj13
      by_cases hY:isB y
      ·rw[decide_eq_true hY] at HISJ
       by_cases hyz:y=z+1
       ·have hC:contP l j:=HCI.out.2 ⟨hj13,hY,hyz⟩
        have HN:Hid (f<j+1∧(∀i,f<i→i<j+1→contP l i)∧Keeps [] wr wr):=by
         refine⟨by omega,λi h1 h2=> ?_,Keeps.refl _ _⟩
         by_cases e:i=j
         ·subst e;exact hC
         ·exact HCONT.out i h1 (by omega)
        have heq:(y==z+1)=true:=by simp[hyz]
        clear hC HCI hyz
        go_wp2_with fail
        refine wp_region_each (S:=λwx=>Keeps [] wr wx) (by kernel_rfl) (by kernel_rfl) (λd _ _ _ _ h=>by cases d<;>exact h) ((Keeps.refl _ _).drew) (by kernel_rfl) ?_
        repeat (first
         |(refine EachList.cons (.int .i64 y) (EachIf.load rfl 3 (.tmp 23) rfl _ rfl λwx hx=>HLY.out wx hx) ?_;simp only[Act.put,List.setIfInBounds_toArray,List.set_cons_zero,List.set_cons_succ])
         |(refine EachList.cons (.int .i64 y) (EachIf.load rfl 3 (.tmp 29) rfl _ rfl λwx hx=>HLY.out wx hx) ?_;simp only[Act.put,List.setIfInBounds_toArray,List.set_cons_zero,List.set_cons_succ])
         |(refine EachList.cons (.int .i64 z) (EachIf.load rfl 3 (.tmp 33) rfl _ rfl λwx hx=>HLZ.out wx hx) ?_;simp only[Act.put,List.setIfInBounds_toArray,List.set_cons_zero,List.set_cons_succ])
         |(refine EachList.cons (.bool true) (EachIf.call rfl 116 #[.int .i64 y] ?he ?h) ?_;(case he=>(intro wz;go_simp));(case h=>exact λwx hx=>(HISJ.out wx).mono λe w' he=>⟨he.1,he.2▸hx⟩);simp only[Act.put,List.setIfInBounds_toArray,List.set_cons_zero,List.set_cons_succ])
         |(refine EachList.cons undef (EachIf.off rfl) ?_;simp only[Act.put,List.setIfInBounds_toArray,List.set_cons_zero,List.set_cons_succ])
         |(with_reducible show EachList _ _ _ _ (⟨_,_,4,_,_,_⟩::_) _;refine EachList.cons (.bool true) (EachIf.val rfl ?h) ?_;(case h=>(intro wx hx;clear hx;first|(go_simp;done)|(go_simp;simp[hjB,heq];done)));simp only[Act.put,List.setIfInBounds_toArray,List.set_cons_zero,List.set_cons_succ])
         |(with_reducible show EachList _ _ _ _ (⟨_,_,4,_,_,_⟩::_) _;refine EachList.cons (.bool false) (EachIf.val rfl ?h) ?_;(case h=>(intro wx hx;clear hx;first|(go_simp;done)|(go_simp;simp[hjB,heq];done)));simp only[Act.put,List.setIfInBounds_toArray,List.set_cons_zero,List.set_cons_succ])
         |(refine EachList.cons ?_ (EachIf.val rfl ?h) ?_;(case h=>(intro wx hx;clear hx;go_simp;rfl));simp only[Act.put,List.setIfInBounds_toArray,List.set_cons_zero,List.set_cons_succ]))
        refine EachList.done λwx hx=> ?_
        have HKX:=Lib.hid hx
        have HOX:=Lib.hid (ownsRow_keep HOW.out hx (by simp))
        clear hx
        go_wp2_with fail
        go_roundg (gk-1)
        case measure=>omega
        case rel=>exact⟨j+1,rfl,rfl,by omega,by go_num,HN.out.1,HN.out.2.1,HOX.out,HKP.out.trans' HKX.out⟩
       ·have HNC:Hid (¬contP l j):=λh=>hyz (HCI.out.1 h).2.2
        have HFJ:=Lib.hid hfj
        have heq:(y==z+1)=false:=beq_eq_false_iff_ne.2 hyz
        clear HCI hyz
        go_wp2_with fail
        refine wp_region_each (S:=λwx=>Keeps [] wr wx) (by kernel_rfl) (by kernel_rfl) (λd _ _ _ _ h=>by cases d<;>exact h) ((Keeps.refl _ _).drew) (by kernel_rfl) ?_
        repeat (first
         |(refine EachList.cons (.int .i64 y) (EachIf.load rfl 3 (.tmp 23) rfl _ rfl λwx hx=>HLY.out wx hx) ?_;simp only[Act.put,List.setIfInBounds_toArray,List.set_cons_zero,List.set_cons_succ])
         |(refine EachList.cons (.int .i64 y) (EachIf.load rfl 3 (.tmp 29) rfl _ rfl λwx hx=>HLY.out wx hx) ?_;simp only[Act.put,List.setIfInBounds_toArray,List.set_cons_zero,List.set_cons_succ])
         |(refine EachList.cons (.int .i64 z) (EachIf.load rfl 3 (.tmp 33) rfl _ rfl λwx hx=>HLZ.out wx hx) ?_;simp only[Act.put,List.setIfInBounds_toArray,List.set_cons_zero,List.set_cons_succ])
         |(refine EachList.cons (.bool true) (EachIf.call rfl 116 #[.int .i64 y] ?he ?h) ?_;(case he=>(intro wz;go_simp));(case h=>exact λwx hx=>(HISJ.out wx).mono λe w' he=>⟨he.1,he.2▸hx⟩);simp only[Act.put,List.setIfInBounds_toArray,List.set_cons_zero,List.set_cons_succ])
         |(refine EachList.cons undef (EachIf.off rfl) ?_;simp only[Act.put,List.setIfInBounds_toArray,List.set_cons_zero,List.set_cons_succ])
         |(with_reducible show EachList _ _ _ _ (⟨_,_,4,_,_,_⟩::_) _;refine EachList.cons (.bool true) (EachIf.val rfl ?h) ?_;(case h=>(intro wx hx;clear hx;first|(go_simp;done)|(go_simp;simp[hjB,heq];done)));simp only[Act.put,List.setIfInBounds_toArray,List.set_cons_zero,List.set_cons_succ])
         |(with_reducible show EachList _ _ _ _ (⟨_,_,4,_,_,_⟩::_) _;refine EachList.cons (.bool false) (EachIf.val rfl ?h) ?_;(case h=>(intro wx hx;clear hx;first|(go_simp;done)|(go_simp;simp[hjB,heq];done)));simp only[Act.put,List.setIfInBounds_toArray,List.set_cons_zero,List.set_cons_succ])
         |(refine EachList.cons ?_ (EachIf.val rfl ?h) ?_;(case h=>(intro wx hx;clear hx;go_simp;rfl));simp only[Act.put,List.setIfInBounds_toArray,List.set_cons_zero,List.set_cons_succ]))
        refine EachList.done λwx hx=> ?_
        have HOX:=Lib.hid (ownsRow_keep HOW.out hx (by simp))
        have HKX:=Lib.hid (HKP.out.trans' hx)
        have hcx:=HC0.out wx f hf13 (HKP.out.trans' hx)
        rw[HX.out] at hcx
        have hwx:w.heap.size+1≤wx.heap.size:=by have :=hx.size;simp at hwr;omega
        clear hx
        obtain⟨b,hb⟩:∃b:Nat,x=(b:Int):=⟨x.toNat,by omega⟩
        obtain⟨n,hn⟩:∃n:Nat,n=j-f:=⟨_,rfl⟩
        have hjf:(j:Int)-(f:Int)=(n:Int):=by omega
        have hjf2:IntKind.i64.wrap (n:Int)=(n:Int):=IntWalk.i64_in _ (by omega)
        have HRW:=Lib.hid (runWord_at f b n (by omega) (by omega) (by omega))
        have HRUN:Hid (runsTo l j=runsTo l f++[runW f (b:Int) n]):=by
         have :=runsTo_run HST.out HFJ.out (by omega) HCONT.out HNC.out
         rw[HX.out,hb] at this
         rw[hn]
         exact this
        rw[hb] at hcx
        have HFJ2:Hid (j≤13∧n=j-f):=⟨by omega,hn⟩
        have HMS:=Lib.hid hf
        clear hb hn hf
        generalize runW f (b:Int) n=W at *
        generalize hL:runsTo l f=L at *
        have HLE:=Lib.hid hL
        clear hL
        have HLB:=Lib.hid (show L.length≤13 by have :=HRL.out;omega)
        go_wp2_with fail
        refine(HRW.out _).mono ?_;rintro e w1 ⟨rfl,rfl⟩
        have hlb:=HLB.out
        go_wp2_with(at_builtin;refine wpList_append_own _ rfl _ _ 32 rfl (w.heap.size+1) 29 i0 (.int .u64 0) 1 8 Tryz.underlying32 hi hz0 hz1 hz2 rfl (by decide) (.slice a L.length cap) L.length _ rfl (HOX.out.alloc _) ⟨wx.heap.size,0,none⟩ 1 1 [.int .u64 W] rfl rfl ?c1 ?c2 (by unfold maxLen;omega) (by omega) (by simp;omega) ?_)
        case c1=>exact new_cells _ [_] _ _ rfl
        case c2=>simp[Value.oneCell']
        intro v' w1 hown1 hgrow _
        have HO1:=Lib.hid hown1
        have HK1:=Lib.hid ((HKX.out.alloc _).grown hgrow (λk hk=>by have :=ownsRow_block HOX.out k hk;simpa using this))
        clear hown1 hgrow
        go_wp2_with fail
        go_roundg (13-j)
        case measure=>have :=HMS.out;have :=HFJ.out;have :=HFJ2.out.1;omega
        case rel=>
         refine⟨j,by have :=HFJ2.out.1;omega,by go_num,?_,HNC.out,HK1.out⟩
         have :=HO1.out
         rw[HRUN.out,List.length_append,u64s_append]
         exact this
      ·have HNC:Hid (¬contP l j):=λh=>hY (HCI.out.1 h).2.1
       have HFJ:=Lib.hid hfj
       rw[decide_eq_false hY] at HISJ
       have heq:(1:Int)=1:=rfl
       clear HCI hY
       go_wp2_with fail
       refine wp_region_each (S:=λwx=>Keeps [] wr wx) (by kernel_rfl) (by kernel_rfl) (λd _ _ _ _ h=>by cases d<;>exact h) ((Keeps.refl _ _).drew) (by kernel_rfl) ?_
       repeat (first
        |(refine EachList.cons (.int .i64 y) (EachIf.load rfl 3 (.tmp 23) rfl _ rfl λwx hx=>HLY.out wx hx) ?_;simp only[Act.put,List.setIfInBounds_toArray,List.set_cons_zero,List.set_cons_succ])
        |(refine EachList.cons (.int .i64 y) (EachIf.load rfl 3 (.tmp 29) rfl _ rfl λwx hx=>HLY.out wx hx) ?_;simp only[Act.put,List.setIfInBounds_toArray,List.set_cons_zero,List.set_cons_succ])
        |(refine EachList.cons (.int .i64 z) (EachIf.load rfl 3 (.tmp 33) rfl _ rfl λwx hx=>HLZ.out wx hx) ?_;simp only[Act.put,List.setIfInBounds_toArray,List.set_cons_zero,List.set_cons_succ])
        |(refine EachList.cons (.bool false) (EachIf.call rfl 116 #[.int .i64 y] ?he ?h) ?_;(case he=>(intro wz;go_simp));(case h=>exact λwx hx=>(HISJ.out wx).mono λe w' he=>⟨he.1,he.2▸hx⟩);simp only[Act.put,List.setIfInBounds_toArray,List.set_cons_zero,List.set_cons_succ])
        |(refine EachList.cons undef (EachIf.off rfl) ?_;simp only[Act.put,List.setIfInBounds_toArray,List.set_cons_zero,List.set_cons_succ])
        |(with_reducible show EachList _ _ _ _ (⟨_,_,4,_,_,_⟩::_) _;refine EachList.cons (.bool true) (EachIf.val rfl ?h) ?_;(case h=>(intro wx hx;clear hx;first|(go_simp;done)|(go_simp;simp[hjB,heq];done)));simp only[Act.put,List.setIfInBounds_toArray,List.set_cons_zero,List.set_cons_succ])
        |(with_reducible show EachList _ _ _ _ (⟨_,_,4,_,_,_⟩::_) _;refine EachList.cons (.bool false) (EachIf.val rfl ?h) ?_;(case h=>(intro wx hx;clear hx;first|(go_simp;done)|(go_simp;simp[hjB,heq];done)));simp only[Act.put,List.setIfInBounds_toArray,List.set_cons_zero,List.set_cons_succ])
        |(refine EachList.cons ?_ (EachIf.val rfl ?h) ?_;(case h=>(intro wx hx;clear hx;go_simp;rfl));simp only[Act.put,List.setIfInBounds_toArray,List.set_cons_zero,List.set_cons_succ]))
       refine EachList.done λwx hx=> ?_
       have HOX:=Lib.hid (ownsRow_keep HOW.out hx (by simp))
       have HKX:=Lib.hid (HKP.out.trans' hx)
       have hcx:=HC0.out wx f hf13 (HKP.out.trans' hx)
       rw[HX.out] at hcx
       have hwx:w.heap.size+1≤wx.heap.size:=by have :=hx.size;simp at hwr;omega
       clear hx
       obtain⟨b,hb⟩:∃b:Nat,x=(b:Int):=⟨x.toNat,by omega⟩
       obtain⟨n,hn⟩:∃n:Nat,n=j-f:=⟨_,rfl⟩
       have hjf:(j:Int)-(f:Int)=(n:Int):=by omega
       have hjf2:IntKind.i64.wrap (n:Int)=(n:Int):=IntWalk.i64_in _ (by omega)
       have HRW:=Lib.hid (runWord_at f b n (by omega) (by omega) (by omega))
       have HRUN:Hid (runsTo l j=runsTo l f++[runW f (b:Int) n]):=by
        have :=runsTo_run HST.out HFJ.out (by omega) HCONT.out HNC.out
        rw[HX.out,hb] at this
        rw[hn]
        exact this
       rw[hb] at hcx
       have HFJ2:Hid (j≤13∧n=j-f):=⟨by omega,hn⟩
       have HMS:=Lib.hid hf
       clear hb hn hf
       generalize runW f (b:Int) n=W at *
       generalize hL:runsTo l f=L at *
       have HLE:=Lib.hid hL
       clear hL
       have HLB:=Lib.hid (show L.length≤13 by have :=HRL.out;omega)
       go_wp2_with fail
       refine(HRW.out _).mono ?_;rintro e w1 ⟨rfl,rfl⟩
       have hlb:=HLB.out
       go_wp2_with(at_builtin;refine wpList_append_own _ rfl _ _ 32 rfl (w.heap.size+1) 29 i0 (.int .u64 0) 1 8 Tryz.underlying32 hi hz0 hz1 hz2 rfl (by decide) (.slice a L.length cap) L.length _ rfl (HOX.out.alloc _) ⟨wx.heap.size,0,none⟩ 1 1 [.int .u64 W] rfl rfl ?c1 ?c2 (by unfold maxLen;omega) (by omega) (by simp;omega) ?_)
       case c1=>exact new_cells _ [_] _ _ rfl
       case c2=>simp[Value.oneCell']
       intro v' w1 hown1 hgrow _
       have HO1:=Lib.hid hown1
       have HK1:=Lib.hid ((HKX.out.alloc _).grown hgrow (λk hk=>by have :=ownsRow_block HOX.out k hk;simpa using this))
       clear hown1 hgrow
       go_wp2_with fail
       go_roundg (13-j)
       case measure=>have :=HMS.out;have :=HFJ.out;have :=HFJ2.out.1;omega
       case rel=>
        refine⟨j,by have :=HFJ2.out.1;omega,by go_num,?_,HNC.out,HK1.out⟩
        have :=HO1.out
        rw[HRUN.out,List.length_append,u64s_append]
        exact this
     ·have HNC:Hid (¬contP l j):=λh=>hj13 (HCI.out.1 h).1
      have HFJ:=Lib.hid hfj
      have hjB:(j<13)=False:=eq_false hj13
      have hjlt:¬(j:Int)<13:=by omega
      have heq:(1:Int)=1:=rfl
      clear HCI HLD
      go_wp2_with fail
      refine wp_region_each (S:=λwx=>Keeps [] wr wx) (by kernel_rfl) (by kernel_rfl) (λd _ _ _ _ h=>by cases d<;>exact h) ((Keeps.refl _ _).drew) (by kernel_rfl) ?_
      repeat (first
       |(refine EachList.cons undef (EachIf.off rfl) ?_;simp only[Act.put,List.setIfInBounds_toArray,List.set_cons_zero,List.set_cons_succ])
       |(with_reducible show EachList _ _ _ _ (⟨_,_,4,_,_,_⟩::_) _;refine EachList.cons (.bool false) (EachIf.val rfl ?h) ?_;(case h=>(intro wx hx;clear hx;first|(go_simp;done)|(go_simp;simp[hjB,heq];done)));simp only[Act.put,List.setIfInBounds_toArray,List.set_cons_zero,List.set_cons_succ])
       |(refine EachList.cons ?_ (EachIf.val rfl ?h) ?_;(case h=>(intro wx hx;clear hx;go_simp;rfl));simp only[Act.put,List.setIfInBounds_toArray,List.set_cons_zero,List.set_cons_succ]))
      refine EachList.done λwx hx=> ?_
      have HOX:=Lib.hid (ownsRow_keep HOW.out hx (by simp))
      have HKX:=Lib.hid (HKP.out.trans' hx)
      have hcx:=HC0.out wx f hf13 (HKP.out.trans' hx)
      rw[HX.out] at hcx
      have hwx:w.heap.size+1≤wx.heap.size:=by have :=hx.size;simp at hwr;omega
      clear hx
      obtain⟨b,hb⟩:∃b:Nat,x=(b:Int):=⟨x.toNat,by omega⟩
      obtain⟨n,hn⟩:∃n:Nat,n=j-f:=⟨_,rfl⟩
      have hjf:(j:Int)-(f:Int)=(n:Int):=by omega
      have hjf2:IntKind.i64.wrap (n:Int)=(n:Int):=IntWalk.i64_in _ (by omega)
      have HRW:=Lib.hid (runWord_at f b n (by omega) (by omega) (by omega))
      have HRUN:Hid (runsTo l j=runsTo l f++[runW f (b:Int) n]):=by
       have :=runsTo_run HST.out HFJ.out (by omega) HCONT.out HNC.out
       rw[HX.out,hb] at this
       rw[hn]
       exact this
      rw[hb] at hcx
      have HFJ2:Hid (j≤13∧n=j-f):=⟨by omega,hn⟩
      have HMS:=Lib.hid hf
      clear hb hn hf
      generalize runW f (b:Int) n=W at *
      generalize hL:runsTo l f=L at *
      have HLE:=Lib.hid hL
      clear hL
      have HLB:=Lib.hid (show L.length≤13 by have :=HRL.out;omega)
      go_wp2_with fail
      refine(HRW.out _).mono ?_;rintro e w1 ⟨rfl,rfl⟩
      have hlb:=HLB.out
      go_wp2_with(at_builtin;refine wpList_append_own _ rfl _ _ 32 rfl (w.heap.size+1) 29 i0 (.int .u64 0) 1 8 Tryz.underlying32 hi hz0 hz1 hz2 rfl (by decide) (.slice a L.length cap) L.length _ rfl (HOX.out.alloc _) ⟨wx.heap.size,0,none⟩ 1 1 [.int .u64 W] rfl rfl ?c1 ?c2 (by unfold maxLen;omega) (by omega) (by simp;omega) ?_)
      case c1=>exact new_cells _ [_] _ _ rfl
      case c2=>simp[Value.oneCell']
      intro v' w1 hown1 hgrow _
      have HO1:=Lib.hid hown1
      have HK1:=Lib.hid ((HKX.out.alloc _).grown hgrow (λk hk=>by have :=ownsRow_block HOX.out k hk;simpa using this))
      clear hown1 hgrow
      go_wp2_with fail
      go_roundg (13-j)
      case measure=>have :=HMS.out;have :=HFJ.out;have :=HFJ2.out.1;omega
      case rel=>
       refine⟨j,by have :=HFJ2.out.1;omega,by go_num,?_,HNC.out,HK1.out⟩
       have :=HO1.out
       rw[HRUN.out,List.length_append,u64s_append]
       exact this
   ·rw[decide_eq_false hB] at HISB
    have hn1:¬contP l (f+1):=λh=>hB h.2.2.2.1
    have HN:Hid (wr.ownsRow (w.heap.size+1) 29 1 u3 (runsTo l (f+1)).length (u64s (runsTo l (f+1)))∧¬contP l (f+1)∧Keeps [] (w.alloc (.cells Z 34)) wr):=by
     refine⟨?_,hn1,HR.out.2.2⟩
     rw[runsTo_none hB]
     exact HR.out.1
    clear HR hB hn1
    generalize l.getD f 0=x at *
    go_wp2_with fail
    refine(HISB.out _).mono ?_;rintro e w1 ⟨rfl,rfl⟩
    go_wp2_with fail
    go_roundg gg
    case measure=>omega
    case rel=>exact⟨f+1,by omega,by go_num,HN.out⟩
set_option maxHeartbeats 400000 in
theorem parts_at (a s:Nat) (ha:a≤1000000) (h1:1≤s) (hs:s≤1000000) (w:World):Calls Tryz.prog 70 #[.int .i64 (a:Int),.int .i64 (s:Int)] w λe w'=>e= .returned (.int .i64 (((a+s-1)/s:Nat):Int))∧w=w':=by
 have hs0:(s:Int)≠0:=by omega
 have hs1:¬(s:Int)= -1:=by omega
 have hq:((a:Int)+s-1).tdiv s=(((a+s-1)/s:Nat):Int):=by
  rw[show(a:Int)+s-1=((a+s-1:Nat):Int) by omega,Int.ofNat_tdiv]
 have hle:(a+s-1)/s≤2000000:=Nat.le_trans (Nat.div_le_self _ _) (by omega)
 generalize (a+s-1)/s=q at *
 go_enter Tryz.func70,Tryz.ntmps70
 go_wp2_with fail
 go_ret
 exact⟨rfl,rfl⟩
set_option maxRecDepth 100000 in
set_option maxHeartbeats 1000000 in
theorem upTo_at (l:List Int) (c:Nat) (hl:l.length=13) (hc:c≤13) (w:World):Calls Tryz.prog 69 #[.agg (zs l).toArray,.int .i64 (c:Int)] w λe w'=>e= .returned (.agg (zs (uptoL l c)).toArray)∧Keeps [] w w':=by
 have hb0:=Blk.new w (zs l).toArray 34
 have hb1:=hb0.alloc (.cells (zs (List.replicate 13 0)).toArray 34)
 obtain⟨off,cap,hs,ho⟩:=slice_from w.heap.size c hc ((w.alloc (.cells (zs l).toArray 34)).alloc (.cells (zs (List.replicate 13 0)).toArray 34))
 obtain⟨w1,hcl,hb2,hk1⟩:=clear_tail (off:=off) (cap:=cap) hb1 hl hc ho
 have hbr:Blk ((w.alloc (.cells (zs l).toArray 34)).alloc (.cells (zs (List.replicate 13 0)).toArray 34)) (w.heap.size+1) (zs (List.replicate 13 0)).toArray 34 :=by
  simpa using Blk.new (w.alloc (.cells (zs l).toArray 34)) (zs (List.replicate 13 0)).toArray 34
 have hbr1:=hbr.keep hk1 (by simp)
 have hll:=uptoL_len hl hc
 have hL:=load_n13 (off:=0) hb2 hll (λk hk=>by rw[Nat.zero_add,List.getElem?_toArray,zs_get (by omega)])
 obtain⟨w2,hS,hb3,hk2⟩:=store_whole (P:= Tryz.prog) (ty:= 34) (cs:=zs (uptoL l c)) (by rw[zs_len,hll];exact size_n13) hbr1 (by simp[zs_len,hll]) (zs_one _)
 have hL2:=load_n13 (off:=0) hb3 hll (λk hk=>by rw[Nat.zero_add,List.getElem?_toArray,zs_get (by omega)])
 have HK:Hid (Keeps [] w w2):=((((Keeps.refl [] w).alloc _).alloc _).trans hk1 (by simp)).trans hk2 (by simp)
 have HL:=Lib.hid hL
 have HS:=Lib.hid hS
 have HL2:=Lib.hid hL2
 have hzv:=zero_n13
 have hcl0:=hcl 0
 clear hb0 hb1 hbr hbr1 hL hS hL2 hcl hb2 hk1 hb3 hk2 ho
 generalize (zs (uptoL l c)).toArray=Y at *
 generalize (zs (List.replicate 13 0)).toArray=Z0 at *
 generalize (zs l).toArray=Z at *
 go_enter Tryz.func69,Tryz.ntmps69
 go_wp2_with(first|((with_reducible show wpList _ _ _ (⟨_,.load 34 (.tmp 2),_,_,_,_⟩::_) _ _);refine wpList_load_any rfl 34 (.tmp 2) rfl _ rfl _ HL.out ?_)|((with_reducible show wpList _ _ _ (⟨_,.store 34 (.tmp 4) (.tmp 7),_,_,_,_⟩::_) _ _);refine wpList_store_any rfl 34 (.tmp 4) (.tmp 7) rfl _ rfl _ rfl _ HS.out ?_))
 exact bodyPost_ret (results_cell Tryz.results69 rfl HL2.out) rfl ⟨rfl,HK.out⟩
theorem slice_five (b:Nat) (w:World):(Instr.sliceAt 34 (.pointer (some ⟨b,0,none⟩)) (some (.int .i64 5)) none none).run Tryz.prog w= .ok (.slice (some ⟨b,5,none⟩) 8 8) w:=by show Sem.run _ _ _=_;kernel_rfl
theorem array_eight (a:Option Addr) (w:World):(Instr.arrayAt 138 (.slice a 8 8)).run Tryz.prog w= .ok (.pointer a) w:=by show Sem.run _ _ _=_;kernel_rfl
set_option maxRecDepth 100000 in
set_option maxHeartbeats 1000000 in
theorem rest_at (l:List Int) (hl:l.length=13) (w:World):Calls Tryz.prog 91 #[.agg (zs l).toArray] w λe w'=>e= .returned (.agg (zs (l.drop 5)).toArray)∧Keeps [] w w':=by
 have hb0:=Blk.new w (zs l).toArray 34
 have hb1:=hb0.alloc (.cells (zs (List.replicate 8 0)).toArray 138)
 have hbr:Blk ((w.alloc (.cells (zs l).toArray 34)).alloc (.cells (zs (List.replicate 8 0)).toArray 138)) (w.heap.size+1) (zs (List.replicate 8 0)).toArray 138 :=by
  simpa using Blk.new (w.alloc (.cells (zs l).toArray 34)) (zs (List.replicate 8 0)).toArray 138
 have hdl:(l.drop 5).length=8:=by simp[hl]
 have hL:=load_n8 (off:=5) hb1 hdl (λk hk=>by rw[List.getElem?_toArray,zs_get (by omega)];simp[List.getD_eq_getElem?_getD])
 obtain⟨w2,hS,hb3,hk2⟩:=store_whole (P:= Tryz.prog) (ty:= 138) (cs:=zs (l.drop 5)) (by rw[zs_len,hdl];exact size_n8) hbr (by simp[zs_len,hl]) (zs_one _)
 have hL2:=load_n8 (off:=0) hb3 hdl (λk hk=>by rw[Nat.zero_add,List.getElem?_toArray,zs_get (by omega)])
 have HK:Hid (Keeps [] w w2):=(((Keeps.refl [] w).alloc _).alloc _).trans hk2 (by simp)
 have HL:=Lib.hid hL
 have HS:=Lib.hid hS
 have HL2:=Lib.hid hL2
 have hzv:=zero_n8
 have hs5:=slice_five w.heap.size
 have ha8:=array_eight
 clear hb0 hb1 hbr hL hS hL2 hb3 hk2
 generalize (zs (l.drop 5)).toArray=Y at *
 generalize (zs (List.replicate 8 0)).toArray=Z0 at *
 generalize (zs l).toArray=Z at *
 go_enter Tryz.func91,Tryz.ntmps91
 go_wp2_with(first|((with_reducible show wpList _ _ _ (⟨_,.load 138 (.tmp 4),_,_,_,_⟩::_) _ _);refine wpList_load_any rfl 138 (.tmp 4) rfl _ rfl _ HL.out ?_)|((with_reducible show wpList _ _ _ (⟨_,.store 138 (.tmp 2) (.tmp 5),_,_,_,_⟩::_) _ _);refine wpList_store_any rfl 138 (.tmp 2) (.tmp 5) rfl _ rfl _ rfl _ HS.out ?_))
 exact bodyPost_ret (results_cell Tryz.results91 rfl HL2.out) rfl ⟨rfl,HK.out⟩
set_option maxRecDepth 100000 in
set_option maxHeartbeats 1000000 in
theorem entryBlocks_at (n:Ino) (a:Option Addr) (cap:Nat) (hB:n.B.length=13) (hE:n.E.length≤100000) (w:World):Calls Tryz.prog 75 #[.agg (inoC n (.slice a n.E.length cap))] w λe w'=>e= .returned (.int .i64 ((blocksN n.E.length:Nat):Int))∧Keeps [] w w':=by
 have hb0:=Blk.new w (inoC n (.slice a n.E.length cap)) 37
 have h17:(w.alloc (.cells (inoC n (.slice a n.E.length cap)) 37)).cell? ⟨w.heap.size,17,none⟩=some (.slice a n.E.length cap):=by rw[hb0.cell];exact inoC_E _ hB
 have HP:=Lib.hid (parts_at n.E.length 4 (by omega) (by omega) (by omega))
 have HK:Hid (Keeps [] w (w.alloc (.cells (inoC n (.slice a n.E.length cap)) 37))):=(Keeps.refl [] w).alloc _
 clear hb0 hB
 generalize inoC n (.slice a n.E.length cap)=Z at *
 unfold blocksN
 generalize n.E.length=m at *
 rw[show m+4-1=m+3 by omega] at HP
 go_enter Tryz.func75,Tryz.ntmps75
 go_wp2_with fail
 refine(HP.out _).mono ?_;rintro e w' ⟨rfl,rfl⟩
 go_wp2_with fail
 go_ret
 exact⟨rfl,HK.out⟩
def needN (n:Ino):Nat:=if 5<blocksN n.E.length∨n.B.drop 5≠List.replicate 8 0 then blocksN n.E.length+1 else blocksN n.E.length
set_option maxRecDepth 100000 in
set_option maxHeartbeats 1000000 in
theorem need_at (n:Ino) (a:Option Addr) (cap:Nat) (hB:n.B.length=13) (hE:n.E.length≤100000) (w:World):Calls Tryz.prog 78 #[.agg (inoC n (.slice a n.E.length cap))] w λe w'=>e= .returned (.int .i64 ((needN n:Nat):Int))∧Keeps [] w w':=by
 have HEB:=Lib.hid (entryBlocks_at n a cap hB hE)
 have HR:=Lib.hid (rest_at n.B hB)
 have hz8:=zero_n8
 have hg8:=guard_n8
 have HEQ:=Lib.hid (λwx=>eq_n8 (a:=n.B.drop 5) (b:=List.replicate 8 0) (by simp[hB]) rfl wx)
 have HK0:Hid (Keeps [] w (w.alloc (.cells (inoC n (.slice a n.E.length cap)) 37))):=(Keeps.refl [] w).alloc _
 have HB0:Hid (Blk (w.alloc (.cells (inoC n (.slice a n.E.length cap)) 37)) w.heap.size (inoC n (.slice a n.E.length cap)) 37):=Blk.new _ _ _
 have HLI:=Lib.hid (λ(wx:World) (hb:Blk wx w.heap.size (inoC n (.slice a n.E.length cap)) 37)=>load_ino hb hB)
 have HLB:=Lib.hid (λ(wx:World) (hb:Blk wx w.heap.size (inoC n (.slice a n.E.length cap)) 37)=>load_n13 (off:=4) hb hB λk hk=>inoC_B _ (by omega))
 have HL0:=Lib.hid (HLI.out _ HB0.out)
 have hb2:blocksN n.E.length≤1000000:=by unfold blocksN;omega
 unfold needN
 generalize hd:n.B.drop 5=d at *
 generalize inoC n (.slice a n.E.length cap)=Z at *
 generalize (zs n.B).toArray=ZB at *
 clear hd hB hE
 generalize blocksN n.E.length=m at *
 by_cases hm:5<m
 ·have hm':(5:Int)<(m:Int):=by omega
  rw[if_pos (.inl hm)]
  go_enter Tryz.func78,Tryz.ntmps78
  go_wp2_with((with_reducible show wpList _ _ _ (⟨_,.load 37 (.tmp 1),_,_,_,_⟩::_) _ _);refine wpList_load_any rfl 37 (.tmp 1) rfl _ rfl _ HL0.out ?_)
  refine(HEB.out _).mono ?_;rintro e w1 ⟨rfl,hk1⟩
  have HK1:=Lib.hid (HK0.out.trans hk1 (by simp))
  clear hk1
  go_wp2_with fail
  go_ret
  exact⟨rfl,HK1.out⟩
 ·have hm':¬(5:Int)<(m:Int):=by omega
  obtain⟨t,ht⟩:∃t,decide (d=List.replicate 8 0)=t:=⟨_,rfl⟩
  rw[ht] at HEQ
  have hif:(if 5<m∨d≠List.replicate 8 0 then m+1 else m)=if t=true then m else m+1:=by
   rw[←ht]
   generalize List.replicate 8 (0:Int)=z8
   by_cases hd:d=z8
   ·simp[hd,hm]
   ·simp[hd]
  rw[hif]
  clear hif ht
  generalize (zs (List.replicate 8 0)).toArray=Z8 at *
  generalize (zs d).toArray=ZD at *
  go_enter Tryz.func78,Tryz.ntmps78
  go_wp2_with((with_reducible show wpList _ _ _ (⟨_,.load 37 (.tmp 1),_,_,_,_⟩::_) _ _);refine wpList_load_any rfl 37 (.tmp 1) rfl _ rfl _ HL0.out ?_)
  refine(HEB.out _).mono ?_;rintro e w1 ⟨rfl,hk1⟩
  have HK1:=Lib.hid (HK0.out.trans hk1 (by simp))
  have HB1:=Lib.hid (HB0.out.keep hk1 (by simp))
  have HL1:=Lib.hid (HLB.out _ HB1.out)
  have heq:=HEQ.out
  clear hk1 HL0
  cases t
  all_goals
   go_wp2_with(first|((with_reducible show wpList _ _ _ (⟨_,.load 34 (.tmp 9),_,_,_,_⟩::_) _ _);refine wpList_load_want (by simp[Region.wanted,yielded,hm']) 34 (.tmp 9) rfl _ rfl _ HL1.out ?_)|(go_at_call 91;refine(HR.out _).mono ?_;rintro e w2 ⟨rfl,hk2⟩;have HK2:=Lib.hid (HK1.out.trans hk2 (by simp));clear hk2))
   go_ret
   exact⟨rfl,HK2.out⟩
theorem zero_seen (w:World):(zeroValue 135).run Tryz.prog w= .ok (.agg (bools (List.replicate 256 false)).toArray) w:=by kernel_rfl
set_option maxRecDepth 100000 in
set_option maxHeartbeats 2000000 in
theorem rightNumbers_at (l:List Int) (hl:l.length=13) (w:World):Calls Tryz.prog 71 #[.agg (zs l).toArray] w λe w'=>e= .returned (.bool (decide (NumsP l)))∧Keeps [] w w':=by
 have hb0:=Blk.new w (zs l).toArray 34
 have hL:=load_n13 (off:=0) (hb0.alloc (.cells (bools (List.replicate 256 false)).toArray 135)) hl (λk hk=>by rw[Nat.zero_add,List.getElem?_toArray,zs_get (by omega)])
 have HZ:Hid (∀k,k<13→(zs l).toArray[k]? =some (.int .i64 (l.getD k 0))):=λk hk=>by rw[List.getElem?_toArray,zs_get (by omega)]
 have HL:=Lib.hid hL
 have HB:Hid (Blk ((w.alloc (.cells (zs l).toArray 34)).alloc (.cells (bools (List.replicate 256 false)).toArray 135)) (w.heap.size+1) (bools (List.replicate 256 false)).toArray 135):=by
  have :=Blk.new (w.alloc (.cells (zs l).toArray 34)) (bools (List.replicate 256 false)).toArray 135
  have e:(w.alloc (.cells (zs l).toArray 34)).heap.size=w.heap.size+1:=by simp
  rw[e] at this
  exact this
 have HK:Hid (Keeps [] w ((w.alloc (.cells (zs l).toArray 34)).alloc (.cells (bools (List.replicate 256 false)).toArray 135))):=((Keeps.refl _ _).alloc _).alloc _
 have hzv:=zero_seen
 rw[seenL_zero l] at HB HK HL
 rw[seenL_zero l] at hzv
 clear hb0 hL hl
 generalize hs0:(bools (seenL l 0)).toArray=S0 at *
 generalize (zs l).toArray=Z at *
 go_enter Tryz.func71,Tryz.ntmps71
 go_wp2_with((with_reducible show wpList _ _ _ (⟨_,.load 34 (.tmp 1),_,_,_,_⟩::_) _ _);refine wpList_load_any rfl 34 (.tmp 1) rfl _ rfl _ HL.out ?_)
 clear hzv HL
 go_loopg [7] 13 (λgh s7 wx=>∃k:Nat,k+gh=13∧s7= .int .i64 (k:Int)∧Hid (Blk wx (w.heap.size+1) (bools (seenL l k)).toArray 135∧(∀i,i<k→(0≤l.getD i 0∧l.getD i 0<256)∧(l.getD i 0≠0→∀j,j<i→l.getD j 0≠l.getD i 0))∧Keeps [] w wx))
 case atStart=>exact⟨0,by omega,rfl,by rw[hs0];exact HB.out,by simp,HK.out⟩
 case round=>
  clear HB HK hs0
  obtain⟨k,hk,rfl,HR⟩:=hrel
  cases gk with
  |zero=>
   obtain rfl:k=13:=by omega
   have HT:Hid (decide (NumsP l)=true):=decide_eq_true HR.out.2.1
   have HKP:=Lib.hid HR.out.2.2
   clear HR hk
   go_wp2_with fail
   go_ret
   exact⟨by rw[HT.out];rfl,HKP.out⟩
  |succ gg=>
   have hk13:k<13:=by omega
   have hlt:(k:Int)<13:=by omega
   have hk0:(0:Int)≤(k:Int):=by omega
   have hzk:=index_n13 hk13 (HZ.out k hk13)
   have HN:Hid (NumsP l→(0≤l.getD k 0∧l.getD k 0<256)∧(l.getD k 0≠0→∀j,j<k→l.getD j 0≠l.getD k 0)):=λh=>h k hk13
   have HSS:=Lib.hid (λc he=>seenL_succ l k c he)
   have HSG:=Lib.hid (λc hc=>seenL_get l k c hc)
   have HKP:=Lib.hid HR.out.2.2
   by_cases hneg:l.getD k 0<0
   ·have HF:Hid (decide (NumsP l)=false):=decide_eq_false λh=>by have :=(HN.out h).1;omega
    clear HR HN HSS HSG hk
    generalize l.getD k 0=x at *
    go_wp2_with fail
    go_ret
    exact⟨by rw[HF.out];rfl,HKP.out⟩
   ·by_cases hbig:256≤l.getD k 0
    ·have HF:Hid (decide (NumsP l)=false):=decide_eq_false λh=>by have :=(HN.out h).1;omega
     clear HR HN HSS HSG hk
     generalize l.getD k 0=x at *
     go_wp2_with fail
     go_ret
     exact⟨by rw[HF.out];rfl,HKP.out⟩
    ·obtain⟨c,hc⟩:∃c:Nat,l.getD k 0=(c:Int):=⟨(l.getD k 0).toNat,by omega⟩
     rw[hc] at hzk hneg hbig
     have hc256:c<256:=by omega
     have hcb:(c:Int)<256:=by omega
     have hc0:(0:Int)≤(c:Int):=by omega
     obtain⟨hb,hpre,-⟩:=HR.out
     have hcell:wr.cell? ⟨w.heap.size+1,c,none⟩=some (.bool ((seenL l k).getD c false)):=by
      rw[hb.cell,List.getElem?_toArray,bools_get (by rw[seenL_len];exact hc256)]
     have hf:wr.frozen? ⟨w.heap.size+1,c,none⟩=false:=hb.frozen c
     have HB2:Hid (Blk (wr.setCell ⟨w.heap.size+1,c,none⟩ (.bool true)) (w.heap.size+1) (bools (seenL l (k+1))).toArray 135):=by
      have :=hb.set c (.bool true)
      rw[List.setIfInBounds_toArray,bools_set,HSS.out c hc] at this
      exact this
     have hseen:=HSG.out c hc256
     have HPRE:=Lib.hid hpre
     by_cases h0:c=0
     ·subst h0
      have HPRE2:Hid (∀i,i<k+1→(0≤l.getD i 0∧l.getD i 0<256)∧(l.getD i 0≠0→∀j,j<i→l.getD j 0≠l.getD i 0)):=λi hi=>by
       by_cases e:i=k
       ·subst e
        rw[hc]
        exact⟨by decide,λh=>absurd rfl h⟩
       ·exact HPRE.out i (by omega)
      clear HR HN HSS HSG hb hpre hseen HPRE hneg hbig hc
      generalize (seenL l k).getD 0 false=sv at *
      go_wp2_with fail
      go_roundg gg
      case measure=>omega
      case rel=>exact⟨k+1,by omega,by go_num,HB2.out,HPRE2.out,HKP.out.setCell (by simp) _⟩
     ·have hne:((c:Int) != 0)=true:=by simp;omega
      cases hsv:(seenL l k).getD c false
      ·have HPRE2:Hid (∀i,i<k+1→(0≤l.getD i 0∧l.getD i 0<256)∧(l.getD i 0≠0→∀j,j<i→l.getD j 0≠l.getD i 0)):=λi hi=>by
        by_cases e:i=k
        ·subst e
         rw[hsv] at hseen
         have hno:=of_decide_eq_false hseen.symm
         rw[hc]
         exact⟨⟨hc0,hcb⟩,λ_ j hj e=>hno ⟨j,hj,e⟩⟩
        ·exact HPRE.out i (by omega)
       rw[hsv] at hcell
       clear HR HN HSS HSG hb hpre hseen HPRE hneg hbig hc hsv
       go_wp2_with fail
       go_roundg gg
       case measure=>omega
       case rel=>exact⟨k+1,by omega,by go_num,HB2.out,HPRE2.out,HKP.out.setCell (by simp) _⟩
      ·rw[hsv] at hseen hcell
       obtain⟨j,hj,he⟩:=of_decide_eq_true hseen.symm
       have HF:Hid (decide (NumsP l)=false):=decide_eq_false λh=>(HN.out h).2 (by omega) j hj (by rw[he,hc])
       clear HR HN HSS HSG hb hpre hseen HPRE hneg hbig hc hsv hk he
       go_wp2_with fail
       go_ret
       exact⟨by rw[HF.out];rfl,HKP.out⟩
set_option maxRecDepth 100000 in
set_option maxHeartbeats 4000000 in
theorem rightFile_at (n:Ino) (a:Option Addr) (cap:Nat) (hB:n.B.length=13) (w:World):Calls Tryz.prog 57 #[.agg (inoC n (.slice a n.E.length cap))] w λe w'=>e= .returned (.bool (decide (FileP n)))∧Keeps [] w w':=by
 obtain⟨Z,hZ⟩:∃Z,Z=inoC n (.slice a n.E.length cap):=⟨_,rfl⟩
 have hat:InoAt Z n (.slice a n.E.length cap):=by rw[hZ];exact inoAt _ hB
 rw[←hZ]
 have hb0:=Blk.new w Z 37
 have c3:(w.alloc (.cells Z 37)).cell? ⟨w.heap.size,3,none⟩=some (.int .i64 n.S):=by rw[hb0.cell];exact hat.f3
 have c17:(w.alloc (.cells Z 37)).cell? ⟨w.heap.size,17,none⟩=some (.slice a n.E.length cap):=by rw[hb0.cell];exact hat.f5
 have HK:Hid (Keeps [] w (w.alloc (.cells Z 37))):=(Keeps.refl [] w).alloc _
 have HB0:=Lib.hid hb0
 have HLB:Hid (∀wx:World,Blk wx w.heap.size Z 37→(loadVar 34 ⟨w.heap.size,4,none⟩).run Tryz.prog wx= .ok (.agg (zs n.B).toArray) wx):=λwx hb=>load_n13 (off:=4) hb hB hat.f4
 have HLS:Hid (∀wx:World,Blk wx w.heap.size Z 37→(loadVar 3 ⟨w.heap.size,3,none⟩).run Tryz.prog wx= .ok (.int .i64 n.S) wx):=λwx hb=>load_one (off:=3) Tryz.underlying3 hb hat.f3
 clear hb0 hZ
 by_cases h0:n.S<0
 ·have HF:Hid (decide (FileP n)=false):=decide_eq_false λh=>by have :=h.1.1;omega
  generalize n.S=s at *
  clear hB
  go_enter Tryz.func57,Tryz.ntmps57
  go_wp2_with fail
  go_ret
  exact⟨by rw[HF.out];rfl,HK.out⟩
 ·by_cases h1:832<n.S
  ·have HF:Hid (decide (FileP n)=false):=decide_eq_false λh=>by have :=h.1.2;omega
   generalize n.S=s at *
   clear hB
   go_enter Tryz.func57,Tryz.ntmps57
   go_wp2_with fail
   go_ret
   exact⟨by rw[HF.out];rfl,HK.out⟩
  ·by_cases h2:n.E.length=0
   ·have HP:=Lib.hid (parts_at n.S.toNat 64 (by omega) (by omega) (by omega))
    have hp13:partsN n.S.toNat≤13:=by unfold partsN;omega
    rw[show(n.S.toNat+64-1)/64=partsN n.S.toNat by unfold partsN;congr 1] at HP
    have HU:=Lib.hid (upTo_at n.B (partsN n.S.toNat) hB hp13)
    have HN:=Lib.hid (rightNumbers_at n.B hB)
    have HE:=Lib.hid (λwx=>eq_n13 (a:=n.B) (b:=uptoL n.B (partsN n.S.toNat)) hB (uptoL_len hB hp13) wx)
    have hg13:=guard_n13
    have HD:Hid (decide (FileP n)=(decide (n.B=uptoL n.B (partsN n.S.toNat))&&decide (NumsP n.B))):=by
     have hiff:FileP n↔(n.B=uptoL n.B (partsN n.S.toNat)∧NumsP n.B):=⟨λh=>⟨h.2.2.1,h.2.2.2⟩,λh=>⟨⟨by omega,by omega⟩,h2,h.1,h.2⟩⟩
     show _=_
     rw[decide_eq_decide.2 hiff,Bool.decide_and]
    obtain⟨s,hs⟩:∃s:Nat,n.S=(s:Int):=⟨n.S.toNat,by omega⟩
    rw[h2] at c17
    rw[hs] at h0 h1 c3 HLS HP HD HE HU hp13
    rw[Int.toNat_natCast] at HP HU HE HD hp13
    generalize partsN s=p at *
    obtain⟨t,ht⟩:∃t,decide (n.B=uptoL n.B p)=t:=⟨_,rfl⟩
    rw[ht] at HD HE
    generalize decide (NumsP n.B)=q at *
    generalize (zs (uptoL n.B p)).toArray=ZU at *
    generalize (zs n.B).toArray=ZB at *
    have heq:=HE.out
    clear ht hB hs HE h2 hat
    cases t
    all_goals
     go_enter Tryz.func57,Tryz.ntmps57
     go_wp2_with fail
     refine wp_region_each (S:=λwx=>Keeps [] (w.alloc (.cells Z 37)) wx) (by kernel_rfl) (by kernel_rfl) (λd _ _ _ _ h=>by cases d<;>exact h) ((Keeps.refl _ _).drew) (by kernel_rfl) ?_
     repeat (first
      |(refine EachList.cons (.agg ZB) (EachIf.load rfl 34 (.tmp 17) rfl _ rfl λwx hx=>HLB.out _ (HB0.out.keep hx (by simp))) ?_;simp only[Act.put,List.setIfInBounds_toArray,List.set_cons_zero,List.set_cons_succ])
      |(refine EachList.cons (.agg ZB) (EachIf.load rfl 34 (.tmp 19) rfl _ rfl λwx hx=>HLB.out _ (HB0.out.keep hx (by simp))) ?_;simp only[Act.put,List.setIfInBounds_toArray,List.set_cons_zero,List.set_cons_succ])
      |(refine EachList.cons _ (EachIf.load rfl 3 (.tmp 21) rfl _ rfl λwx hx=>HLS.out _ (HB0.out.keep hx (by simp))) ?_;simp only[Act.put,List.setIfInBounds_toArray,List.set_cons_zero,List.set_cons_succ])
      |(refine EachList.cons (.int .i64 (p:Int)) (EachIf.call rfl 70 #[.int .i64 (s:Int),.int .i64 64] ?he ?h) ?_;(case he=>(intro wz;go_simp));(case h=>exact λwx hx=>(HP.out wx).mono λe w' he=>⟨he.1,by rw[←he.2];exact hx⟩);simp only[Act.put,List.setIfInBounds_toArray,List.set_cons_zero,List.set_cons_succ])
      |(refine EachList.cons (.agg ZU) (EachIf.call rfl 69 #[.agg ZB,.int .i64 (p:Int)] ?he ?h) ?_;(case he=>(intro wz;go_simp));(case h=>exact λwx hx=>(HU.out wx).mono λe w' he=>⟨he.1,hx.trans' he.2⟩);simp only[Act.put,List.setIfInBounds_toArray,List.set_cons_zero,List.set_cons_succ])
      |(refine EachList.cons (.agg ZB) (EachIf.load rfl 34 (.tmp 27) rfl _ rfl λwx hx=>HLB.out _ (HB0.out.keep hx (by simp))) ?_;simp only[Act.put,List.setIfInBounds_toArray,List.set_cons_zero,List.set_cons_succ])
      |(refine EachList.cons (.bool q) (EachIf.call rfl 71 #[.agg ZB] ?he ?h) ?_;(case he=>(intro wz;go_simp));(case h=>exact λwx hx=>(HN.out wx).mono λe w' he=>⟨he.1,hx.trans' he.2⟩);simp only[Act.put,List.setIfInBounds_toArray,List.set_cons_zero,List.set_cons_succ])
      |(refine EachList.cons undef (EachIf.off rfl) ?_;simp only[Act.put,List.setIfInBounds_toArray,List.set_cons_zero,List.set_cons_succ])
      |(refine EachList.cons ?_ (EachIf.val rfl ?h) ?_;(case h=>(intro wx hx;go_simp;rfl));simp only[Act.put,List.setIfInBounds_toArray,List.set_cons_zero,List.set_cons_succ]))
     refine EachList.done λwz hz=> ?_
     have HZ:=Lib.hid (HK.out.trans' hz)
     clear hz
     go_wp2_with fail
     go_ret
     exact⟨by rw[HD.out];rfl,HZ.out⟩
   ·have HF:Hid (decide (FileP n)=false):=decide_eq_false λh=>h2 h.2.1
    have e2:((n.E.length:Nat):Int)≠0:=by omega
    have e3:(((n.E.length:Nat):Int) != 0)=true:=bne_iff_ne.2 e2
    generalize n.S=s at *
    generalize n.E.length=m at *
    clear hB hat
    go_enter Tryz.func57,Tryz.ntmps57
    go_wp2_with fail
    go_ret
    exact⟨by rw[HF.out];rfl,HK.out⟩
def Nats (l:List Int):Prop:=∀k,0≤l.getD k 0∧l.getD k 0<9223372036854775808
theorem wrap_nat64 {x:Int} (h0:0≤x) (h1:x<9223372036854775808):IntKind.u64.wrap x=x:=by rw[IntKind.wrap_u64];omega
set_option maxRecDepth 100000 in
set_option maxHeartbeats 4000000 in
theorem listRow_at (l:List Int) (hl:l.length=13) (hn:Nats l) (w:World):Calls Tryz.prog 82 #[.agg (zs l).toArray] w λe w'=>e= .returned (.agg (u64s (l.drop 5)).toArray)∧Keeps [] w w':=by
 have hd8:(l.drop 5).length=8:=by simp[hl]
 have HND:Hid (∀k,0≤(l.drop 5).getD k 0∧(l.drop 5).getD k 0<9223372036854775808):=λk=>by
  have :=hn (5+k)
  simpa[List.getD_eq_getElem?_getD] using this
 have HR:=Lib.hid (rest_at l hl)
 have hb0:=Blk.new w (zs l).toArray 34
 have HZ8:(u64s (List.replicate 8 0)).toArray=(u64s (fillTo 0 (l.drop 5) 0)).toArray:=by rw[fillTo_zero,hd8]
 obtain⟨w0,hw0⟩:∃w0,w0=((w.alloc (.cells (zs l).toArray 34)).alloc (.cells (u64s (List.replicate 8 0)).toArray 74)).alloc (.cells (u64s (List.replicate 8 0)).toArray 74):=⟨_,rfl⟩
 have HB2:Hid (Blk w0 (w.heap.size+1) (u64s (List.replicate 8 0)).toArray 74):=by
  have :=(Blk.new (w.alloc (.cells (zs l).toArray 34)) (u64s (List.replicate 8 0)).toArray 74).alloc (.cells (u64s (List.replicate 8 0)).toArray 74)
  have e:(w.alloc (.cells (zs l).toArray 34)).heap.size=w.heap.size+1:=by simp
  rw[e,←hw0] at this
  exact this
 have HB3:Hid (Blk w0 (w.heap.size+2) (u64s (fillTo 0 (l.drop 5) 0)).toArray 74):=by
  have :=Blk.new ((w.alloc (.cells (zs l).toArray 34)).alloc (.cells (u64s (List.replicate 8 0)).toArray 74)) (u64s (List.replicate 8 0)).toArray 74
  have e:((w.alloc (.cells (zs l).toArray 34)).alloc (.cells (u64s (List.replicate 8 0)).toArray 74)).heap.size=w.heap.size+2:=by simp
  rw[e,←hw0,HZ8] at this
  exact this
 have HK:Hid (Keeps [] w w0):=by
  show Keeps _ _ _
  rw[hw0]
  exact(((Keeps.refl [] w).alloc _).alloc _).alloc _
 have HL:Hid ((loadVar 34 ⟨w.heap.size,0,none⟩).run Tryz.prog w0= .ok (.agg (zs l).toArray) w0):=by
  rw[hw0]
  exact load_n13 (off:=0) ((hb0.alloc _).alloc _) hl (λk hk=>by rw[Nat.zero_add,List.getElem?_toArray,zs_get (by omega)])
 have HX:Hid (∀k,k<8→(zs (l.drop 5)).toArray[k]? =some (.int .i64 ((l.drop 5).getD k 0))):=λk hk=>by rw[List.getElem?_toArray,zs_get (by omega)]
 have hzv:=zero_r8
 have HW0:=Lib.hid hw0
 clear hb0 HZ8 hn hw0
 generalize l.drop 5=d at *
 generalize (zs l).toArray=Z at *
 generalize (zs d).toArray=D at *
 generalize hz8:(u64s (List.replicate 8 0)).toArray=Z8 at *
 clear hl
 go_enter Tryz.func82,Tryz.ntmps82
 go_wp2_with((with_reducible show wpList _ _ _ (⟨_,.load 34 (.tmp 1),_,_,_,_⟩::_) _ _);rw[←HW0.out];refine wpList_load_any rfl 34 (.tmp 1) rfl _ rfl _ HL.out ?_)
 refine(HR.out _).mono ?_;rintro e w1 ⟨rfl,hk1⟩
 have HB2':=Lib.hid (HB2.out.keep hk1 (by simp))
 have HB3':=Lib.hid (HB3.out.keep hk1 (by simp))
 have HK1:=Lib.hid (HK.out.trans' hk1)
 clear hk1 HW0 HB2 HB3 HL
 go_wp2_with fail
 go_loopg [8] 8 (λgh s8 wx=>∃k:Nat,k+gh=8∧s8= .int .i64 (k:Int)∧Hid (Blk wx (w.heap.size+2) (u64s (fillTo 0 d k)).toArray 74∧Blk wx (w.heap.size+1) Z8 74∧Keeps [] w wx))
 case atStart=>exact⟨0,by omega,rfl,HB3'.out,HB2'.out,HK1.out⟩
 case round=>
  clear HB2' HB3' HK HK1 hzv
  obtain⟨k,hk,rfl,HP⟩:=hrel
  cases gk with
  |zero=>
   obtain rfl:k=8:=by omega
   have hb3:=HP.out.1
   rw[show fillTo 0 d 8=d by rw[←hd8];exact fillTo_all 0 d] at hb3
   have HL:=Lib.hid (load_r8 hb3 hd8)
   obtain⟨w2,hS,hb4,hk2⟩:=store_whole (P:= Tryz.prog) (ty:= 74) (cs:=u64s d) (by rw[u64s_len,hd8];exact size_r8) HP.out.2.1 (by rw[←hz8];simp[u64s_len,hd8]) (u64s_one _)
   have HS:=Lib.hid hS
   have HL2:=Lib.hid (load_r8 hb4 hd8)
   have HKP:=Lib.hid (HP.out.2.2.trans hk2 (by simp))
   clear hS hb3 hb4 hk2 HP hk
   go_wp2_with(first|((with_reducible show wpList _ _ _ (⟨_,.load 74 (.tmp 3),_,_,_,_⟩::_) _ _);refine wpList_load_any rfl 74 (.tmp 3) rfl _ rfl _ HL.out ?_)|((with_reducible show wpList _ _ _ (⟨_,.store 74 (.tmp 2) (.tmp 17),_,_,_,_⟩::_) _ _);refine wpList_store_any rfl 74 (.tmp 2) (.tmp 17) rfl _ rfl _ rfl _ HS.out ?_))
   exact bodyPost_ret (results_cell Tryz.results82 rfl HL2.out) rfl ⟨rfl,HKP.out⟩
  |succ gg=>
   have hk8:k<8:=by omega
   have hlt:(k:Int)<8:=by omega
   have hk0:(0:Int)≤(k:Int):=by omega
   have hix:=index_n8 hk8 (HX.out k hk8)
   have hw:=wrap_nat64 (HND.out k).1 (HND.out k).2
   have hcell:wr.cell? ⟨w.heap.size+2,k,none⟩=some (.int .u64 ((fillTo 0 d k).getD k 0)):=by
    rw[HP.out.1.cell,List.getElem?_toArray,u64s_get (by rw[fillTo_len _ _ _ (by omega)];omega)]
   have hf:wr.frozen? ⟨w.heap.size+2,k,none⟩=false:=HP.out.1.frozen k
   have HB:Hid (Blk (wr.setCell ⟨w.heap.size+2,k,none⟩ (.int .u64 (d.getD k 0))) (w.heap.size+2) (u64s (fillTo 0 d (k+1))).toArray 74):=by
    have :=HP.out.1.set k (.int .u64 (d.getD k 0))
    rw[List.setIfInBounds_toArray,u64s_set,fillTo_succ 0 d k (by omega) (d.getD k 0) (by simp[List.getD_eq_getElem?_getD,show k<d.length by omega])] at this
    exact this
   have HB':Hid (Blk (wr.setCell ⟨w.heap.size+2,k,none⟩ (.int .u64 (d.getD k 0))) (w.heap.size+1) Z8 74):=HP.out.2.1.other (by simp) _
   have HKP:=Lib.hid HP.out.2.2
   clear HP
   generalize d.getD k 0=x at *
   generalize (fillTo 0 d k).getD k 0=y at *
   go_wp2_with fail
   go_roundg gg
   case measure=>omega
   case rel=>exact⟨k+1,by omega,by go_num,HB.out,HB'.out,HKP.out.setCell (.inr (by show w.heap.size≤w.heap.size+2;omega)) _⟩
end Go.Proofs.YtphojondgfjmgaaGreatDoor
