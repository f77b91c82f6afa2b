/-
  A region that draws its order, whose operations each give one value in every world that meets S, and leave such a world: it is walked in the order of the text. A last operation, for which all others wait, may do what it likes. Nothing of the program is named here. Layer 6 (fmt1): rightFile. Layer 6 (fmt1): listRow. Layer 6 (fmt1): inodeRow. Layer 6 (fmt1): entryRow. Layer 4 (tx): Put. Layer 6 (fmt1): rowAt, putRow.
-/
import Derived.OrdersHeld
import Derived.WalkKit
import Derived.Test.YthpkoknehemdiaaDoorG01
import Derived.Deep.RegionLaw
import Derived.Deep.AppendLies
namespace Go.Proofs.YthpkoknehemdiaaDoor
section
variable {P : Program} {ops : Array Oper} {Q : Exit → Act → World → Prop} {md : Region.Mode} {S : World → Prop}

/-- The operation's outcome: the value v, and a world that meets S. -/
def Steps (P : Program) (S : World → Prop) (v : Value) : Result Next → Prop
  | .ok (.value u) w' => u = v ∧ S w'
  | .ok .skip w' => v = undef ∧ S w'
  | .ok (.enter f args) w' => Calls P f args w' fun e w'' => e = .returned v ∧ S w''
  | _ => False

/-- In state a, in every world that meets S, operation o gives v and leaves a world that meets S. -/
def EachIf (P : Program) (ops : Array Oper) (S : World → Prop) (o : Oper) (v : Value) (a : Act) : Prop :=
  (Region.wanted o (yielded ops a.tmps) = true ∧ ∀ w, S w → Steps P S v ((execOp a.eval o).run P w)) ∨ (Region.wanted o (yielded ops a.tmps) = false ∧ v = undef)

theorem EachIf.of_same {o : Oper} {v : Value} {a a' : Act} (hy : EachIf P ops S o v a) (he : execOp a'.eval o = execOp a.eval o)
    (hw : Region.wanted o (yielded ops a'.tmps) = Region.wanted o (yielded ops a.tmps)) : EachIf P ops S o v a' := by
  unfold EachIf at *
  rw [he, hw]
  exact hy

theorem EachIf.wpOp {i : Nat} {o : Oper} {v : Value} {a : Act} (hi : ops[i]? = some o) (hy : EachIf P ops S o v a) {K : Act → World → Prop} {w : World} (hS : S w) (h : ∀ w', S w' → K (a.put o.dst v) w') : wpOp P ops Q i K a w := by
  unfold Go.wpOp
  simp only [hi]
  rcases hy with ⟨hw, hv⟩ | ⟨hw, rfl⟩
  · have h1 := hv w hS
    simp only [hw, if_true]
    refine .inl ?_
    unfold Oper.wp
    generalize (execOp a.eval o).run P w = r at *
    cases r with
    | ok n w' =>
      cases n with
      | value u => obtain ⟨rfl, h2⟩ := h1; exact h _ h2
      | skip => obtain ⟨rfl, h2⟩ := h1; exact h _ h2
      | enter f args =>
        refine Calls.mono h1 fun e w'' he => ?_
        obtain ⟨rfl, h2⟩ := he
        exact h _ h2
      | _ => exact h1.elim
    | halt x w' => exact h1.elim
  · simp only [hw, Bool.false_eq_true, if_false]; exact h _ hS

/-- In state a, in every world that meets S, operation o gives v and leaves a world that meets S'. -/
def Each2 (P : Program) (ops : Array Oper) (S S' : World → Prop) (o : Oper) (v : Value) (a : Act) : Prop :=
  Region.wanted o (yielded ops a.tmps) = true ∧ ∀ w, S w → Steps P S' v ((execOp a.eval o).run P w)

theorem Each2.wpOp {S S' : World → Prop} {i : Nat} {o : Oper} {v : Value} {a : Act} (hi : ops[i]? = some o) (hy : Each2 P ops S S' o v a) {K : Act → World → Prop} {w : World} (hS : S w) (h : ∀ w', S' w' → K (a.put o.dst v) w') : wpOp P ops Q i K a w := by
  unfold Go.wpOp
  simp only [hi]
  obtain ⟨hw, hv⟩ := hy
  have h1 := hv w hS
  simp only [hw, if_true]
  refine .inl ?_
  unfold Oper.wp
  generalize (execOp a.eval o).run P w = r at *
  cases r with
  | ok n w' =>
    cases n with
    | value u => obtain ⟨rfl, h2⟩ := h1; exact h _ h2
    | skip => obtain ⟨rfl, h2⟩ := h1; exact h _ h2
    | enter f args =>
      refine Calls.mono h1 fun e w'' he => ?_
      obtain ⟨rfl, h2⟩ := he
      exact h _ h2
    | _ => exact h1.elim
  | halt x w' => exact h1.elim

/-- The same under either of two conditions. -/
def EachB (P : Program) (ops : Array Oper) (S : Bool → World → Prop) (o : Oper) (v : Value) (a : Act) : Prop := ∀ b, EachIf P ops (S b) o v a

/-- One operation oj, apart from oi: whether oi's value is in its temporary already makes no difference to it, and it makes none to oi. -/
theorem wpOp_putEach {S : Bool → World → Prop} {j : Nat} {oi oj : Oper} {v : Value} (hj : ops[j]? = some oj) (hap : oi.apart ops oj = true)
    (hsi : ∀ cs b, oi.op ≠ .select cs b) (hsj : ∀ cs b, oj.op ≠ .select cs b)
    (hQ : ∀ c a w, Q (.panic c) (a.put oi.dst v) w → Q (.panic c) a w) {K : Act → World → Prop} {a : Act} {w : World}
    (hy : EachB P ops S oi v a) (h : wpOp P ops Q j K (a.put oi.dst v) w) :
    wpOp P ops Q j (fun a' w' => EachB P ops S oi v a' ∧ K (a'.put oi.dst v) w') a w := by
  obtain ⟨h1, h2, h3⟩ := Oper.apart_spec hap
  have keep : ∀ (a : Act), EachB P ops S oi v a → ∀ u, EachB P ops S oi v (a.put oj.dst u) := fun a hy u =>
    fun b => (hy b).of_same (execOp_put oi hsi a oj.dst u h3) (wanted_put oi a oj.dst u h3)
  have keepD : ∀ d, EachB P ops S oi v { a with defers := d :: a.defers } := fun d => fun b => (hy b).of_same rfl rfl
  unfold Go.wpOp at *
  simp only [hj] at *
  rw [wanted_put oj a oi.dst v h1] at h
  split
  · rename_i hw
    simp only [hw, if_true] at h
    rcases h with h | ⟨hasks, hlets⟩
    case inr => exact .inr ⟨by unfold Oper.asks at *; rw [execOp_put oj hsj a oi.dst v h1] at hasks; exact hasks, hlets⟩
    refine .inl ?_
    unfold Oper.wp at *
    rw [execOp_put oj hsj a oi.dst v h1] at h
    generalize (execOp a.eval oj).run P w = r at *
    cases r with
    | ok n w' =>
      cases n <;> simp only [Oper.upon] at h ⊢
      case value u => exact ⟨keep a hy u, by rw [← Act.put_comm a v u h2]; exact h⟩
      case skip => exact ⟨keep a hy _, by rw [← Act.put_comm a v undef h2]; exact h⟩
      case defer d =>
        refine ⟨keep _ (keepD d) _, ?_⟩
        rw [← Act.put_comm _ v undef h2, ← Act.put_defers]
        exact h
      case enter f args =>
        refine Calls.mono h fun e w'' he => ?_
        cases e with
        | returned u => exact ⟨keep a hy u, by rw [← Act.put_comm a v u h2]; exact he⟩
        | panicked c => exact hQ _ _ _ he
        | outgrown => exact he
      case row row args => exact Rows.mono h fun u w'' he => ⟨keep a hy u, by rw [← Act.put_comm a v u h2]; exact he⟩
    | halt x w' =>
      cases x <;> simp only [Oper.upon] at h ⊢
      case panic u => exact hQ _ _ _ h
  · rename_i hw
    simp only [hw] at h
    exact ⟨keep a hy _, by rw [← Act.put_comm a v undef h2]; exact h⟩

/-- What is listed, all that it waits for is listed. -/
def Closed (md : Region.Mode) (ops : Array Oper) (listed : Array Bool) : Prop :=
  ∀ k o, ops[k]? = some o → listed.getD k true = true → ∀ e ∈ o.after, Region.binds md e = true → listed.getD e.on false = true

/-- L waits for i, by way of others maybe. -/
def leads (md : Region.Mode) (ops : Array Oper) : Nat → Nat → Nat → Bool
  | 0, _, _ => false
  | fuel + 1, i, L => (List.range ops.size).any fun k => k != i && ((ops[k]?).map (·.after.any fun e => Region.binds md e && e.on == i)).getD false && (k == L || leads md ops fuel k L)

theorem getD_flip {listed : Array Bool} {i : Nat} (h : listed.getD i true = false) : listed.getD i false = false := by
  rcases Nat.lt_or_ge i listed.size with h' | h'
  · simp [h'] at h ⊢; exact h
  · simp [Array.getElem?_eq_none h'] at h

theorem leads_waits {listed : Array Bool} (hc : Closed md ops listed) : ∀ (fuel i L : Nat), leads md ops fuel i L = true → listed.getD i true = false → L ∉ Region.ready md ops listed := by
  intro fuel
  induction fuel with
  | zero => intro i L h; simp [leads] at h
  | succ fuel ih =>
    intro i L h hi
    unfold leads at h
    rw [List.any_eq_true] at h
    obtain ⟨k, -, hk⟩ := h
    simp only [Bool.and_eq_true, Bool.or_eq_true, bne_iff_ne, ne_eq] at hk
    obtain ⟨⟨-, hk1⟩, hk2⟩ := hk
    cases ho : ops[k]? with
    | none => simp [ho] at hk1
    | some o =>
      have hk1' : o.after.any (fun e => Region.binds md e && e.on == i) = true := by simpa [ho] using hk1
      obtain ⟨e, he, heb⟩ := Array.any_eq_true'.1 hk1'
      simp only [Bool.and_eq_true, beq_iff_eq] at heb
      obtain ⟨hb, hon⟩ := heb
      have hun : listed.getD e.on false = false := by rw [hon]; exact getD_flip hi
      by_cases hkL : k = L
      · subst hkL
        intro hm
        obtain ⟨-, o', ho', hall⟩ := mem_ready.1 hm
        rw [ho] at ho'
        cases ho'
        rw [hall e he hb] at hun
        cases hun
      · rcases hk2 with hk2 | hk2
        · exact absurd (by simpa using hk2) hkL
        · refine ih k L hk2 ?_
          cases hl : listed.getD k true with
          | false => rfl
          | true =>
            rw [hc k o ho hl e he hb] at hun
            cases hun

theorem closed_set {listed : Array Bool} {j : Nat} (hc : Closed md ops listed) (hj : j ∈ Region.ready md ops listed) : Closed md ops (listed.setIfInBounds j true) := by
  intro k o ho hl e he hb
  by_cases hjk : j = k
  · subst hjk
    obtain ⟨-, o', ho', hall⟩ := mem_ready.1 hj
    rw [ho] at ho'
    cases ho'
    exact getD_set_true (hall e he hb)
  · rw [Go.getD_set_ne true hjk] at hl
    exact getD_set_true (hc k o ho hl e he hb)

/-- Whatever order is picked from here on, in whatever world that meets S (of whether F is listed); L is the first of the last ones. -/
def wpAnyU (P : Program) (md : Region.Mode) (ops : Array Oper) (Q : Exit → Act → World → Prop) (S : Bool → World → Prop) (F L : Nat) : Nat → Array Bool → Act → Prop
  | 0, listed, a => Region.ready md ops listed = [] ∧ ∀ w, S (listed.getD F false) w → Q .normal a w
  | fuel + 1, listed, a =>
    (Region.ready md ops listed = [] → ∀ w, S (listed.getD F false) w → Q .normal a w) ∧
    (∀ i ∈ Region.ready md ops listed, i ≠ L → ∀ w, S (listed.getD F false) w → wpOp P ops Q i (fun a' w' => S ((listed.setIfInBounds i true).getD F false) w' ∧ wpAnyU P md ops Q S F L fuel (listed.setIfInBounds i true) a') a w) ∧
    (L ∈ Region.ready md ops listed → ∀ w, S (listed.getD F false) w → wpOp P ops Q L (wpAny P md ops Q fuel (listed.setIfInBounds L true)) a w)

theorem wpAny_of_U {S : Bool → World → Prop} {F L : Nat} : ∀ (fuel : Nat) (listed : Array Bool) (a : Act), wpAnyU P md ops Q S F L fuel listed a → ∀ w, S (listed.getD F false) w → wpAny P md ops Q fuel listed a w
  | 0, _, _, h, w, hS => ⟨h.1, h.2 w hS⟩
  | fuel + 1, listed, a, h, w, hS => by
    refine ⟨fun h0 => h.1 h0 w hS, fun i hi => ?_⟩
    by_cases hL : i = L
    · subst hL
      exact h.2.2 hi w hS
    · exact wpOp_mono (fun a' w' h' => wpAny_of_U fuel _ a' h'.2 w' h'.1) (h.2.1 i hi hL w hS)

theorem getD_set_false {listed : Array Bool} {i j : Nat} (h : i ≠ j) : (listed.setIfInBounds i true).getD j false = listed.getD j false := by
  simp [Array.getElem?_setIfInBounds_ne h]

theorem wpAnyU_first {S : Bool → World → Prop} {i F L : Nat} {oi : Oper} {v : Value} (hi : ops[i]? = some oi) (hiL : i ≠ L) (hiF : i ≠ F) (hsel : ∀ (j : Nat) (o : Oper) cs b, ops[j]? = some o → o.op ≠ .select cs b)
    (hQ : ∀ c a w, Q (.panic c) (a.put oi.dst v) w → Q (.panic c) a w) (hL : L ≥ ops.size ∨ leads md ops ops.size i L = true) :
    ∀ (fuel : Nat) (listed : Array Bool) (a : Act), Closed md ops listed →
      (∀ j oj, ops[j]? = some oj → j ≠ i → listed.getD j true = false → (∀ e ∈ oj.after, Region.binds md e = true → e.on ≠ i) → oi.apart ops oj = true) →
      i ∈ Region.ready md ops listed → EachB P ops S oi v a →
      wpAnyU P md ops Q S F L fuel (listed.setIfInBounds i true) (a.put oi.dst v) → wpAnyU P md ops Q S F L (fuel + 1) listed a := by
  have noL : ∀ listed : Array Bool, Closed md ops listed → i ∈ Region.ready md ops listed → L ∉ Region.ready md ops listed := by
    intro listed hc hr hm
    rcases hL with hL | hL
    · obtain ⟨-, o, ho, -⟩ := mem_ready.1 hm
      rw [Array.getElem?_eq_none hL] at ho
      cases ho
    · exact leads_waits hc _ i L hL (mem_ready.1 hr).1 hm
  intro fuel
  induction fuel with
  | zero =>
    intro listed a hc _ hr hy H
    refine ⟨fun h => (by rw [h] at hr; cases hr), fun j hj _ w hS => ?_, fun hm => absurd hm (noL listed hc hr)⟩
    by_cases hji : j = i
    · subst hji; exact (hy _).wpOp hi hS fun w' hS' => ⟨by rw [getD_set_false hiF]; exact hS', H⟩
    · have := ready_mono hj hji
      rw [H.1] at this
      cases this
  | succ fuel ih =>
    intro listed a hc hfree hr hy H
    refine ⟨fun h => (by rw [h] at hr; cases hr), fun j hj hjL w hS => ?_, fun hm => absurd hm (noL listed hc hr)⟩
    by_cases hji : j = i
    · subst hji; exact (hy _).wpOp hi hS fun w' hS' => ⟨by rw [getD_set_false hiF]; exact hS', H⟩
    · have h1 := H.2.1 j (ready_mono hj hji) hjL w (by rw [getD_set_false hiF]; exact hS)
      obtain ⟨hjun, oj, hoj, hall⟩ := mem_ready.1 hj
      have hnot : ∀ e ∈ oj.after, Region.binds md e = true → e.on ≠ i := fun e he hb heq => by
        have h1 := hall e he hb
        have h0 := (mem_ready.1 hr).1
        rw [heq] at h1
        rw [getD_flip h0] at h1
        cases h1
      have h2 := wpOp_putEach hoj (hfree j oj hoj hji hjun hnot) (fun cs b => hsel i oi cs b hi) (fun cs b => hsel j oj cs b hoj) hQ hy h1
      have hfree' : ∀ k ok, ops[k]? = some ok → k ≠ i → (listed.setIfInBounds j true).getD k true = false →
          (∀ e ∈ ok.after, Region.binds md e = true → e.on ≠ i) → oi.apart ops ok = true := fun k ok hk hki hun hno => by
        refine hfree k ok hk hki ?_ hno
        by_cases hjk : j = k
        · subst hjk; exact hjun
        · rw [Go.getD_set_ne true hjk] at hun; exact hun
      refine wpOp_mono (fun a' w' h3 => ?_) h2
      obtain ⟨h4, h5, h6⟩ := h3
      rw [Array.setIfInBounds_comm _ _ (Ne.symm hji)] at h6
      rw [Array.setIfInBounds_comm _ _ (Ne.symm hji), getD_set_false hiF] at h5
      exact ⟨h5, ih (listed.setIfInBounds j true) a' (closed_set hc hj) hfree' (ready_mono hr (Ne.symm hji)) h4 h6⟩

/-- The first i are listed. -/
def listedTo (n i : Nat) : Array Bool := ((List.range n).map fun k => decide (k < i)).toArray

theorem listedTo_set (n i : Nat) : (listedTo n i).setIfInBounds i true = listedTo n (i + 1) := by
  apply Array.ext
  · simp [listedTo]
  · intro k h1 h2
    simp only [listedTo, List.setIfInBounds_toArray, List.getElem_toArray, List.getElem_set, List.getElem_map, List.getElem_range]
    by_cases h : i = k
    · subst h; simp
    · rw [if_neg h]
      exact decide_eq_decide.2 ⟨fun h => by omega, fun h' => by omega⟩

theorem listedTo_zero (n : Nat) : listedTo n 0 = Array.replicate n false := by
  apply Array.ext
  · simp [listedTo]
  · intro k h1 h2
    simp [listedTo]

/-- The order of the text is one that may be picked; each of the first m operations may be taken first where it stands, and the last one waits for it. -/
def textB (md : Region.Mode) (ops : Array Oper) (m L : Nat) : Bool :=
  Region.noSelect ops && (List.range m).all fun i => Region.free md ops (listedTo ops.size i) i && (Region.ready md ops (listedTo ops.size i)).contains i && (decide (ops.size ≤ L) || leads md ops ops.size i L)

theorem closed_to {m L : Nat} (h : textB md ops m L = true) : ∀ i, i ≤ m → Closed md ops (listedTo ops.size i) := by
  intro i
  induction i with
  | zero =>
    intro _ k o ho hl
    rw [listedTo_zero] at hl
    have hk : k < ops.size := (Array.getElem?_eq_some_iff.1 ho).1
    simp [hk] at hl
  | succ i ih =>
    intro hi
    rw [← listedTo_set]
    simp only [textB, Bool.and_eq_true, List.all_eq_true, List.mem_range] at h
    exact closed_set (ih (by omega)) (by simpa using (h.2 i (by omega)).1.2)

/-- One operation behind the other, in the order of the text; E: what is asked behind them. -/
def EachList (P : Program) (ops : Array Oper) (S : World → Prop) (E : Act → World → Prop) : List Oper → Act → Prop
  | [], a => ∀ w, S w → E a w
  | o :: rest, a => ∃ v, EachIf P ops S o v a ∧ EachList P ops S E rest (a.put o.dst v)

/-- The same under either of two conditions. -/
def EachListB (P : Program) (ops : Array Oper) (S : Bool → World → Prop) (E : Act → Prop) : List Oper → Act → Prop
  | [], a => E a
  | o :: rest, a => ∃ v, EachB P ops S o v a ∧ EachListB P ops S E rest (a.put o.dst v)

theorem EachList.toB {E : Act → World → Prop} : ∀ (l : List Oper) (a : Act), EachList P ops S E l a → EachListB P ops (fun _ => S) (fun a => ∀ w, S w → E a w) l a
  | [], _, h => h
  | _ :: l, _, ⟨v, h1, h2⟩ => ⟨v, fun _ => h1, EachList.toB l _ h2⟩

theorem eachU {S : Bool → World → Prop} {m F L : Nat} (ht : textB md ops m L = true) (hmL : m ≤ L) (hmF : m ≤ F) (hQ : ∀ d v c a w, Q (.panic c) (Act.put a d v) w → Q (.panic c) a w) {E : Act → Prop}
    (hend : ∀ a, E a → wpAnyU P md ops Q S F L (ops.size - m) (listedTo ops.size m) a) :
    ∀ (l : List Oper) (i : Nat) (a : Act), i + l.length = m → m ≤ ops.size → (∀ k, k < l.length → ops[i + k]? = l[k]?) → EachListB P ops S E l a → wpAnyU P md ops Q S F L (ops.size - i) (listedTo ops.size i) a := by
  have ht' := ht
  simp only [textB, Bool.and_eq_true, List.all_eq_true, List.mem_range] at ht'
  intro l
  induction l with
  | nil =>
    intro i a hl hm _ h
    obtain rfl : i = m := by simpa using hl
    exact hend a h
  | cons o rest ih =>
    intro i a hl hm hops h
    rw [List.length_cons] at hl
    obtain ⟨v, hv, hr⟩ := h
    have ho : ops[i]? = some o := by simpa using hops 0 (by simp)
    obtain ⟨⟨c1, c2⟩, c3⟩ := ht'.2 i (by omega)
    have hrec := ih (i + 1) (a.put o.dst v) (by omega) hm (fun k hk => by
      have := hops (k + 1) (by simpa using hk)
      rw [show i + 1 + k = i + (k + 1) by omega, this]
      simp) hr
    rw [← listedTo_set] at hrec
    rw [show ops.size - i = (ops.size - (i + 1)) + 1 by omega]
    refine wpAnyU_first ho (by omega) (by omega) (Region.noSelect_spec ht'.1) (hQ o.dst v) ?_ _ _ a (closed_to ht i (by omega)) (Region.free_spec ho c1) (by simpa using c2) hv hrec
    simp only [Bool.or_eq_true, decide_eq_true_eq] at c3
    exact c3

/-- THE LAW: all operations in the order of the text. -/
theorem wp_region_each {id : Nat} {a : Act} {w : World} (hm : P.follows .mixedOrders = true) (ht : textB .any ops ops.size ops.size = true) (hQ : ∀ d v c a w, Q (.panic c) (Act.put a d v) w → Q (.panic c) a w) (hS : S w.drew)
    (hready : Region.ready .any ops (listedTo ops.size ops.size) = []) (h : EachList P ops S (Q .normal) ops.toList a) : (Code.region id ops true).wp P Q a w := by
  refine wp_region_any hm ?_
  rw [← listedTo_zero]
  refine wpAny_of_U (S := fun _ => S) (F := ops.size) (L := ops.size) _ _ _ ?_ _ hS
  refine eachU (m := ops.size) ht (Nat.le_refl _) (Nat.le_refl _) hQ (E := fun a => ∀ w, S w → Q .normal a w) (fun a h => ?_) ops.toList 0 a (by simp) (Nat.le_refl _) (fun k hk => by simp) (EachList.toB _ _ h)
  rw [Nat.sub_self]
  exact ⟨hready, h⟩

/-- Operations that come up one behind the other, and in no other order. -/
theorem tail_any : ∀ (l : List Oper) (i : Nat) (a : Act) (w : World), i + l.length = ops.size → (∀ k, k < l.length → ops[i + k]? = l[k]?) → (∀ j, i ≤ j → j < ops.size → Region.ready md ops (listedTo ops.size j) = [j]) →
    Region.ready md ops (listedTo ops.size ops.size) = [] → wpList P ops Q l a w → wpAny P md ops Q (ops.size - i) (listedTo ops.size i) a w := by
  intro l
  induction l with
  | nil =>
    intro i a w hl _ _ hr h
    obtain rfl : i = ops.size := by simpa using hl
    rw [Nat.sub_self]
    exact ⟨hr, h⟩
  | cons o rest ih =>
    intro i a w hl hops hready hr h
    rw [List.length_cons] at hl
    have ho : ops[i]? = some o := by simpa using hops 0 (by simp)
    have h1 := hready i (Nat.le_refl _) (by omega)
    rw [show ops.size - i = (ops.size - (i + 1)) + 1 by omega]
    refine ⟨fun h0 => (by rw [h1] at h0; cases h0), fun j hj => ?_⟩
    rw [h1, List.mem_singleton] at hj
    subst hj
    rw [listedTo_set]
    have h2 : wpOp P ops Q j (wpList P ops Q rest) a w := by
      unfold Go.wpOp
      simp only [ho]
      unfold wpList at h
      exact h
    refine wpOp_mono (fun a' w' h' => ih (j + 1) a' w' (by omega) (fun k hk => ?_) (fun i hi hi2 => hready i (by omega) hi2) hr h') h2
    have := hops (k + 1) (by simpa using hk)
    rw [show j + 1 + k = j + (k + 1) by omega, this]
    simp

theorem ready_single {m r : Nat} (hr1 : ((List.range r).all fun k => Region.ready md ops (listedTo ops.size (m + k)) == [m + k]) = true) : ∀ j, m ≤ j → j < m + r → Region.ready md ops (listedTo ops.size j) = [j] := fun j hj hj2 => by
  have := List.all_eq_true.1 hr1 (j - m) (by rw [List.mem_range]; omega)
  rw [show m + (j - m) = j by omega] at this
  simpa using this

/-- THE LAW, WITH LAST OPERATIONS that wait for all others, and for each other. -/
theorem wp_region_last {id : Nat} {a : Act} {w : World} {l : List Oper} {o : Oper} {tl : List Oper} (hm : P.follows .mixedOrders = true) (hops : ops.toList = l ++ (o :: tl)) (ht : textB .any ops l.length l.length = true) (hQ : ∀ d v c a w, Q (.panic c) (Act.put a d v) w → Q (.panic c) a w) (hS : S w.drew)
    (hr1 : ((List.range (tl.length + 1)).all fun k => Region.ready .any ops (listedTo ops.size (l.length + k)) == [l.length + k]) = true) (hr2 : Region.ready .any ops (listedTo ops.size ops.size) = []) (h : EachList P ops S (wpList P ops Q (o :: tl)) l a) : (Code.region id ops true).wp P Q a w := by
  have hsz : ops.size = l.length + (tl.length + 1) := by rw [← Array.length_toList, hops]; simp
  have hready := ready_single hr1
  rw [← hsz] at hready
  refine wp_region_any hm ?_
  rw [← listedTo_zero]
  refine wpAny_of_U (S := fun _ => S) (F := ops.size) (L := l.length) _ _ _ ?_ _ hS
  have hget : ∀ k, ops[k]? = (l ++ (o :: tl))[k]? := fun k => by rw [← hops, Array.getElem?_toList]
  refine eachU (m := l.length) ht (Nat.le_refl _) (by omega) hQ (E := fun a => ∀ w, S w → wpList P ops Q (o :: tl) a w) (fun a h => ?_) l 0 a (by simp) (by omega) (fun k hk => by rw [hget, Nat.zero_add, List.getElem?_append_left hk]) (EachList.toB _ _ h)
  have h1 := hready l.length (Nat.le_refl _) (by omega)
  have hany : ∀ w, S w → wpAny P .any ops Q (ops.size - l.length) (listedTo ops.size l.length) a w := fun w hS =>
    tail_any (o :: tl) l.length a w (by simpa using hsz.symm) (fun k hk => by rw [hget, List.getElem?_append_right (by omega), Nat.add_sub_cancel_left]) hready hr2 (h w hS)
  rw [show ops.size - l.length = tl.length + 1 by omega] at hany ⊢
  refine ⟨fun h0 => (by rw [h1] at h0; cases h0), fun i hi hne => ?_, fun hm w hS => (hany w hS).2 _ hm⟩
  rw [h1, List.mem_singleton] at hi
  exact absurd hi hne

theorem listedTo_getD {n F i : Nat} (h : F < n) : (listedTo n i).getD F false = decide (F < i) := by
  simp [listedTo, h]

theorem midU {S : Bool → World → Prop} {F L : Nat} (hready : ∀ j, F < j → j < ops.size → Region.ready md ops (listedTo ops.size j) = [j]) {E : Act → World → Prop}
    (hend : ∀ a, (∀ w, S true w → E a w) → wpAnyU P md ops Q S F L (ops.size - L) (listedTo ops.size L) a) :
    ∀ (l : List Oper) (i : Nat) (a : Act), F < i → i + l.length = L → L < ops.size → (∀ k, k < l.length → ops[i + k]? = l[k]?) → EachList P ops (S true) E l a → wpAnyU P md ops Q S F L (ops.size - i) (listedTo ops.size i) a := by
  intro l
  induction l with
  | nil =>
    intro i a _ hl _ _ h
    obtain rfl : i = L := by simpa using hl
    exact hend a h
  | cons o rest ih =>
    intro i a hF hl hL hops h
    rw [List.length_cons] at hl
    obtain ⟨v, hv, hr⟩ := h
    have ho : ops[i]? = some o := by simpa using hops 0 (by simp)
    have h1 := hready i hF (by omega)
    have hrec := ih (i + 1) (a.put o.dst v) (by omega) (by omega) hL (fun k hk => by
      have := hops (k + 1) (by simpa using hk)
      rw [show i + 1 + k = i + (k + 1) by omega, this]
      simp) hr
    rw [show ops.size - i = (ops.size - (i + 1)) + 1 by omega]
    refine ⟨fun h0 => (by rw [h1] at h0; cases h0), fun j hj _ w hS => ?_, fun hm => ?_⟩
    · rw [h1, List.mem_singleton] at hj
      subst hj
      rw [listedTo_getD (by omega), decide_eq_true (show F < j by omega)] at hS
      refine hv.wpOp ho hS fun w' hS' => ?_
      rw [listedTo_set, listedTo_getD (by omega), decide_eq_true (show F < j + 1 by omega)]
      exact ⟨hS', hrec⟩
    · rw [h1, List.mem_singleton] at hm
      omega

/-- THE LAW, WITH A STORE f that may come up at any time, then operations mid, and last operations that wait for all others. -/
theorem wp_region_store {S : Bool → World → Prop} {id : Nat} {a : Act} {w : World} {l mid : List Oper} {f o : Oper} {tl : List Oper} (hm : P.follows .mixedOrders = true) (hops : ops.toList = l ++ (f :: (mid ++ (o :: tl)))) (ht : textB .any ops l.length (l.length + 1 + mid.length) = true) (hQ : ∀ d v c a w, Q (.panic c) (Act.put a d v) w → Q (.panic c) a w) (hS : S false w.drew)
    (hr1 : ((List.range (ops.size - l.length)).all fun k => Region.ready .any ops (listedTo ops.size (l.length + k)) == [l.length + k]) = true) (hr2 : Region.ready .any ops (listedTo ops.size ops.size) = [])
    (h : EachListB P ops S (fun a => ∃ v, Each2 P ops (S false) (S true) f v a ∧ EachList P ops (S true) (wpList P ops Q (o :: tl)) mid (a.put f.dst v)) l a) : (Code.region id ops true).wp P Q a w := by
  have hsz : ops.size = l.length + (1 + (mid.length + (1 + tl.length))) := by rw [← Array.length_toList, hops]; simp; omega
  have hready := ready_single hr1
  rw [show l.length + (ops.size - l.length) = ops.size by omega] at hready
  refine wp_region_any hm ?_
  rw [← listedTo_zero]
  refine wpAny_of_U (S := S) (F := l.length) (L := l.length + 1 + mid.length) _ _ _ ?_ _ (by rw [listedTo_getD (by omega)]; exact hS)
  have hget : ∀ k, ops[k]? = (l ++ (f :: (mid ++ (o :: tl))))[k]? := fun k => by rw [← hops, Array.getElem?_toList]
  refine eachU (m := l.length) ht (by omega) (Nat.le_refl _) hQ (fun a h => ?_) l 0 a (by simp) (by omega) (fun k hk => by rw [hget, Nat.zero_add, List.getElem?_append_left hk]) h
  obtain ⟨v, hf, hrest⟩ := h
  have h1 := hready l.length (Nat.le_refl _) (by omega)
  have hmid := midU (md := .any) (Q := Q) (S := S) (F := l.length) (L := l.length + 1 + mid.length) (fun j hj => hready j (by omega)) (E := wpList P ops Q (o :: tl)) (fun a2 h => by
    have h2 := hready (l.length + 1 + mid.length) (by omega) (by omega)
    have hany : ∀ w, S true w → wpAny P .any ops Q (ops.size - (l.length + 1 + mid.length)) (listedTo ops.size (l.length + 1 + mid.length)) a2 w := fun w hS =>
      tail_any (o :: tl) (l.length + 1 + mid.length) _ w (by simp; omega) (fun k hk => by
        rw [hget, List.getElem?_append_right (by omega), show l.length + 1 + mid.length + k - l.length = mid.length + k + 1 by omega, List.getElem?_cons_succ, List.getElem?_append_right (by omega), Nat.add_sub_cancel_left]) (fun j hj => hready j (by omega)) hr2 (h w hS)
    rw [show ops.size - (l.length + 1 + mid.length) = tl.length + 1 by omega] at hany ⊢
    refine ⟨fun h0 => (by rw [h2] at h0; cases h0), fun i hi hne => ?_, fun hm w hS => ?_⟩
    · rw [h2, List.mem_singleton] at hi
      exact absurd hi hne
    · rw [listedTo_getD (by omega), decide_eq_true (by omega)] at hS
      exact (hany w hS).2 _ hm) mid (l.length + 1) (a.put f.dst v) (by omega) rfl (by omega) (fun k hk => by
        rw [hget, List.getElem?_append_right (by omega), show l.length + 1 + k - l.length = k + 1 by omega, List.getElem?_cons_succ, List.getElem?_append_left hk]) hrest
  rw [show ops.size - l.length = (ops.size - (l.length + 1)) + 1 by omega]
  refine ⟨fun h0 => (by rw [h1] at h0; cases h0), fun i hi hne w hS => ?_, fun hm => ?_⟩
  · rw [h1, List.mem_singleton] at hi
    subst hi
    rw [listedTo_getD (by omega), decide_eq_false (by omega)] at hS
    refine hf.wpOp (by rw [hget]; simp) hS fun w' hS' => ?_
    rw [listedTo_set, listedTo_getD (by omega), decide_eq_true (by omega)]
    exact ⟨hS', hmid⟩
  · rw [h1, List.mem_singleton] at hm
    omega

theorem EachListB.cons {S : Bool → World → Prop} {E : Act → Prop} {o : Oper} {rest : List Oper} {a : Act} (v : Value) (h : ∀ b, EachIf P ops (S b) o v a) (hr : EachListB P ops S E rest (a.put o.dst v)) : EachListB P ops S E (o :: rest) a := ⟨v, h, hr⟩
theorem EachListB.done {S : Bool → World → Prop} {E : Act → Prop} {a : Act} (h : E a) : EachListB P ops S E [] a := h

theorem EachList.cons {E : Act → World → Prop} {o : Oper} {rest : List Oper} {a : Act} (v : Value) (h : EachIf P ops S o v a) (hr : EachList P ops S E rest (a.put o.dst v)) : EachList P ops S E (o :: rest) a := ⟨v, h, hr⟩

theorem EachList.done {E : Act → World → Prop} {a : Act} (h : ∀ w, S w → E a w) : EachList P ops S E [] a := h

/-- An operation that gives a value in whatever world, and does nothing else. -/
theorem EachIf.val {o : Oper} {v : Value} {a : Act} (hw : Region.wanted o (yielded ops a.tmps) = true) (h : ∀ w, S w → (execOp a.eval o).run P w = .ok (.value v) w) : EachIf P ops S o v a :=
  .inl ⟨hw, fun w hS => by rw [h w hS]; exact ⟨rfl, hS⟩⟩

theorem EachIf.off {o : Oper} {a : Act} (hw : Region.wanted o (yielded ops a.tmps) = false) : EachIf P ops S o undef a := .inr ⟨hw, rfl⟩

theorem EachIf.load {o : Oper} {v : Value} {a : Act} (hw : Region.wanted o (yielded ops a.tmps) = true) (ty : TypeId) (x : Operand) (ho : o.op = .load ty x) (ad : Addr) (hx : a.eval x = .pointer (some ad)) (h : ∀ w, S w → (loadVar ty ad).run P w = .ok v w) : EachIf P ops S o v a :=
  .val hw fun w hS => by
    unfold execOp
    simp only [ho, hx, Instr.loadAt, Instr.sureAddr, Sem.run_bind, Sem.run_pure, Result.andThen_ok, h w hS]

theorem Each2.store {S S' : World → Prop} {o : Oper} {a : Act} (hw : Region.wanted o (yielded ops a.tmps) = true) (ty : TypeId) (x y : Operand) (ho : o.op = .store ty x y) (ad : Addr) (hx : a.eval x = .pointer (some ad)) (v : Value) (hy : a.eval y = v)
    (h : ∀ w, S w → ∃ w', (storeVar ty ad v).run P w = .ok () w' ∧ S' w') : Each2 P ops S S' o undef a :=
  ⟨hw, fun w hS => by
    obtain ⟨w', h1, h2⟩ := h w hS
    unfold execOp
    simp only [ho, hx, hy, Instr.storeAt, Instr.sureAddr, Sem.run_bind, Sem.run_pure, Result.andThen_ok, h1]
    exact ⟨rfl, h2⟩⟩

theorem EachIf.call {o : Oper} {v : Value} {a : Act} (hw : Region.wanted o (yielded ops a.tmps) = true) (f : Nat) (args : Array Value) (he : ∀ w, (execOp a.eval o).run P w = .ok (.enter f args) w) (h : ∀ w, S w → Calls P f args w fun e w' => e = .returned v ∧ S w') : EachIf P ops S o v a :=
  .inl ⟨hw, fun w hS => by rw [he w]; exact h w hS⟩
end

end Go.Proofs.YthpkoknehemdiaaDoor

namespace Go.Proofs.YthpkoknehemdiaaDoor
open Go.RowKit

set_option maxRecDepth 100000 in
set_option maxHeartbeats 4000000 in
theorem rightFile_at (n : Ino) (a : Option Addr) (cap : Nat) (hB : n.B.length = 13) (w : World) : Calls Tryd.prog 36 #[.agg (inoC n (.slice a n.E.length cap))] w fun e w' => e = .returned (.bool (decide (FileP n))) ∧ Keeps [] w w' := by
  obtain ⟨Z, hZ⟩ : ∃ Z, Z = inoC n (.slice a n.E.length cap) := ⟨_, rfl⟩
  have hat : InoAt Z n (.slice a n.E.length cap) := by rw [hZ]; exact inoAt _ hB
  rw [← hZ]
  have hb0 := Blk.new w Z 25
  have c3 : (w.alloc (.cells Z 25)).cell? ⟨w.heap.size, 3, none⟩ = some (.int .i64 n.S) := by rw [hb0.cell]; exact hat.f3
  have c17 : (w.alloc (.cells Z 25)).cell? ⟨w.heap.size, 17, none⟩ = some (.slice a n.E.length cap) := by rw [hb0.cell]; exact hat.f5
  have HK : Hid (Keeps [] w (w.alloc (.cells Z 25))) := (Keeps.refl [] w).alloc _
  have HB0 := Lib.hid hb0
  have HLB : Hid (∀ wx : World, Blk wx w.heap.size Z 25 → (loadVar 22 ⟨w.heap.size, 4, none⟩).run Tryd.prog wx = .ok (.agg (zs n.B).toArray) wx) := fun wx hb => load_n13 (off := 4) hb hB hat.f4
  have HLS : Hid (∀ wx : World, Blk wx w.heap.size Z 25 → (loadVar 3 ⟨w.heap.size, 3, none⟩).run Tryd.prog wx = .ok (.int .i64 n.S) wx) := fun wx hb => load_one (off := 3) Tryd.underlying3 hb hat.f3
  clear hb0 hZ
  by_cases h0 : n.S < 0
  · have HF : Hid (decide (FileP n) = false) := decide_eq_false fun h => by have := h.1.1; omega
    generalize n.S = s at *
    clear hB
    go_enter Tryd.func36, Tryd.ntmps36
    go_wp2_with fail
    go_ret
    exact ⟨by rw [HF.out]; rfl, HK.out⟩
  · by_cases h1 : 832 < n.S
    · have HF : Hid (decide (FileP n) = false) := decide_eq_false fun h => by have := h.1.2; omega
      generalize n.S = s at *
      clear hB
      go_enter Tryd.func36, Tryd.ntmps36
      go_wp2_with fail
      go_ret
      exact ⟨by rw [HF.out]; rfl, HK.out⟩
    · by_cases h2 : n.E.length = 0
      · have HP := Lib.hid (parts_at n.S.toNat 64 (by omega) (by omega) (by omega))
        have hp13 : partsN n.S.toNat ≤ 13 := by unfold partsN; omega
        rw [show (n.S.toNat + 64 - 1) / 64 = partsN n.S.toNat by unfold partsN; congr 1] at HP
        have HU := Lib.hid (upTo_at n.B (partsN n.S.toNat) hB hp13)
        have HN := Lib.hid (rightNumbers_at n.B hB)
        have HE := Lib.hid (fun wx => eq_n13 (a := n.B) (b := uptoL n.B (partsN n.S.toNat)) hB (uptoL_len hB hp13) wx)
        have hg13 := guard_n13
        have HD : Hid (decide (FileP n) = (decide (n.B = uptoL n.B (partsN n.S.toNat)) && decide (NumsP n.B))) := by
          have hiff : FileP n ↔ (n.B = uptoL n.B (partsN n.S.toNat) ∧ NumsP n.B) := ⟨fun h => ⟨h.2.2.1, h.2.2.2⟩, fun h => ⟨⟨by omega, by omega⟩, h2, h.1, h.2⟩⟩
          show _ = _
          rw [decide_eq_decide.2 hiff, Bool.decide_and]
        obtain ⟨s, hs⟩ : ∃ s : Nat, n.S = (s : Int) := ⟨n.S.toNat, by omega⟩
        rw [h2] at c17
        rw [hs] at h0 h1 c3 HLS HP HD HE HU hp13
        rw [Int.toNat_natCast] at HP HU HE HD hp13
        generalize partsN s = p at *
        obtain ⟨t, ht⟩ : ∃ t, decide (n.B = uptoL n.B p) = t := ⟨_, rfl⟩
        rw [ht] at HD HE
        generalize decide (NumsP n.B) = q at *
        generalize (zs (uptoL n.B p)).toArray = ZU at *
        generalize (zs n.B).toArray = ZB at *
        have heq := HE.out
        clear ht hB hs HE h2 hat
        cases t
        all_goals
          go_enter Tryd.func36, Tryd.ntmps36
          go_wp2_with fail
          refine wp_region_each (S := fun wx => Keeps [] (w.alloc (.cells Z 25)) wx) (by kernel_rfl) (by kernel_rfl) (fun d _ _ _ _ h => by cases d <;> exact h) ((Keeps.refl _ _).drew) (by kernel_rfl) ?_
          repeat (first
            | (refine EachList.cons (.agg ZB) (EachIf.load rfl 22 (.tmp 17) rfl _ rfl fun wx hx => HLB.out _ (HB0.out.keep hx (by simp))) ?_; simp only [Act.put, List.setIfInBounds_toArray, List.set_cons_zero, List.set_cons_succ])
            | (refine EachList.cons (.agg ZB) (EachIf.load rfl 22 (.tmp 19) rfl _ rfl fun wx hx => HLB.out _ (HB0.out.keep hx (by simp))) ?_; simp only [Act.put, List.setIfInBounds_toArray, List.set_cons_zero, List.set_cons_succ])
            | (refine EachList.cons _ (EachIf.load rfl 3 (.tmp 21) rfl _ rfl fun wx hx => HLS.out _ (HB0.out.keep hx (by simp))) ?_; simp only [Act.put, List.setIfInBounds_toArray, List.set_cons_zero, List.set_cons_succ])
            | (refine EachList.cons (.int .i64 (p : Int)) (EachIf.call rfl 47 #[.int .i64 (s : Int), .int .i64 64] ?he ?h) ?_; (case he => (intro wz; go_simp)); (case h => exact fun wx hx => (HP.out wx).mono fun e w' he => ⟨he.1, by rw [← he.2]; exact hx⟩); simp only [Act.put, List.setIfInBounds_toArray, List.set_cons_zero, List.set_cons_succ])
            | (refine EachList.cons (.agg ZU) (EachIf.call rfl 50 #[.agg ZB, .int .i64 (p : Int)] ?he ?h) ?_; (case he => (intro wz; go_simp)); (case h => exact fun wx hx => (HU.out wx).mono fun e w' he => ⟨he.1, hx.trans' he.2⟩); simp only [Act.put, List.setIfInBounds_toArray, List.set_cons_zero, List.set_cons_succ])
            | (refine EachList.cons (.agg ZB) (EachIf.load rfl 22 (.tmp 27) rfl _ rfl fun wx hx => HLB.out _ (HB0.out.keep hx (by simp))) ?_; simp only [Act.put, List.setIfInBounds_toArray, List.set_cons_zero, List.set_cons_succ])
            | (refine EachList.cons (.bool q) (EachIf.call rfl 52 #[.agg ZB] ?he ?h) ?_; (case he => (intro wz; go_simp)); (case h => exact fun wx hx => (HN.out wx).mono fun e w' he => ⟨he.1, hx.trans' he.2⟩); simp only [Act.put, List.setIfInBounds_toArray, List.set_cons_zero, List.set_cons_succ])
            | (refine EachList.cons undef (EachIf.off rfl) ?_; simp only [Act.put, List.setIfInBounds_toArray, List.set_cons_zero, List.set_cons_succ])
            | (refine EachList.cons ?_ (EachIf.val rfl ?h) ?_; (case h => (intro wx hx; go_simp; rfl)); simp only [Act.put, List.setIfInBounds_toArray, List.set_cons_zero, List.set_cons_succ]))
          refine EachList.done fun wz hz => ?_
          have HZ := Lib.hid (HK.out.trans' hz)
          clear hz
          go_wp2_with fail
          go_ret
          exact ⟨by rw [HD.out]; rfl, HZ.out⟩
      · have HF : Hid (decide (FileP n) = false) := decide_eq_false fun h => h2 h.2.1
        have e2 : ((n.E.length : Nat) : Int) ≠ 0 := by omega
        have e3 : (((n.E.length : Nat) : Int) != 0) = true := bne_iff_ne.2 e2
        generalize n.S = s at *
        generalize n.E.length = m at *
        clear hB hat
        go_enter Tryd.func36, Tryd.ntmps36
        go_wp2_with fail
        go_ret
        exact ⟨by rw [HF.out]; rfl, HK.out⟩

end Go.Proofs.YthpkoknehemdiaaDoor

namespace Go.Proofs.YthpkoknehemdiaaDoor
open Go.RowKit

/-- All are words. -/
def Nats (l : List Int) : Prop := ∀ k, 0 ≤ l.getD k 0 ∧ l.getD k 0 < 9223372036854775808

theorem wrap_nat64 {x : Int} (h0 : 0 ≤ x) (h1 : x < 9223372036854775808) : IntKind.u64.wrap x = x := by rw [IntKind.wrap_u64]; omega

/-- The first k of l, noughts behind. -/
def rowTo (l : List Int) (k : Nat) : List Int := fillTo 0 l k

set_option maxRecDepth 100000 in
set_option maxHeartbeats 4000000 in
theorem listRow_at (l : List Int) (hl : l.length = 13) (hn : Nats l) (w : World) : Calls Tryd.prog 30 #[.agg (zs l).toArray] w fun e w' => e = .returned (.agg (u64s (l.drop 5)).toArray) ∧ Keeps [] w w' := by
  have hd8 : (l.drop 5).length = 8 := by simp [hl]
  have HND : Hid (∀ k, 0 ≤ (l.drop 5).getD k 0 ∧ (l.drop 5).getD k 0 < 9223372036854775808) := fun k => by
    have := hn (5 + k)
    simpa [List.getD_eq_getElem?_getD] using this
  have HR := Lib.hid (rest_at l hl)
  have hb0 := Blk.new w (zs l).toArray 22
  have HZ8 : (u64s (List.replicate 8 0)).toArray = (u64s (fillTo 0 (l.drop 5) 0)).toArray := by rw [fillTo_zero, hd8]
  obtain ⟨w0, hw0⟩ : ∃ w0, w0 = ((w.alloc (.cells (zs l).toArray 22)).alloc (.cells (u64s (List.replicate 8 0)).toArray 63)).alloc (.cells (u64s (List.replicate 8 0)).toArray 63) := ⟨_, rfl⟩
  have HB2 : Hid (Blk w0 (w.heap.size + 1) (u64s (List.replicate 8 0)).toArray 63) := by
    have := (Blk.new (w.alloc (.cells (zs l).toArray 22)) (u64s (List.replicate 8 0)).toArray 63).alloc (.cells (u64s (List.replicate 8 0)).toArray 63)
    have e : (w.alloc (.cells (zs l).toArray 22)).heap.size = w.heap.size + 1 := by simp
    rw [e, ← hw0] at this
    exact this
  have HB3 : Hid (Blk w0 (w.heap.size + 2) (u64s (fillTo 0 (l.drop 5) 0)).toArray 63) := by
    have := Blk.new ((w.alloc (.cells (zs l).toArray 22)).alloc (.cells (u64s (List.replicate 8 0)).toArray 63)) (u64s (List.replicate 8 0)).toArray 63
    have e : ((w.alloc (.cells (zs l).toArray 22)).alloc (.cells (u64s (List.replicate 8 0)).toArray 63)).heap.size = w.heap.size + 2 := by simp
    rw [e, ← hw0, HZ8] at this
    exact this
  have HK : Hid (Keeps [] w w0) := by
    show Keeps _ _ _
    rw [hw0]
    exact (((Keeps.refl [] w).alloc _).alloc _).alloc _
  have HL : Hid ((loadVar 22 ⟨w.heap.size, 0, none⟩).run Tryd.prog w0 = .ok (.agg (zs l).toArray) w0) := by
    rw [hw0]
    exact load_n13 (off := 0) ((hb0.alloc _).alloc _) hl (fun k hk => by rw [Nat.zero_add, List.getElem?_toArray, zs_get (by omega)])
  have HX : Hid (∀ k, k < 8 → (zs (l.drop 5)).toArray[k]? = some (.int .i64 ((l.drop 5).getD k 0))) := fun k hk => by rw [List.getElem?_toArray, zs_get (by omega)]
  have hzv := zero_r8
  have HW0 := Lib.hid hw0
  clear hb0 HZ8 hn hw0
  generalize l.drop 5 = d at *
  generalize (zs l).toArray = Z at *
  generalize (zs d).toArray = D at *
  generalize hz8 : (u64s (List.replicate 8 0)).toArray = Z8 at *
  clear hl
  go_enter Tryd.func30, Tryd.ntmps30
  go_wp2_with ((with_reducible show wpList _ _ _ (⟨_, .load 22 (.tmp 1), _, _, _, _⟩ :: _) _ _); rw [← HW0.out]; refine wpList_load_any rfl 22 (.tmp 1) rfl _ rfl _ HL.out ?_)
  refine (HR.out _).mono ?_; rintro e w1 ⟨rfl, hk1⟩
  have HB2' := Lib.hid (HB2.out.keep hk1 (by simp))
  have HB3' := Lib.hid (HB3.out.keep hk1 (by simp))
  have HK1 := Lib.hid (HK.out.trans' hk1)
  clear hk1 HW0 HB2 HB3 HL
  go_wp2_with fail
  go_loopg [8] 8 (fun gh s8 wx => ∃ k : Nat, k + gh = 8 ∧ s8 = .int .i64 (k : Int) ∧ Hid (Blk wx (w.heap.size + 2) (u64s (fillTo 0 d k)).toArray 63 ∧ Blk wx (w.heap.size + 1) Z8 63 ∧ Keeps [] w wx))
  case atStart => exact ⟨0, by omega, rfl, HB3'.out, HB2'.out, HK1.out⟩
  case round =>
    clear HB2' HB3' HK HK1 hzv
    obtain ⟨k, hk, rfl, HP⟩ := hrel
    cases gk with
    | zero =>
      obtain rfl : k = 8 := by omega
      have hb3 := HP.out.1
      rw [show fillTo 0 d 8 = d by rw [← hd8]; exact fillTo_all 0 d] at hb3
      have HL := Lib.hid (load_r8 hb3 hd8)
      obtain ⟨w2, hS, hb4, hk2⟩ := store_whole (P := Tryd.prog) (ty := 63) (cs := u64s d) (by rw [u64s_len, hd8]; exact size_r8) HP.out.2.1 (by rw [← hz8]; simp [u64s_len, hd8]) (u64s_one _)
      have HS := Lib.hid hS
      have HL2 := Lib.hid (load_r8 hb4 hd8)
      have HKP := Lib.hid (HP.out.2.2.trans hk2 (by simp))
      clear hS hb3 hb4 hk2 HP hk
      go_wp2_with (first | ((with_reducible show wpList _ _ _ (⟨_, .load 63 (.tmp 3), _, _, _, _⟩ :: _) _ _); refine wpList_load_any rfl 63 (.tmp 3) rfl _ rfl _ HL.out ?_) | ((with_reducible show wpList _ _ _ (⟨_, .store 63 (.tmp 2) (.tmp 17), _, _, _, _⟩ :: _) _ _); refine wpList_store_any rfl 63 (.tmp 2) (.tmp 17) rfl _ rfl _ rfl _ HS.out ?_))
      exact bodyPost_ret (results_cell Tryd.results30 rfl HL2.out) rfl ⟨rfl, HKP.out⟩
    | succ gg =>
      have hk8 : k < 8 := by omega
      have hlt : (k : Int) < 8 := by omega
      have hk0 : (0 : Int) ≤ (k : Int) := by omega
      have hix := index_n8 hk8 (HX.out k hk8)
      have hw := wrap_nat64 (HND.out k).1 (HND.out k).2
      have hcell : wr.cell? ⟨w.heap.size + 2, k, none⟩ = some (.int .u64 ((fillTo 0 d k).getD k 0)) := by
        rw [HP.out.1.cell, List.getElem?_toArray, u64s_get (by rw [fillTo_len _ _ _ (by omega)]; omega)]
      have hf : wr.frozen? ⟨w.heap.size + 2, k, none⟩ = false := HP.out.1.frozen k
      have HB : Hid (Blk (wr.setCell ⟨w.heap.size + 2, k, none⟩ (.int .u64 (d.getD k 0))) (w.heap.size + 2) (u64s (fillTo 0 d (k + 1))).toArray 63) := by
        have := HP.out.1.set k (.int .u64 (d.getD k 0))
        rw [List.setIfInBounds_toArray, u64s_set, fillTo_succ 0 d k (by omega) (d.getD k 0) (by simp [List.getD_eq_getElem?_getD, show k < d.length by omega])] at this
        exact this
      have HB' : Hid (Blk (wr.setCell ⟨w.heap.size + 2, k, none⟩ (.int .u64 (d.getD k 0))) (w.heap.size + 1) Z8 63) := HP.out.2.1.other (by simp) _
      have HKP := Lib.hid HP.out.2.2
      clear HP
      generalize d.getD k 0 = x at *
      generalize (fillTo 0 d k).getD k 0 = y at *
      go_wp2_with fail
      go_roundg gg
      case measure => omega
      case rel => exact ⟨k + 1, by omega, by go_num, HB.out, HB'.out, HKP.out.setCell (.inr (by show w.heap.size ≤ w.heap.size + 2; omega)) _⟩

end Go.Proofs.YthpkoknehemdiaaDoor

namespace Go.Proofs.YthpkoknehemdiaaDoor
open Go.RowKit

/-- An inode's tag. -/
def tagW (n : Ino) : Int := n.F + 256 * n.K + 65536 * n.L

/-- What inodeRow asks. -/
structure TagOk (n : Ino) : Prop where
  f : 0 ≤ n.F ∧ n.F < 256
  k : 0 ≤ n.K ∧ n.K < 256
  l : 0 ≤ n.L ∧ n.L < 65536
  s : 0 ≤ n.S ∧ n.S < 9223372036854775808

/-- An inode's words. -/
def inoRow (n : Ino) (l : List Int) (list : Int) : List Int := tagW n :: n.S :: (l.take 5 ++ [list])

theorem tag_or (f k m : Nat) (hf : f < 256) (hk : k < 256) (hm : m < 65536) : bits .or .u64 (f : Int) ((k : Int) * 256) = ((f + k * 256 : Nat) : Int) ∧ bits .or .u64 ((f + k * 256 : Nat) : Int) ((m : Int) * 65536) = ((f + k * 256 + m * 65536 : Nat) : Int) := by
  constructor
  · rw [show (k : Int) * 256 = ((k * 256 : Nat) : Int) by omega, u64_or_nat _ _ (by omega) (by omega), Nat.or_comm, nat_join 8 _ _ (by exact Nat.mul_mod_left _ _) hf, Nat.add_comm]
  · rw [show (m : Int) * 65536 = ((m * 65536 : Nat) : Int) by omega, u64_or_nat _ _ (by omega) (by omega), Nat.or_comm, nat_join 16 _ _ (by exact Nat.mul_mod_left _ _) (show f + k * 256 < 65536 by omega), Nat.add_comm]

/-- The words as they are laid. -/
def irowTo (t s : Int) (l : List Int) (k : Nat) : List Int := t :: s :: (fillTo 0 l k ++ [0])

theorem irowTo_len {t s : Int} {l : List Int} (hl : l.length = 5) {k : Nat} (hk : k ≤ 5) : (irowTo t s l k).length = 8 := by simp [irowTo, fillTo_len, hl, hk]

theorem irowTo_succ {t s : Int} {l : List Int} (hl : l.length = 5) {k : Nat} (hk : k < 5) : (irowTo t s l k).set (2 + k) (l.getD k 0) = irowTo t s l (k + 1) := by
  rw [irowTo, show 2 + k = k + 1 + 1 by omega, List.set_cons_succ, List.set_cons_succ, List.set_append_left _ _ (by rw [fillTo_len _ _ _ (by omega)]; omega), fillTo_succ 0 l k (by omega) (l.getD k 0) (by simp [List.getD_eq_getElem?_getD, show k < l.length by omega])]
  rfl

theorem irowTo_last {t s : Int} {l : List Int} (hl : l.length = 5) (x : Int) : (irowTo t s l 5).set 7 x = t :: s :: (l ++ [x]) := by
  rw [irowTo, show fillTo 0 l 5 = l by rw [← hl]; exact fillTo_all 0 l, List.set_cons_succ, List.set_cons_succ, List.set_append_right _ _ (by omega), hl]
  rfl

set_option maxRecDepth 100000 in
set_option maxHeartbeats 4000000 in
theorem inodeRow_at (n : Ino) (v : Value) (hB : n.B.length = 13) (ht : TagOk n) (l : List Int) (hl : l.length = 13) (hn : Nats l) (list : Int) (h0 : 0 ≤ list ∧ list < 9223372036854775808) (w : World) :
    Calls Tryd.prog 31 #[.agg (inoC n v), .agg (zs l).toArray, .int .i64 list] w fun e w' => e = .returned (.agg (u64s (inoRow n l list)).toArray) ∧ Keeps [] w w' := by
  have hat := inoAt v hB
  generalize inoC n v = Z at *
  have hzv := zero_r8
  have hb1 : Blk (w.alloc (.cells Z 25)) w.heap.size Z 25 := Blk.new _ _ _
  have c0 : ∀ o1 o2 o3, ((((w.alloc (.cells Z 25)).alloc o1).alloc o2).alloc o3).cell? ⟨w.heap.size, 0, none⟩ = some (.int .i64 n.F) := fun o1 o2 o3 => by rw [(((hb1.alloc o1).alloc o2).alloc o3).cell]; exact hat.f0
  have c1 : ∀ o1 o2 o3, ((((w.alloc (.cells Z 25)).alloc o1).alloc o2).alloc o3).cell? ⟨w.heap.size, 1, none⟩ = some (.int .i64 n.K) := fun o1 o2 o3 => by rw [(((hb1.alloc o1).alloc o2).alloc o3).cell]; exact hat.f1
  have c2 : ∀ o1 o2 o3, ((((w.alloc (.cells Z 25)).alloc o1).alloc o2).alloc o3).cell? ⟨w.heap.size, 2, none⟩ = some (.int .i64 n.L) := fun o1 o2 o3 => by rw [(((hb1.alloc o1).alloc o2).alloc o3).cell]; exact hat.f2
  have c3 : ∀ o1 o2 o3, ((((w.alloc (.cells Z 25)).alloc o1).alloc o2).alloc o3).cell? ⟨w.heap.size, 3, none⟩ = some (.int .i64 n.S) := fun o1 o2 o3 => by rw [(((hb1.alloc o1).alloc o2).alloc o3).cell]; exact hat.f3
  obtain ⟨tf, tk, tl, ts⟩ := ht
  obtain ⟨f, hf⟩ : ∃ f : Nat, n.F = (f : Int) := ⟨n.F.toNat, by omega⟩
  obtain ⟨k, hk⟩ : ∃ k : Nat, n.K = (k : Int) := ⟨n.K.toNat, by omega⟩
  obtain ⟨m, hm⟩ : ∃ m : Nat, n.L = (m : Int) := ⟨n.L.toNat, by omega⟩
  obtain ⟨s, hs⟩ : ∃ s : Nat, n.S = (s : Int) := ⟨n.S.toNat, by omega⟩
  rw [hf] at c0 tf
  rw [hk] at c1 tk
  rw [hm] at c2 tl
  rw [hs] at c3 ts
  obtain ⟨q1, q2⟩ := tag_or f k m (by omega) (by omega) (by omega)
  have HTAG : Hid (((f + k * 256 + m * 65536 : Nat) : Int) = tagW n) := by
    show _ = _
    rw [tagW, hf, hk, hm]
    omega
  generalize f + k * 256 + m * 65536 = t at *
  generalize f + k * 256 = t1 at *
  have hl5 : (l.take 5).length = 5 := by simp [hl]
  have HROW : Hid (inoRow n l list = (t : Int) :: (s : Int) :: (l.take 5 ++ [list])) := by
    show _ = _
    rw [inoRow, ← HTAG.out, hs]
  have HNL : Hid (∀ i, i < 5 → (0 ≤ (l.take 5).getD i 0 ∧ (l.take 5).getD i 0 < 9223372036854775808) ∧ l.getD i 0 = (l.take 5).getD i 0) := fun i hi => by
    have e : (l.take 5).getD i 0 = l.getD i 0 := by simp [List.getD_eq_getElem?_getD, hi]
    rw [e]
    exact ⟨hn i, rfl⟩
  have HZL : Hid (∀ i, i < 13 → (zs l).toArray[i]? = some (.int .i64 (l.getD i 0))) := fun i hi => by rw [List.getElem?_toArray, zs_get (by omega)]
  have hwl := wrap_nat64 h0.1 h0.2
  clear hf hk hm hs HTAG hat hb1 hn hB
  rw [HROW.out]
  generalize (zs l).toArray = ZL at *
  go_enter Tryd.func31, Tryd.ntmps31
  go_wp2_with fail
  go_loopg [27] 5 (fun gh s27 wx => ∃ i : Nat, i + gh = 5 ∧ s27 = .int .i64 (i : Int) ∧ Hid (Blk wx (w.heap.size + 1 + 1 + 1) (u64s (irowTo t s (l.take 5) i)).toArray 63 ∧ Blk wx (w.heap.size + 1 + 1) (u64s (List.replicate 8 0)).toArray 63 ∧ Blk wx (w.heap.size + 1) ZL 22 ∧ Keeps [] w wx))
  case atStart =>
    refine ⟨0, by omega, rfl, ?_, ?_, ?_, ((((Keeps.refl _ _).alloc _).alloc _).alloc _).alloc _⟩
    · have := Blk.new (((w.alloc (.cells Z 25)).alloc (.cells ZL 22)).alloc (.cells (u64s (List.replicate 8 0)).toArray 63)) (((u64s (List.replicate 8 0)).set 0 (.int .u64 (t : Int))).set 1 (.int .u64 (s : Int))).toArray 63
      have e : (((w.alloc (.cells Z 25)).alloc (.cells ZL 22)).alloc (.cells (u64s (List.replicate 8 0)).toArray 63)).heap.size = w.heap.size + 1 + 1 + 1 := by simp
      rw [e] at this
      have e2 : (((u64s (List.replicate 8 0)).set 0 (.int .u64 (t : Int))).set 1 (.int .u64 (s : Int))) = u64s (irowTo t s (l.take 5) 0) := by
        rw [irowTo, fillTo_zero, hl5]
        rfl
      rw [← e2]
      exact this
    · have := (Blk.new ((w.alloc (.cells Z 25)).alloc (.cells ZL 22)) (u64s (List.replicate 8 0)).toArray 63).alloc (.cells (((u64s (List.replicate 8 0)).set 0 (.int .u64 (t : Int))).set 1 (.int .u64 (s : Int))).toArray 63)
      have e : ((w.alloc (.cells Z 25)).alloc (.cells ZL 22)).heap.size = w.heap.size + 1 + 1 := by simp
      rw [e] at this
      exact this
    · have := ((Blk.new (w.alloc (.cells Z 25)) ZL 22).alloc (.cells (u64s (List.replicate 8 0)).toArray 63)).alloc (.cells (((u64s (List.replicate 8 0)).set 0 (.int .u64 (t : Int))).set 1 (.int .u64 (s : Int))).toArray 63)
      have e : (w.alloc (.cells Z 25)).heap.size = w.heap.size + 1 := by simp
      rw [e] at this
      exact this
  case round =>
    clear hzv c0 c1 c2 c3 q1 q2
    obtain ⟨i, hi, rfl, HP⟩ := hrel
    obtain ⟨hb1, hb2, hb3, hkp⟩ := HP.out
    cases gk with
    | zero =>
      obtain rfl : i = 5 := by omega
      have hcell : wr.cell? ⟨w.heap.size + 1 + 1 + 1, 7, none⟩ = some (.int .u64 ((irowTo t s (l.take 5) 5).getD 7 0)) := by
        rw [hb1.cell, List.getElem?_toArray, u64s_get (by rw [irowTo_len hl5 (by omega)]; omega)]
      have hfz : wr.frozen? ⟨w.heap.size + 1 + 1 + 1, 7, none⟩ = false := hb1.frozen 7
      have hbs := hb1.set 7 (.int .u64 list)
      rw [List.setIfInBounds_toArray, u64s_set, irowTo_last hl5] at hbs
      have hd8 : ((t : Int) :: (s : Int) :: (l.take 5 ++ [list])).length = 8 := by simp [hl5]
      have HL := Lib.hid (load_r8 hbs hd8)
      obtain ⟨w2, hS, hb4, hk2⟩ := store_whole (P := Tryd.prog) (ty := 63) (cs := u64s ((t : Int) :: (s : Int) :: (l.take 5 ++ [list]))) (by rw [u64s_len, hd8]; exact size_r8) (hb2.other (a := ⟨w.heap.size + 1 + 1 + 1, 7, none⟩) (by simp) (.int .u64 list)) (by simp [u64s_len, hd8]) (u64s_one _)
      have HS := Lib.hid hS
      have HL2 := Lib.hid (load_r8 hb4 hd8)
      have HKP := Lib.hid ((hkp.setCell (p := ⟨w.heap.size + 1 + 1 + 1, 7, none⟩) (.inr (by show w.heap.size ≤ w.heap.size + 1 + 1 + 1; omega)) (.int .u64 list)).trans hk2 (by simp; omega))
      clear hS hb4 hk2 HP hi hbs hb1 hb2 hb3 hkp
      generalize (irowTo t s (l.take 5) 5).getD 7 0 = y at *
      go_wp2_with (first | ((with_reducible show wpList _ _ _ (⟨_, .load 63 (.tmp 7), _, _, _, _⟩ :: _) _ _); refine wpList_load_any rfl 63 (.tmp 7) rfl _ rfl _ HL.out ?_) | ((with_reducible show wpList _ _ _ (⟨_, .store 63 (.tmp 6) (.tmp 41), _, _, _, _⟩ :: _) _ _); refine wpList_store_any rfl 63 (.tmp 6) (.tmp 41) rfl _ rfl _ rfl _ HS.out ?_))
      exact bodyPost_ret (results_cell Tryd.results31 rfl HL2.out) rfl ⟨rfl, HKP.out⟩
    | succ gg =>
      have hi5 : i < 5 := by omega
      have hlt : (i : Int) < 5 := by omega
      have hi0 : (0 : Int) ≤ (i : Int) := by omega
      obtain ⟨hnn, hge⟩ := HNL.out i hi5
      have hcl : wr.cell? ⟨w.heap.size + 1, i, none⟩ = some (.int .i64 ((l.take 5).getD i 0)) := by
        rw [hb3.cell, HZL.out i (by omega), hge]
      have hw := wrap_nat64 hnn.1 hnn.2
      have hcell : wr.cell? ⟨w.heap.size + 1 + 1 + 1, 2 + i, none⟩ = some (.int .u64 ((irowTo t s (l.take 5) i).getD (2 + i) 0)) := by
        rw [hb1.cell, List.getElem?_toArray, u64s_get (by rw [irowTo_len hl5 (by omega)]; omega)]
      have hfz : wr.frozen? ⟨w.heap.size + 1 + 1 + 1, 2 + i, none⟩ = false := hb1.frozen _
      have HR : Hid (Blk (wr.setCell ⟨w.heap.size + 1 + 1 + 1, 2 + i, none⟩ (.int .u64 ((l.take 5).getD i 0))) (w.heap.size + 1 + 1 + 1) (u64s (irowTo t s (l.take 5) (i + 1))).toArray 63 ∧ Blk (wr.setCell ⟨w.heap.size + 1 + 1 + 1, 2 + i, none⟩ (.int .u64 ((l.take 5).getD i 0))) (w.heap.size + 1 + 1) (u64s (List.replicate 8 0)).toArray 63 ∧ Blk (wr.setCell ⟨w.heap.size + 1 + 1 + 1, 2 + i, none⟩ (.int .u64 ((l.take 5).getD i 0))) (w.heap.size + 1) ZL 22 ∧ Keeps [] w (wr.setCell ⟨w.heap.size + 1 + 1 + 1, 2 + i, none⟩ (.int .u64 ((l.take 5).getD i 0)))) := by
        refine ⟨?_, hb2.other (by simp) _, hb3.other (by simp) _, hkp.setCell (.inr (by show w.heap.size ≤ w.heap.size + 1 + 1 + 1; omega)) _⟩
        have := hb1.set (2 + i) (.int .u64 ((l.take 5).getD i 0))
        rw [List.setIfInBounds_toArray, u64s_set, irowTo_succ hl5 hi5] at this
        exact this
      clear HP hb1 hb2 hb3 hkp hge
      generalize (l.take 5).getD i 0 = x at *
      generalize (irowTo t s (l.take 5) i).getD (2 + i) 0 = y at *
      go_wp2_with fail
      go_roundg gg
      case measure => omega
      case rel => exact ⟨i + 1, by omega, by go_num, HR.out⟩

end Go.Proofs.YthpkoknehemdiaaDoor

namespace Go.Proofs.YthpkoknehemdiaaDoor
open Go.RowKit

/-- The i-th word of the entries from the f-th on. -/
def entX (E : List (ByteArray × Int)) (f i : Nat) : Int := if i % 2 = 0 then ((wordV (bl (enm E (f + i / 2))) : Nat) : Int) else eno E (f + i / 2)

/-- The first j entries' words, noughts behind. -/
def entTo (E : List (ByteArray × Int)) (f j : Nat) : List Int := (List.range 8).map fun i => if i < 2 * j then entX E f i else 0

/-- The words of the k-th block of entries. -/
def entRow (E : List (ByteArray × Int)) (k : Nat) : List Int := entTo E (4 * k) (min 4 (E.length - 4 * k))

theorem entTo_len (E : List (ByteArray × Int)) (f j : Nat) : (entTo E f j).length = 8 := by simp [entTo]

theorem entTo_get (E : List (ByteArray × Int)) (f j i : Nat) (h : i < 8) : (entTo E f j).getD i 0 = if i < 2 * j then entX E f i else 0 := by
  rw [entTo, List.getD_eq_getElem?_getD, List.getElem?_map, List.getElem?_range h]
  rfl

theorem entTo_zero (E : List (ByteArray × Int)) (f : Nat) : entTo E f 0 = List.replicate 8 0 := by
  refine z_ext (by simp [entTo]) fun i hi => ?_
  rw [entTo_len] at hi
  rw [entTo_get _ _ _ _ hi, if_neg (by omega), List.getD_eq_getElem?_getD, List.getElem?_replicate, if_pos hi]
  rfl

theorem entTo_succ (E : List (ByteArray × Int)) (f j : Nat) : ((entTo E f j).set (2 * j) ((wordV (bl (enm E (f + j))) : Nat) : Int)).set (2 * j + 1) (eno E (f + j)) = entTo E f (j + 1) := by
  refine z_ext (by simp [entTo]) fun i hi => ?_
  rw [List.length_set, List.length_set, entTo_len] at hi
  rw [getD_set_any, getD_set_any, entTo_get _ _ _ _ hi, entTo_get _ _ _ _ hi, List.length_set, entTo_len]
  by_cases h1 : 2 * j + 1 = i
  · subst h1
    rw [if_pos ⟨rfl, by omega⟩, if_pos (by omega), entX, if_neg (by omega), show (2 * j + 1) / 2 = j by omega]
  · rw [if_neg (fun h => h1 h.1)]
    by_cases h2 : 2 * j = i
    · subst h2
      rw [if_pos ⟨rfl, by omega⟩, if_pos (by omega), entX, if_pos (by omega), show 2 * j / 2 = j by omega]
    · rw [if_neg (fun h => h2 h.1)]
      by_cases h3 : i < 2 * j
      · rw [if_pos h3, if_pos (by omega)]
      · rw [if_neg h3, if_neg (by omega)]

/-- Names and numbers that are words. -/
structure EntOk (E : List (ByteArray × Int)) : Prop where
  len : E.length ≤ 100000
  size : ∀ k, k < E.length → (enm E k).size ≤ 9223372036854775807
  ino : ∀ k, k < E.length → 0 ≤ eno E k ∧ eno E k < 9223372036854775808

theorem cells_entry : Tryd.prog.cellsOf 56 = 2 := by kernel_rfl
theorem size_entry : (Tryd.prog.info? 56).map (·.size) = some 2 := by kernel_rfl

/-- entries[f:h] -/
theorem slice_entries (g off n cap f h : Nat) (hf : f < cap) (hfh : f ≤ h) (hh : h ≤ cap) (w : World) :
    (Instr.sliceAt 23 (.slice (some ⟨g, off, none⟩) n cap) (some (.int .i64 (f : Int))) (some (.int .i64 (h : Int))) none).run Tryd.prog w = .ok (.slice (some ⟨g, off + f * 2, none⟩) (h - f) (cap - f)) w := by
  have hu : Tryd.prog.underlying 23 = some (.slice (Tryd.prog.elem 23)) := by kernel_rfl
  have he : Tryd.prog.elem 23 = 56 := by kernel_rfl
  have hs : (sizeOf 56).run Tryd.prog w = .ok 2 w := by kernel_rfl
  rw [run_sliceAt_slice _ _ _ _ _ _ hu, run_slice_lh _ _ _ _ _ hu .i64 .i64 (f : Int) (h : Int) (by omega) (by omega) (by omega), he, hs]
  simp only [Result.andThen_ok, sliced, Int.toNat_natCast]
  rw [if_neg (by omega)]
  simp [add_plain]

set_option maxRecDepth 100000 in
set_option maxHeartbeats 4000000 in
theorem entryRow_at {w : World} {v : Value} {g : Nat} {E : List (ByteArray × Int)} (hE : EReads w v g E) (ho : EntOk E) (k : Nat) (hk : 4 * k < E.length) :
    Calls Tryd.prog 29 #[v, .int .i64 (k : Int)] w fun e w' => e = .returned (.agg (u64s (entRow E k)).toArray) ∧ Keeps [] w w' := by
  obtain ⟨a, cap, rfl, hcap, hmax, HEC⟩ := hE.open
  obtain ⟨hg, off, rfl, -, -⟩ := HEC.out _ hk
  unfold maxLen at hmax
  have HO := Lib.hid ho
  have hlen := ho.len
  obtain ⟨c, hc⟩ : ∃ c, c = min 4 (E.length - 4 * k) := ⟨_, rfl⟩
  have hc4 : c ≤ 4 := by omega
  unfold entRow
  rw [← hc]
  obtain ⟨f, hf⟩ : ∃ f, f = 4 * k := ⟨_, rfl⟩
  rw [← hf] at hk hc ⊢
  have hkf : (k : Int) * 4 = (f : Int) := by omega
  have hsl := fun wx => slice_entries g off E.length cap f (f + c) (by omega) (by omega) (by omega) wx
  rw [show f + c - f = c by omega] at hsl
  have HSL : Hid (∀ H : Int, H = (f : Int) + (c : Int) → ∀ wx, (Instr.sliceAt 23 (.slice (some ⟨g, off, none⟩) E.length cap) (some (.int .i64 (f : Int))) (some (.int .i64 H)) none).run Tryd.prog wx = .ok (.slice (some ⟨g, off + f * 2, none⟩) c (cap - f)) wx) := fun H hH wx => by
    have := hsl wx
    rw [show ((f + c : Nat) : Int) = H by omega] at this
    exact this
  have hzv := zero_r8
  obtain ⟨H, hH, hHc⟩ : ∃ H : Int, H = (f : Int) + (c : Int) ∧ ((((f : Int) + 4 ≤ (E.length : Int)) ∧ H = (f : Int) + 4) ∨ ((E.length : Int) < (f : Int) + 4 ∧ H = (E.length : Int))) := ⟨_, rfl, by omega⟩
  have hs2 := HSL.out H hH
  have HE := Lib.hid hE
  have HFK : Hid (f + c ≤ E.length) := by show f + c ≤ E.length; omega
  generalize hn : E.length = n at *
  have HN := Lib.hid hn
  clear hE ho hsl HSL hH hc hf hn
  have hcap0 : (c : Int) ≤ 4 := by omega
  have HEC2 : Hid (∀ j, j < c → w.cell? ⟨g, off + f * 2 + j * 2, none⟩ = some (.string (enm E (f + j))) ∧ w.cell? ⟨g, off + f * 2 + j * 2 + 1, none⟩ = some (.int .i64 (eno E (f + j)))) := fun j hj => by
    obtain ⟨-, off', ho', e0, e1⟩ := HEC.out (f + j) (by have := HFK.out; omega)
    cases ho'
    rw [show off + f * 2 + j * 2 = off + (f + j) * 2 by omega]
    exact ⟨e0, e1⟩
  clear HEC
  have HW : Hid (∀ j, j < c → ∀ wx, Calls Tryd.prog 48 #[.string (enm E (f + j))] wx fun e w' => e = .returned (.tuple #[.int .u64 (wordV (bl (enm E (f + j))) : Nat), .bool (goodN (bl (enm E (f + j))))]) ∧ Keeps [] wx w') := fun j hj wx =>
    word_at _ (HO.out.size _ (by have := HFK.out; have := HN.out; omega)) wx
  have HIN : Hid (∀ j, j < c → 0 ≤ eno E (f + j) ∧ eno E (f + j) < 9223372036854775808) := fun j hj => HO.out.ino _ (by have := HFK.out; have := HN.out; omega)
  have HB1 : Hid (Blk ((w.alloc (.cells (u64s (List.replicate 8 0)).toArray 63)).alloc (.cells (u64s (List.replicate 8 0)).toArray 63)) (w.heap.size + 1) (u64s (entTo E f 0)).toArray 63) := by
    have := Blk.new (w.alloc (.cells (u64s (List.replicate 8 0)).toArray 63)) (u64s (List.replicate 8 0)).toArray 63
    have e : (w.alloc (.cells (u64s (List.replicate 8 0)).toArray 63)).heap.size = w.heap.size + 1 := by simp
    rw [e] at this
    rw [entTo_zero]
    exact this
  have HB2 : Hid (Blk ((w.alloc (.cells (u64s (List.replicate 8 0)).toArray 63)).alloc (.cells (u64s (List.replicate 8 0)).toArray 63)) w.heap.size (u64s (List.replicate 8 0)).toArray 63) := (Blk.new w _ _).alloc _
  have HK : Hid (Keeps [] w ((w.alloc (.cells (u64s (List.replicate 8 0)).toArray 63)).alloc (.cells (u64s (List.replicate 8 0)).toArray 63))) := ((Keeps.refl _ _).alloc _).alloc _
  have HKF := Lib.hid hkf
  have hsz8 : (u64s (List.replicate 8 0)).toArray.size = 8 := by simp [u64s_len]
  generalize (u64s (List.replicate 8 0)).toArray = Z8 at *
  rcases hHc with ⟨hH1, rfl⟩ | ⟨hH1, rfl⟩
  all_goals
    go_enter Tryd.func29, Tryd.ntmps29
    go_wp2_with fail
    clear hs2 hzv
    go_loopg [20] c (fun gh s20 wx => ∃ j : Nat, j + gh = c ∧ s20 = .int .i64 (j : Int) ∧ Hid (Blk wx (w.heap.size + 1) (u64s (entTo E f j)).toArray 63 ∧ Blk wx w.heap.size Z8 63 ∧ Keeps [] w wx))
    case atStart => exact ⟨0, by omega, rfl, HB1.out, HB2.out, HK.out⟩
    case round =>
      clear HB1 HB2 HK
      obtain ⟨j, hj, rfl, HP⟩ := hrel
      obtain ⟨hb1, hb2, hkp⟩ := HP.out
      cases gk with
      | zero =>
        obtain rfl : j = c := by omega
        have hd8 := entTo_len E f j
        have HL := Lib.hid (load_r8 hb1 hd8)
        obtain ⟨w2, hS, hb4, hk2⟩ := store_whole (P := Tryd.prog) (ty := 63) (cs := u64s (entTo E f j)) (by rw [u64s_len, hd8]; exact size_r8) hb2 (by rw [hsz8, u64s_len, hd8]) (u64s_one _)
        have HS := Lib.hid hS
        have HL2 := Lib.hid (load_r8 hb4 hd8)
        have HKP := Lib.hid (hkp.trans hk2 (by simp))
        clear hS hb4 hk2 HP hb1 hb2 hkp hj hd8
        go_wp2_with (first | ((with_reducible show wpList _ _ _ (⟨_, .load 63 (.tmp 5), _, _, _, _⟩ :: _) _ _); refine wpList_load_any rfl 63 (.tmp 5) rfl _ rfl _ HL.out ?_) | ((with_reducible show wpList _ _ _ (⟨_, .store 63 (.tmp 4) (.tmp 42), _, _, _, _⟩ :: _) _ _); refine wpList_store_any rfl 63 (.tmp 4) (.tmp 42) rfl _ rfl _ rfl _ HS.out ?_))
        exact bodyPost_ret (results_cell Tryd.results29 rfl HL2.out) rfl ⟨rfl, HKP.out⟩
      | succ gg =>
        have hjc : j < c := by omega
        have hlt : (j : Int) < (c : Int) := by omega
        have hj0 : (0 : Int) ≤ (j : Int) := by omega
        obtain ⟨e0, e1⟩ := HEC2.out j hjc
        have c0 := (World.cell?_of_block (w := w) (a := ⟨g, off + f * 2 + j * 2, none⟩) (hkp.block g hg (by simp))).trans e0
        have c1 := (World.cell?_of_block (w := w) (a := ⟨g, off + f * 2 + j * 2 + 1, none⟩) (hkp.block g hg (by simp))).trans e1
        have HWC := Lib.hid (HW.out j hjc)
        obtain ⟨i0, i1⟩ := HIN.out j hjc
        have hw := wrap_nat64 i0 i1
        have hsucc := entTo_succ E f j
        rw [Nat.mul_comm 2 j] at hsucc
        have HSUCC := Lib.hid hsucc
        have HLB := Lib.hid hb1.lt
        clear hsucc
        have HKP := Lib.hid hkp
        have HBB1 := Lib.hid hb1
        have HBB2 := Lib.hid hb2
        clear e0 e1 HP hb1 hb2 hkp
        generalize enm E (f + j) = nm at *
        generalize eno E (f + j) = ino at *
        go_wp2_with fail
        refine (HWC.out _).mono ?_; rintro e w1 ⟨rfl, hk1⟩
        have hbx := (Blk.new wr #[.string nm, .int .i64 ino] 56).keep hk1 (by simp)
        have hb1 := (HBB1.out.alloc (.cells #[.string nm, .int .i64 ino] 56)).keep hk1 (by simp)
        have hb2 := (HBB2.out.alloc (.cells #[.string nm, .int .i64 ino] 56)).keep hk1 (by simp)
        have d1 : w1.cell? ⟨wr.heap.size, 1, none⟩ = some (.int .i64 ino) := by rw [hbx.cell]; rfl
        have d2 : w1.cell? ⟨w.heap.size + 1, j * 2, none⟩ = some (.int .u64 ((entTo E f j).getD (j * 2) 0)) := by
          rw [hb1.cell, List.getElem?_toArray, u64s_get (by rw [entTo_len]; omega)]
        have d3 : w1.cell? ⟨w.heap.size + 1, j * 2 + 1, none⟩ = some (.int .u64 ((entTo E f j).getD (j * 2 + 1) 0)) := by
          rw [hb1.cell, List.getElem?_toArray, u64s_get (by rw [entTo_len]; omega)]
        have f2 : w1.frozen? ⟨w.heap.size + 1, j * 2, none⟩ = false := hb1.frozen _
        have f3 : w1.frozen? ⟨w.heap.size + 1, j * 2 + 1, none⟩ = false := hb1.frozen _
        have hne : ¬ wr.heap.size = w.heap.size + 1 := by have := HLB.out; omega
        have HR : Hid (Blk ((w1.setCell ⟨w.heap.size + 1, j * 2, none⟩ (.int .u64 (wordV (bl nm) : Nat))).setCell ⟨w.heap.size + 1, j * 2 + 1, none⟩ (.int .u64 ino)) (w.heap.size + 1) (u64s (entTo E f (j + 1))).toArray 63 ∧ Blk ((w1.setCell ⟨w.heap.size + 1, j * 2, none⟩ (.int .u64 (wordV (bl nm) : Nat))).setCell ⟨w.heap.size + 1, j * 2 + 1, none⟩ (.int .u64 ino)) w.heap.size Z8 63 ∧ Keeps [] w ((w1.setCell ⟨w.heap.size + 1, j * 2, none⟩ (.int .u64 (wordV (bl nm) : Nat))).setCell ⟨w.heap.size + 1, j * 2 + 1, none⟩ (.int .u64 ino))) := by
          refine ⟨?_, (hb2.other (by simp) _).other (by simp) _, (((HKP.out.alloc _).trans' hk1).setCell (.inr (by show w.heap.size ≤ w.heap.size + 1; omega)) _).setCell (.inr (by show w.heap.size ≤ w.heap.size + 1; omega)) _⟩
          have s1 := hb1.set (j * 2) (.int .u64 (wordV (bl nm) : Nat))
          rw [List.setIfInBounds_toArray, u64s_set] at s1
          have s2 := s1.set (j * 2 + 1) (.int .u64 ino)
          rw [List.setIfInBounds_toArray, u64s_set, HSUCC.out] at s2
          exact s2
        have hj4 : j < 4 := by omega
        clear hk1 hbx hb1 hb2
        generalize (entTo E f j).getD (j * 2) 0 = y1 at *
        generalize (entTo E f j).getD (j * 2 + 1) 0 = y2 at *
        generalize wordV (bl nm) = wv at *
        go_wp2_with fail
        go_roundg gg
        case measure => omega
        case rel => exact ⟨j + 1, by omega, by go_num, HR.out⟩

end Go.Proofs.YthpkoknehemdiaaDoor

namespace Go.Proofs.YthpkoknehemdiaaDoor
open Go.RowKit

theorem Tryd.info_put : (Tryd.prog.info? 82).map (fun i => (i.zero, i.size, i.bytes)) = some (some (.agg #[.int .i64 0, .int .u64 0]), 2, 16) := by kernel_rfl

def PutPost (w : World) (b gp : Nat) (B : List Int) (ps : List (Int × Int)) (e : Ending) (w' : World) : Prop :=
  e = .returned (.tuple #[]) ∧ ∃ gp', (gp' = gp ∨ (w.heap.size ≤ gp' ∧ gp' < w'.heap.size)) ∧ ShAt w' b gp' B ps ∧ Keeps [b, gp] w w'

/-- The puts behind one more: nothing of no place. -/
def putN (ps : List (Int × Int)) (i x : Int) : List (Int × Int) := if inB i = true then ps ++ [(i, x)] else ps

/-- The two stores of a put, behind the append. -/
theorem put_done {w w1 : World} {b gp gg2 cap2 a_n j : Nat} {B : List Int} {ps : List (Int × Int)} {x was : Int} {vp : Value} {o : Obj} (hb : Blk w b (shCells B (putAll B ps) vp) 77)
    (hg : ∀ k, vp.ownBlock = some k → k = gp) (lb : B.length = 3128) (lx : (putAll B ps).length = 3128) (hj : j < 3128)
    (he : notesN B (ps ++ [((j : Int), x)]) = notesN B ps ++ [((j : Int), was)]) (hpa : putAll B (ps ++ [((j : Int), x)]) = (putAll B ps).set j x) (hin : inP (ps ++ [((j : Int), x)]) 3128)
    (hl : (notesN B (ps ++ [((j : Int), x)])).length = a_n + 1)
    (hown : w1.ownsRow (b + 1) 82 2 (.slice (some ⟨gg2, 0, none⟩) (a_n + 1) cap2) (a_n + 1) (pcells (notesN B ps) ++ [.int .i64 (j : Int), .int .u64 was]))
    (hgrow : (w.alloc o).drew.grownBy w1 vp.ownBlock) (hat : vp.ownBlock = some gg2 ∨ gg2 = w.heap.size + 1) (hne : vp.ownBlock ≠ some b) :
    PutPost w b gp B (ps ++ [((j : Int), x)]) (.returned (.tuple #[])) ((w1.setCell ⟨b, 6256, none⟩ (.slice (some ⟨gg2, 0, none⟩) (a_n + 1) cap2)).setCell ⟨b, 3128 + j, none⟩ (.int .u64 x)) := by
  have hk1 : Keeps [gp] w w1 := ((Keeps.refl [gp] w).alloc o).drew.trans (Keeps.of_grown (l := [gp]) hgrow (by intro k hk; rw [hg k hk]; simp)) (by simp)
  have hb1 : Blk w1 b (shCells B (putAll B ps) vp) 77 := by
    have h1 : Blk (w.alloc o).drew b (shCells B (putAll B ps) vp) 77 := hb.alloc o
    have hlt := h1.lt
    unfold Blk at h1 ⊢
    rw [← h1]
    exact hgrow.block b hlt (fun e => hne e.symm)
  have hbg : b ≠ gg2 := by have := ownsRow_block hown gg2 rfl; omega
  have hk2 : ∀ (u v : Value), Keeps [b] w1 ((w1.setCell ⟨b, 6256, none⟩ u).setCell ⟨b, 3128 + j, none⟩ v) := fun u v => ((Keeps.refl [b] _).setCell (by simp) _).setCell (by simp) _
  refine ⟨rfl, gg2, ?_, ⟨⟨lb, ?_, .slice (some ⟨gg2, 0, none⟩) (a_n + 1) cap2, ?_, ?_, ?_⟩, hin⟩, ?_⟩
  · rcases hat with e | e
    · exact .inl (hg _ e)
    · refine .inr ⟨by omega, ?_⟩
      have := (hown.lt gg2 rfl).2
      simpa [World.setCell] using this
  · rw [hpa, List.length_set]; exact lx
  · have := (hb1.set 6256 (.slice (some ⟨gg2, 0, none⟩) (a_n + 1) cap2)).set (3128 + j) (.int .u64 x)
    rw [shCells_set2 _ lb lx, shCells_set1 _ lb (by omega)] at this
    rw [hpa]
    exact this
  · rw [hl, he, pcells_append]
    exact ownsRow_keep hown (hk2 _ _) (by intro k hk; cases hk; simpa using Ne.symm hbg)
  · intro k hk; cases hk; rfl
  · exact (hk1.mono (by simp)).trans (hk2 _ _) (by simp)

set_option maxHeartbeats 2000000 in
theorem txPut_at {w : World} {b gp : Nat} {B : List Int} {ps : List (Int × Int)} (h : ShAt w b gp B ps) (hn : ps.length ≤ 1000000) (i x : Int) :
    Calls Tryd.prog 21 #[.pointer (some ⟨b, 0, none⟩), .int .i64 i, .int .u64 x] w (PutPost w b gp B (putN ps i x)) := by
  have HI := Lib.hid (txIsPlace_at i w)
  unfold putN
  cases hi : inB i
  · rw [hi] at HI
    rw [if_neg (by simp)]
    have HM : Hid (PutPost w b gp B ps (.returned (.tuple #[])) w) := ⟨rfl, gp, .inl rfl, h, Keeps.refl _ _⟩
    clear hi h
    go_enter Tryd.func21, Tryd.ntmps21
    go_wp2_with (go_at_call 41; refine HI.out.mono ?_; rintro e w' ⟨rfl, rfl⟩)
    go_end0
    exact HM.out
  · rw [hi] at HI
    rw [if_pos rfl]
    obtain ⟨h0, h1⟩ := inB_iff.1 hi
    clear hi
    obtain ⟨j, rfl⟩ := Int.eq_ofNat_of_zero_le h0
    obtain ⟨⟨lb, lx, vp, hb, hr, hg⟩, inp⟩ := h
    obtain ⟨i0, hi, hz0, hz1, hz2⟩ := info_parts Tryd.info_put
    have hj : j < 3128 := by omega
    have c1 : w.cell? ⟨b, 6256, none⟩ = some vp := by rw [hb.cell, shCells_2 _ lb lx]
    have c2 : w.cell? ⟨b, 3128 + j, none⟩ = some (.int .u64 ((putAll B ps).getD j 0)) := by rw [hb.cell, shCells_1 _ lb (by omega)]
    have f1 : w.frozen? ⟨b, 6256, none⟩ = false := hb.frozen _
    have f2 : w.frozen? ⟨b, 3128 + j, none⟩ = false := hb.frozen _
    have F1 : ∀ o, (w.alloc o).drew.frozen? ⟨b, 6256, none⟩ = false := fun o => (hb.alloc o).frozen _
    have F2 : ∀ o, (w.alloc o).drew.frozen? ⟨b, 3128 + j, none⟩ = false := fun o => (hb.alloc o).frozen _
    have hbl := hb.lt
    have E2 : ∀ o, (w.alloc o).drew.cell? ⟨b, 3128 + j, none⟩ = some (.int .u64 ((putAll B ps).getD j 0)) := fun o => by rw [← c2]; exact World.cell?_of_block (w := w) (Below.heap_alloc _ _ _ hb.lt)
    have n1 : ¬ 3128 + j = 6256 := by omega
    have E1 : ∀ o, (w.alloc o).drew.cell? ⟨b, 6256, none⟩ = some vp := fun o => by rw [← c1]; exact World.cell?_of_block (w := w) (Below.heap_alloc _ _ _ hb.lt)
    have hne : vp.ownBlock ≠ some b := fun e => by have := ownsRow_block hr b e; omega
    obtain ⟨a, cap, hv, q1, q2⟩ := ownsRow_val hr
    rw [notesN_len] at hr hv q1
    have HE := Lib.hid (notesN_snoc B ps (j : Int) x)
    have HPA : Hid (putAll B (ps ++ [((j : Int), x)]) = (putAll B ps).set j x) := by show putAll B _ = _; rw [putAll_append]; rfl
    have HIN : Hid (inP (ps ++ [((j : Int), x)]) 3128) := inP_append inp (inP_one h0 h1)
    have HL : Hid ((notesN B (ps ++ [((j : Int), x)])).length = ps.length + 1) := by show List.length _ = _; rw [notesN_len]; simp
    rw [Int.toNat_natCast] at HE
    subst hv
    have HB := Lib.hid hb
    have HR := Lib.hid hr
    have HG := Lib.hid hg
    have LB := Lib.hid lb
    have LX := Lib.hid lx
    clear hb hr hg lb lx inp
    generalize (putAll B ps).getD j 0 = was at *
    generalize hps : ps.length = n at *
    have HPS := Lib.hid hps
    clear hps
    unfold maxLen at q2
    go_enter Tryd.func21, Tryd.ntmps21
    go_wp2_with fail
    refine HI.out.mono ?_; rintro e w' ⟨rfl, rfl⟩
    go_wp2_with fail
    go_region_law ((refine step_append_lies _ (by rfl) _ _ _ (by rfl) (b + 1) 82 i0 _ 2 16 Tryd.underlying75 hi hz0 hz1 hz2 rfl (by omega) (.slice a n cap) n _ (by rfl) ((HR.out.alloc _).drew) ⟨w.heap.size, 0, none⟩ 1 1 [.int .i64 (j : Int), .int .u64 was] (by rfl) (by rfl) (new_cells w [_, _] _ _ rfl) (by simp [Value.oneCell']) (by omega) (by unfold maxLen; omega) (by omega) (by simp; omega) (w.heap.size + 1) (by simp) ?_; intro gg2 cap2 w1 hown1 hgrow hat hlt; have hc1 := (hgrow.cell_far ⟨b, 6256, none⟩ (by simp; omega) (Ne.symm hne)).trans (E1 _); have hf1 := (hgrow.frozen_far ⟨b, 6256, none⟩ (by simp; omega) (Ne.symm hne)).trans (F1 _); have hc2 := (hgrow.cell_far ⟨b, 3128 + j, none⟩ (by simp; omega) (Ne.symm hne)).trans (E2 _); have hf2 := (hgrow.frozen_far ⟨b, 3128 + j, none⟩ (by simp; omega) (Ne.symm hne)).trans (F2 _)))
    all_goals
      have HM := Lib.hid (put_done HB.out HG.out LB.out LX.out hj HE.out HPA.out HIN.out HL.out hown1 hgrow hat hne)
      clear hown1 hgrow hat hlt hc1
      go_wp2_with fail
      go_end0
      exact HM.out

end Go.Proofs.YthpkoknehemdiaaDoor

namespace Go.Proofs.YthpkoknehemdiaaDoor
open Go.RowKit

/-- Eight words from a place on. -/
def rowL (X : List Int) (p : Nat) : List Int := (List.range 8).map fun j => X.getD (p + j) 0

theorem rowL_len (X : List Int) (p : Nat) : (rowL X p).length = 8 := by simp [rowL]

theorem rowL_get (X : List Int) (p k : Nat) (h : k < 8) : (rowL X p).getD k 0 = X.getD (p + k) 0 := by
  rw [rowL, List.getD_eq_getElem?_getD, List.getElem?_map, List.getElem?_range h]
  rfl

/-- The puts of eight words from a place on, the first k. -/
def rowPs (p : Nat) (l : List Int) (k : Nat) : List (Int × Int) := (List.range k).map fun j => (((p + j : Nat) : Int), l.getD j 0)

theorem rowPs_succ (p : Nat) (l : List Int) (k : Nat) : rowPs p l (k + 1) = rowPs p l k ++ [(((p + k : Nat) : Int), l.getD k 0)] := by
  unfold rowPs
  rw [List.range_succ, List.map_append]
  rfl

theorem rowPs_len (p : Nat) (l : List Int) (k : Nat) : (rowPs p l k).length = k := by simp [rowPs]

set_option maxRecDepth 100000 in
set_option maxHeartbeats 4000000 in
theorem rowAt_at {w : World} {b gp : Nat} {B : List Int} {ps : List (Int × Int)} (h : ShAt w b gp B ps) (p : Nat) (hp : p + 8 ≤ 3128) :
    Calls Tryd.prog 32 #[.pointer (some ⟨b, 0, none⟩), .int .i64 (p : Int)] w fun e w' => e = .returned (.agg (u64s (rowL (putAll B ps) p)).toArray) ∧ Keeps [] w w' := by
  have HSH := Lib.hid h
  have hd8 := rowL_len (putAll B ps) p
  have HGET : Hid (∀ (k : Nat) wx, k < 8 → Keeps [] w wx → Calls Tryd.prog 49 #[.pointer (some ⟨b, 0, none⟩), .int .i64 ((p : Int) + (k : Int))] wx fun e w' => e = .returned (.int .u64 ((rowL (putAll B ps) p).getD k 0)) ∧ wx = w') := fun k wx hk hkp => by
    have := txGet_at (HSH.out.keep hkp (by simp) (by simp)) ((p : Int) + (k : Int))
    unfold getN at this
    rw [if_pos (by omega), show ((p : Int) + (k : Int)).toNat = p + k by omega, ← rowL_get _ p k hk] at this
    exact this
  have HZ8 : (u64s (List.replicate 8 0)).toArray = (u64s (fillTo 0 (rowL (putAll B ps) p) 0)).toArray := by rw [fillTo_zero, hd8]
  clear h
  generalize rowL (putAll B ps) p = d at *
  obtain ⟨w0, hw0⟩ : ∃ w0, w0 = (w.alloc (.cells (u64s (List.replicate 8 0)).toArray 63)).alloc (.cells (u64s (List.replicate 8 0)).toArray 63) := ⟨_, rfl⟩
  have HB2 : Hid (Blk w0 w.heap.size (u64s (List.replicate 8 0)).toArray 63) := by
    have := (Blk.new w (u64s (List.replicate 8 0)).toArray 63).alloc (.cells (u64s (List.replicate 8 0)).toArray 63)
    rw [← hw0] at this
    exact this
  have HB3 : Hid (Blk w0 (w.heap.size + 1) (u64s (fillTo 0 d 0)).toArray 63) := by
    have := Blk.new (w.alloc (.cells (u64s (List.replicate 8 0)).toArray 63)) (u64s (List.replicate 8 0)).toArray 63
    have e : (w.alloc (.cells (u64s (List.replicate 8 0)).toArray 63)).heap.size = w.heap.size + 1 := by simp
    rw [e, ← hw0, HZ8] at this
    exact this
  have HK : Hid (Keeps [] w w0) := by
    show Keeps _ _ _
    rw [hw0]
    exact ((Keeps.refl [] w).alloc _).alloc _
  have hzv := zero_r8
  clear HZ8 HSH
  generalize hz8 : (u64s (List.replicate 8 0)).toArray = Z8 at *
  go_enter Tryd.func32, Tryd.ntmps32
  go_wp2_with fail
  rw [← hw0]
  go_loopg [7] 8 (fun gh s7 wx => ∃ k : Nat, k + gh = 8 ∧ s7 = .int .i64 (k : Int) ∧ Hid (Blk wx (w.heap.size + 1) (u64s (fillTo 0 d k)).toArray 63 ∧ Blk wx w.heap.size Z8 63 ∧ Keeps [] w wx))
  case atStart => exact ⟨0, by omega, rfl, HB3.out, HB2.out, HK.out⟩
  case round =>
    clear HB2 HB3 HK hzv hw0
    obtain ⟨k, hk, rfl, HP⟩ := hrel
    cases gk with
    | zero =>
      obtain rfl : k = 8 := by omega
      have hb3 := HP.out.1
      rw [show fillTo 0 d 8 = d by rw [← hd8]; exact fillTo_all 0 d] at hb3
      have HL := Lib.hid (load_r8 hb3 hd8)
      obtain ⟨w2, hS, hb4, hk2⟩ := store_whole (P := Tryd.prog) (ty := 63) (cs := u64s d) (by rw [u64s_len, hd8]; exact size_r8) HP.out.2.1 (by rw [← hz8]; simp [u64s_len, hd8]) (u64s_one _)
      have HS := Lib.hid hS
      have HL2 := Lib.hid (load_r8 hb4 hd8)
      have HKP := Lib.hid (HP.out.2.2.trans hk2 (by simp))
      clear hS hb3 hb4 hk2 HP hk
      go_wp2_with (first | ((with_reducible show wpList _ _ _ (⟨_, .load 63 (.tmp 5), _, _, _, _⟩ :: _) _ _); refine wpList_load_any rfl 63 (.tmp 5) rfl _ rfl _ HL.out ?_) | ((with_reducible show wpList _ _ _ (⟨_, .store 63 (.tmp 4) (.tmp 18), _, _, _, _⟩ :: _) _ _); refine wpList_store_any rfl 63 (.tmp 4) (.tmp 18) rfl _ rfl _ rfl _ HS.out ?_))
      exact bodyPost_ret (results_cell Tryd.results32 rfl HL2.out) rfl ⟨rfl, HKP.out⟩
    | succ gg =>
      have hk8 : k < 8 := by omega
      have hlt : (k : Int) < 8 := by omega
      have hk0 : (0 : Int) ≤ (k : Int) := by omega
      have HC := Lib.hid (HGET.out k wr hk8 HP.out.2.2)
      have hcell : wr.cell? ⟨w.heap.size + 1, k, none⟩ = some (.int .u64 ((fillTo 0 d k).getD k 0)) := by
        rw [HP.out.1.cell, List.getElem?_toArray, u64s_get (by rw [fillTo_len _ _ _ (by omega)]; omega)]
      have hf : wr.frozen? ⟨w.heap.size + 1, k, none⟩ = false := HP.out.1.frozen k
      have HB : Hid (Blk (wr.setCell ⟨w.heap.size + 1, k, none⟩ (.int .u64 (d.getD k 0))) (w.heap.size + 1) (u64s (fillTo 0 d (k + 1))).toArray 63) := by
        have := HP.out.1.set k (.int .u64 (d.getD k 0))
        rw [List.setIfInBounds_toArray, u64s_set, fillTo_succ 0 d k (by omega) (d.getD k 0) (by simp [List.getD_eq_getElem?_getD, show k < d.length by omega])] at this
        exact this
      have HB' : Hid (Blk (wr.setCell ⟨w.heap.size + 1, k, none⟩ (.int .u64 (d.getD k 0))) w.heap.size Z8 63) := HP.out.2.1.other (by simp) _
      have HKP := Lib.hid HP.out.2.2
      clear HP
      generalize d.getD k 0 = x at *
      generalize (fillTo 0 d k).getD k 0 = y at *
      go_wp2_with fail
      refine HC.out.mono ?_; rintro e w' ⟨rfl, rfl⟩
      go_wp2_with fail
      go_roundg gg
      case measure => omega
      case rel => exact ⟨k + 1, by omega, by go_num, HB.out, HB'.out, HKP.out.setCell (by simp) _⟩

set_option maxRecDepth 100000 in
set_option maxHeartbeats 4000000 in
theorem putRow_at {w : World} {b gp : Nat} {B : List Int} {ps : List (Int × Int)} (h : ShAt w b gp B ps) (hn : ps.length ≤ 900000) (p : Nat) (hp : p + 8 ≤ 3128) (l : List Int) (hl : l.length = 8) :
    Calls Tryd.prog 27 #[.pointer (some ⟨b, 0, none⟩), .int .i64 (p : Int), .agg (u64s l).toArray] w (PutPost w b gp B (ps ++ rowPs p l 8)) := by
  have HL : Hid ((loadVar 63 ⟨w.heap.size, 0, none⟩).run Tryd.prog (w.alloc (.cells (u64s l).toArray 63)) = .ok (.agg (u64s l).toArray) (w.alloc (.cells (u64s l).toArray 63))) := load_r8 (Blk.new w _ _) hl
  have HX : Hid (∀ k, k < 8 → (u64s l).toArray[k]? = some (.int .u64 (l.getD k 0))) := fun k hk => by rw [List.getElem?_toArray, u64s_get (by omega)]
  have HK0 : Hid (Keeps [b, gp] w (w.alloc (.cells (u64s l).toArray 63))) := (Keeps.refl _ w).alloc _
  have HSH := Lib.hid (h.keep ((Keeps.refl [] w).alloc (.cells (u64s l).toArray 63)) (by simp) (by simp))
  clear h
  generalize (u64s l).toArray = Z at *
  go_enter Tryd.func27, Tryd.ntmps27
  go_wp2_with ((with_reducible show wpList _ _ _ (⟨_, .load 63 (.tmp 5), _, _, _, _⟩ :: _) _ _); refine wpList_load_any rfl 63 (.tmp 5) rfl _ rfl _ HL.out ?_)
  go_loopg [9] 8 (fun gh s9 wx => ∃ k : Nat, k + gh = 8 ∧ s9 = .int .i64 (k : Int) ∧ Hid (∃ gp', (gp' = gp ∨ (w.heap.size ≤ gp' ∧ gp' < wx.heap.size)) ∧ ShAt wx b gp' B (ps ++ rowPs p l k) ∧ Keeps [b, gp] w wx))
  case atStart => exact ⟨0, by omega, rfl, gp, .inl rfl, by rw [show rowPs p l 0 = [] from rfl, List.append_nil]; exact HSH.out, HK0.out⟩
  case round =>
    clear HSH HK0 HL
    obtain ⟨k, hk, rfl, HP⟩ := hrel
    obtain ⟨gp', hgp, hsh, hkp⟩ := HP.out
    cases gk with
    | zero =>
      obtain rfl : k = 8 := by omega
      have HE : Hid (PutPost w b gp B (ps ++ rowPs p l 8) (.returned (.tuple #[])) wr) := ⟨rfl, gp', hgp, hsh, hkp⟩
      clear HP hgp hsh hkp hk
      go_wp2_with fail
      go_end0
      exact HE.out
    | succ gg =>
      have hk8 : k < 8 := by omega
      have hlt : (k : Int) < 8 := by omega
      have hk0 : (0 : Int) ≤ (k : Int) := by omega
      have hix := index_r8 hk8 (HX.out k hk8)
      have hput : putN (ps ++ rowPs p l k) ((p : Int) + (k : Int)) (l.getD k 0) = ps ++ rowPs p l (k + 1) := by
        rw [putN, if_pos (by rw [inB_iff]; omega), rowPs_succ, List.append_assoc, Int.natCast_add]
      have HC := txPut_at hsh (by rw [List.length_append, rowPs_len]; omega) ((p : Int) + (k : Int)) (l.getD k 0)
      rw [hput] at HC
      have HC := Lib.hid HC
      have HG := Lib.hid hgp
      have HKP := Lib.hid hkp
      clear HP hgp hsh hkp hput
      generalize l.getD k 0 = x at *
      go_wp2_with fail
      refine HC.out.mono ?_; rintro e w2 ⟨rfl, gp2, hg2, hs2, hk2⟩
      have HR : Hid (∃ gp', (gp' = gp ∨ (w.heap.size ≤ gp' ∧ gp' < w2.heap.size)) ∧ ShAt w2 b gp' B (ps ++ rowPs p l (k + 1)) ∧ Keeps [b, gp] w w2) := by
        have hsz := HKP.out.size
        have hsz2 := hk2.size
        refine ⟨gp2, ?_, hs2, HKP.out.trans hk2 fun x hx => ?_⟩
        · rcases HG.out with h | h <;> rcases hg2 with h2 | h2 <;> omega
        · simp only [List.mem_cons, List.not_mem_nil, or_false] at hx ⊢
          rcases HG.out with h | h <;> omega
      clear hg2 hs2 hk2
      go_wp2_with fail
      go_roundg gg
      case measure => omega
      case rel => exact ⟨k + 1, by omega, by go_num, HR.out⟩

end Go.Proofs.YthpkoknehemdiaaDoor
