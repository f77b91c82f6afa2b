/-
  A region that draws its order, whose operations each give one value in every world that meets S, and leave such a world: it is walked in the order of the text. A last operation, for which all others wait, may do what it likes. Nothing of the program is named here. Layer 6 (fmt1): rightFile. Layer 6 (fmt1): rightDir. Layer 6 (fmt1): Right. Layer 6 (fmt1): tagged, inodeRow, listRow. Layer 6 (fmt1): listRow. Layer 6 (fmt1): row.Head, inodeRow.
-/
import Derived.OrdersHeld
import Derived.WalkKit
import Derived.Test.YtlfkodlnhfdgjaaG02
import Derived.Deep.QuietTactic
import Derived.Deep.RegionHeld
namespace Go.Proofs.Ytlfkodlnhfdgjaa
section
variable {P : Program} {ops : Array Oper} {Q : Exit → Act → World → Prop} {md : Region.Mode} {S : World → Prop}

/-- The operation's outcome: the value v, and a world that meets S. -/
def Steps (P : Program) (S : World → Prop) (v : Value) : Result Next → Prop
  | .ok (.value u) w' => u = v ∧ S w'
  | .ok .skip w' => v = undef ∧ S w'
  | .ok (.enter f args) w' => Calls P f args w' fun e w'' => e = .returned v ∧ S w''
  | _ => False

/-- In state a, in every world that meets S, operation o gives v and leaves a world that meets S. -/
def EachIf (P : Program) (ops : Array Oper) (S : World → Prop) (o : Oper) (v : Value) (a : Act) : Prop :=
  (Region.wanted o (yielded ops a.tmps) = true ∧ ∀ w, S w → Steps P S v ((execOp a.eval o).run P w)) ∨ (Region.wanted o (yielded ops a.tmps) = false ∧ v = undef)

theorem EachIf.of_same {o : Oper} {v : Value} {a a' : Act} (hy : EachIf P ops S o v a) (he : execOp a'.eval o = execOp a.eval o)
    (hw : Region.wanted o (yielded ops a'.tmps) = Region.wanted o (yielded ops a.tmps)) : EachIf P ops S o v a' := by
  unfold EachIf at *
  rw [he, hw]
  exact hy

theorem EachIf.wpOp {i : Nat} {o : Oper} {v : Value} {a : Act} (hi : ops[i]? = some o) (hy : EachIf P ops S o v a) {K : Act → World → Prop} {w : World} (hS : S w) (h : ∀ w', S w' → K (a.put o.dst v) w') : wpOp P ops Q i K a w := by
  unfold Go.wpOp
  simp only [hi]
  rcases hy with ⟨hw, hv⟩ | ⟨hw, rfl⟩
  · have h1 := hv w hS
    simp only [hw, if_true]
    refine .inl ?_
    unfold Oper.wp
    generalize (execOp a.eval o).run P w = r at *
    cases r with
    | ok n w' =>
      cases n with
      | value u => obtain ⟨rfl, h2⟩ := h1; exact h _ h2
      | skip => obtain ⟨rfl, h2⟩ := h1; exact h _ h2
      | enter f args =>
        refine Calls.mono h1 fun e w'' he => ?_
        obtain ⟨rfl, h2⟩ := he
        exact h _ h2
      | _ => exact h1.elim
    | halt x w' => exact h1.elim
  · simp only [hw, Bool.false_eq_true, if_false]; exact h _ hS

/-- The same under either of two conditions. -/
def EachB (P : Program) (ops : Array Oper) (S : Bool → World → Prop) (o : Oper) (v : Value) (a : Act) : Prop := ∀ b, EachIf P ops (S b) o v a

/-- One operation oj, apart from oi: whether oi's value is in its temporary already makes no difference to it, and it makes none to oi. -/
theorem wpOp_putEach {S : Bool → World → Prop} {j : Nat} {oi oj : Oper} {v : Value} (hj : ops[j]? = some oj) (hap : oi.apart ops oj = true)
    (hsi : ∀ cs b, oi.op ≠ .select cs b) (hsj : ∀ cs b, oj.op ≠ .select cs b)
    (hQ : ∀ c a w, Q (.panic c) (a.put oi.dst v) w → Q (.panic c) a w) {K : Act → World → Prop} {a : Act} {w : World}
    (hy : EachB P ops S oi v a) (h : wpOp P ops Q j K (a.put oi.dst v) w) :
    wpOp P ops Q j (fun a' w' => EachB P ops S oi v a' ∧ K (a'.put oi.dst v) w') a w := by
  obtain ⟨h1, h2, h3⟩ := Oper.apart_spec hap
  have keep : ∀ (a : Act), EachB P ops S oi v a → ∀ u, EachB P ops S oi v (a.put oj.dst u) := fun a hy u =>
    fun b => (hy b).of_same (execOp_put oi hsi a oj.dst u h3) (wanted_put oi a oj.dst u h3)
  have keepD : ∀ d, EachB P ops S oi v { a with defers := d :: a.defers } := fun d => fun b => (hy b).of_same rfl rfl
  unfold Go.wpOp at *
  simp only [hj] at *
  rw [wanted_put oj a oi.dst v h1] at h
  split
  · rename_i hw
    simp only [hw, if_true] at h
    rcases h with h | ⟨hasks, hlets⟩
    case inr => exact .inr ⟨by unfold Oper.asks at *; rw [execOp_put oj hsj a oi.dst v h1] at hasks; exact hasks, hlets⟩
    refine .inl ?_
    unfold Oper.wp at *
    rw [execOp_put oj hsj a oi.dst v h1] at h
    generalize (execOp a.eval oj).run P w = r at *
    cases r with
    | ok n w' =>
      cases n <;> simp only [Oper.upon] at h ⊢
      case value u => exact ⟨keep a hy u, by rw [← Act.put_comm a v u h2]; exact h⟩
      case skip => exact ⟨keep a hy _, by rw [← Act.put_comm a v undef h2]; exact h⟩
      case defer d =>
        refine ⟨keep _ (keepD d) _, ?_⟩
        rw [← Act.put_comm _ v undef h2, ← Act.put_defers]
        exact h
      case enter f args =>
        refine Calls.mono h fun e w'' he => ?_
        cases e with
        | returned u => exact ⟨keep a hy u, by rw [← Act.put_comm a v u h2]; exact he⟩
        | panicked c => exact hQ _ _ _ he
        | outgrown => exact he
      case row row args => exact Rows.mono h fun u w'' he => ⟨keep a hy u, by rw [← Act.put_comm a v u h2]; exact he⟩
    | halt x w' =>
      cases x <;> simp only [Oper.upon] at h ⊢
      case panic u => exact hQ _ _ _ h
  · rename_i hw
    simp only [hw] at h
    exact ⟨keep a hy _, by rw [← Act.put_comm a v undef h2]; exact h⟩

/-- What is listed, all that it waits for is listed. -/
def Closed (md : Region.Mode) (ops : Array Oper) (listed : Array Bool) : Prop :=
  ∀ k o, ops[k]? = some o → listed.getD k true = true → ∀ e ∈ o.after, Region.binds md e = true → listed.getD e.on false = true

/-- L waits for i, by way of others maybe. -/
def leads (md : Region.Mode) (ops : Array Oper) : Nat → Nat → Nat → Bool
  | 0, _, _ => false
  | fuel + 1, i, L => (List.range ops.size).any fun k => k != i && ((ops[k]?).map (·.after.any fun e => Region.binds md e && e.on == i)).getD false && (k == L || leads md ops fuel k L)

theorem getD_flip {listed : Array Bool} {i : Nat} (h : listed.getD i true = false) : listed.getD i false = false := by
  rcases Nat.lt_or_ge i listed.size with h' | h'
  · simp [h'] at h ⊢; exact h
  · simp [Array.getElem?_eq_none h'] at h

theorem leads_waits {listed : Array Bool} (hc : Closed md ops listed) : ∀ (fuel i L : Nat), leads md ops fuel i L = true → listed.getD i true = false → L ∉ Region.ready md ops listed := by
  intro fuel
  induction fuel with
  | zero => intro i L h; simp [leads] at h
  | succ fuel ih =>
    intro i L h hi
    unfold leads at h
    rw [List.any_eq_true] at h
    obtain ⟨k, -, hk⟩ := h
    simp only [Bool.and_eq_true, Bool.or_eq_true, bne_iff_ne, ne_eq] at hk
    obtain ⟨⟨-, hk1⟩, hk2⟩ := hk
    cases ho : ops[k]? with
    | none => simp [ho] at hk1
    | some o =>
      have hk1' : o.after.any (fun e => Region.binds md e && e.on == i) = true := by simpa [ho] using hk1
      obtain ⟨e, he, heb⟩ := Array.any_eq_true'.1 hk1'
      simp only [Bool.and_eq_true, beq_iff_eq] at heb
      obtain ⟨hb, hon⟩ := heb
      have hun : listed.getD e.on false = false := by rw [hon]; exact getD_flip hi
      by_cases hkL : k = L
      · subst hkL
        intro hm
        obtain ⟨-, o', ho', hall⟩ := mem_ready.1 hm
        rw [ho] at ho'
        cases ho'
        rw [hall e he hb] at hun
        cases hun
      · rcases hk2 with hk2 | hk2
        · exact absurd (by simpa using hk2) hkL
        · refine ih k L hk2 ?_
          cases hl : listed.getD k true with
          | false => rfl
          | true =>
            rw [hc k o ho hl e he hb] at hun
            cases hun

theorem closed_set {listed : Array Bool} {j : Nat} (hc : Closed md ops listed) (hj : j ∈ Region.ready md ops listed) : Closed md ops (listed.setIfInBounds j true) := by
  intro k o ho hl e he hb
  by_cases hjk : j = k
  · subst hjk
    obtain ⟨-, o', ho', hall⟩ := mem_ready.1 hj
    rw [ho] at ho'
    cases ho'
    exact getD_set_true (hall e he hb)
  · rw [Go.getD_set_ne true hjk] at hl
    exact getD_set_true (hc k o ho hl e he hb)

/-- Whatever order is picked from here on, in whatever world that meets S (of whether F is listed); L is the first of the last ones. -/
def wpAnyU (P : Program) (md : Region.Mode) (ops : Array Oper) (Q : Exit → Act → World → Prop) (S : Bool → World → Prop) (F L : Nat) : Nat → Array Bool → Act → Prop
  | 0, listed, a => Region.ready md ops listed = [] ∧ ∀ w, S (listed.getD F false) w → Q .normal a w
  | fuel + 1, listed, a =>
    (Region.ready md ops listed = [] → ∀ w, S (listed.getD F false) w → Q .normal a w) ∧
    (∀ i ∈ Region.ready md ops listed, i ≠ L → ∀ w, S (listed.getD F false) w → wpOp P ops Q i (fun a' w' => S ((listed.setIfInBounds i true).getD F false) w' ∧ wpAnyU P md ops Q S F L fuel (listed.setIfInBounds i true) a') a w) ∧
    (L ∈ Region.ready md ops listed → ∀ w, S (listed.getD F false) w → wpOp P ops Q L (wpAny P md ops Q fuel (listed.setIfInBounds L true)) a w)

theorem wpAny_of_U {S : Bool → World → Prop} {F L : Nat} : ∀ (fuel : Nat) (listed : Array Bool) (a : Act), wpAnyU P md ops Q S F L fuel listed a → ∀ w, S (listed.getD F false) w → wpAny P md ops Q fuel listed a w
  | 0, _, _, h, w, hS => ⟨h.1, h.2 w hS⟩
  | fuel + 1, listed, a, h, w, hS => by
    refine ⟨fun h0 => h.1 h0 w hS, fun i hi => ?_⟩
    by_cases hL : i = L
    · subst hL
      exact h.2.2 hi w hS
    · exact wpOp_mono (fun a' w' h' => wpAny_of_U fuel _ a' h'.2 w' h'.1) (h.2.1 i hi hL w hS)

theorem getD_set_false {listed : Array Bool} {i j : Nat} (h : i ≠ j) : (listed.setIfInBounds i true).getD j false = listed.getD j false := by
  simp [Array.getElem?_setIfInBounds_ne h]

theorem wpAnyU_first {S : Bool → World → Prop} {i F L : Nat} {oi : Oper} {v : Value} (hi : ops[i]? = some oi) (hiL : i ≠ L) (hiF : i ≠ F) (hsel : ∀ (j : Nat) (o : Oper) cs b, ops[j]? = some o → o.op ≠ .select cs b)
    (hQ : ∀ c a w, Q (.panic c) (a.put oi.dst v) w → Q (.panic c) a w) (hL : L ≥ ops.size ∨ leads md ops ops.size i L = true) :
    ∀ (fuel : Nat) (listed : Array Bool) (a : Act), Closed md ops listed →
      (∀ j oj, ops[j]? = some oj → j ≠ i → listed.getD j true = false → (∀ e ∈ oj.after, Region.binds md e = true → e.on ≠ i) → oi.apart ops oj = true) →
      i ∈ Region.ready md ops listed → EachB P ops S oi v a →
      wpAnyU P md ops Q S F L fuel (listed.setIfInBounds i true) (a.put oi.dst v) → wpAnyU P md ops Q S F L (fuel + 1) listed a := by
  have noL : ∀ listed : Array Bool, Closed md ops listed → i ∈ Region.ready md ops listed → L ∉ Region.ready md ops listed := by
    intro listed hc hr hm
    rcases hL with hL | hL
    · obtain ⟨-, o, ho, -⟩ := mem_ready.1 hm
      rw [Array.getElem?_eq_none hL] at ho
      cases ho
    · exact leads_waits hc _ i L hL (mem_ready.1 hr).1 hm
  intro fuel
  induction fuel with
  | zero =>
    intro listed a hc _ hr hy H
    refine ⟨fun h => (by rw [h] at hr; cases hr), fun j hj _ w hS => ?_, fun hm => absurd hm (noL listed hc hr)⟩
    by_cases hji : j = i
    · subst hji; exact (hy _).wpOp hi hS fun w' hS' => ⟨by rw [getD_set_false hiF]; exact hS', H⟩
    · have := ready_mono hj hji
      rw [H.1] at this
      cases this
  | succ fuel ih =>
    intro listed a hc hfree hr hy H
    refine ⟨fun h => (by rw [h] at hr; cases hr), fun j hj hjL w hS => ?_, fun hm => absurd hm (noL listed hc hr)⟩
    by_cases hji : j = i
    · subst hji; exact (hy _).wpOp hi hS fun w' hS' => ⟨by rw [getD_set_false hiF]; exact hS', H⟩
    · have h1 := H.2.1 j (ready_mono hj hji) hjL w (by rw [getD_set_false hiF]; exact hS)
      obtain ⟨hjun, oj, hoj, hall⟩ := mem_ready.1 hj
      have hnot : ∀ e ∈ oj.after, Region.binds md e = true → e.on ≠ i := fun e he hb heq => by
        have h1 := hall e he hb
        have h0 := (mem_ready.1 hr).1
        rw [heq] at h1
        rw [getD_flip h0] at h1
        cases h1
      have h2 := wpOp_putEach hoj (hfree j oj hoj hji hjun hnot) (fun cs b => hsel i oi cs b hi) (fun cs b => hsel j oj cs b hoj) hQ hy h1
      have hfree' : ∀ k ok, ops[k]? = some ok → k ≠ i → (listed.setIfInBounds j true).getD k true = false →
          (∀ e ∈ ok.after, Region.binds md e = true → e.on ≠ i) → oi.apart ops ok = true := fun k ok hk hki hun hno => by
        refine hfree k ok hk hki ?_ hno
        by_cases hjk : j = k
        · subst hjk; exact hjun
        · rw [Go.getD_set_ne true hjk] at hun; exact hun
      refine wpOp_mono (fun a' w' h3 => ?_) h2
      obtain ⟨h4, h5, h6⟩ := h3
      rw [Array.setIfInBounds_comm _ _ (Ne.symm hji)] at h6
      rw [Array.setIfInBounds_comm _ _ (Ne.symm hji), getD_set_false hiF] at h5
      exact ⟨h5, ih (listed.setIfInBounds j true) a' (closed_set hc hj) hfree' (ready_mono hr (Ne.symm hji)) h4 h6⟩

/-- The first i are listed. -/
def listedTo (n i : Nat) : Array Bool := ((List.range n).map fun k => decide (k < i)).toArray

theorem listedTo_set (n i : Nat) : (listedTo n i).setIfInBounds i true = listedTo n (i + 1) := by
  apply Array.ext
  · simp [listedTo]
  · intro k h1 h2
    simp only [listedTo, List.setIfInBounds_toArray, List.getElem_toArray, List.getElem_set, List.getElem_map, List.getElem_range]
    by_cases h : i = k
    · subst h; simp
    · rw [if_neg h]
      exact decide_eq_decide.2 ⟨fun h => by omega, fun h' => by omega⟩

theorem listedTo_zero (n : Nat) : listedTo n 0 = Array.replicate n false := by
  apply Array.ext
  · simp [listedTo]
  · intro k h1 h2
    simp [listedTo]

/-- The order of the text is one that may be picked; each of the first m operations may be taken first where it stands, and the last one waits for it. -/
def textB (md : Region.Mode) (ops : Array Oper) (m L : Nat) : Bool :=
  Region.noSelect ops && (List.range m).all fun i => Region.free md ops (listedTo ops.size i) i && (Region.ready md ops (listedTo ops.size i)).contains i && (decide (ops.size ≤ L) || leads md ops ops.size i L)

theorem closed_to {m L : Nat} (h : textB md ops m L = true) : ∀ i, i ≤ m → Closed md ops (listedTo ops.size i) := by
  intro i
  induction i with
  | zero =>
    intro _ k o ho hl
    rw [listedTo_zero] at hl
    have hk : k < ops.size := (Array.getElem?_eq_some_iff.1 ho).1
    simp [hk] at hl
  | succ i ih =>
    intro hi
    rw [← listedTo_set]
    simp only [textB, Bool.and_eq_true, List.all_eq_true, List.mem_range] at h
    exact closed_set (ih (by omega)) (by simpa using (h.2 i (by omega)).1.2)

/-- One operation behind the other, in the order of the text; E: what is asked behind them. -/
def EachList (P : Program) (ops : Array Oper) (S : World → Prop) (E : Act → World → Prop) : List Oper → Act → Prop
  | [], a => ∀ w, S w → E a w
  | o :: rest, a => ∃ v, EachIf P ops S o v a ∧ EachList P ops S E rest (a.put o.dst v)

/-- The same under either of two conditions. -/
def EachListB (P : Program) (ops : Array Oper) (S : Bool → World → Prop) (E : Act → Prop) : List Oper → Act → Prop
  | [], a => E a
  | o :: rest, a => ∃ v, EachB P ops S o v a ∧ EachListB P ops S E rest (a.put o.dst v)

theorem EachList.toB {E : Act → World → Prop} : ∀ (l : List Oper) (a : Act), EachList P ops S E l a → EachListB P ops (fun _ => S) (fun a => ∀ w, S w → E a w) l a
  | [], _, h => h
  | _ :: l, _, ⟨v, h1, h2⟩ => ⟨v, fun _ => h1, EachList.toB l _ h2⟩

theorem eachU {S : Bool → World → Prop} {m F L : Nat} (ht : textB md ops m L = true) (hmL : m ≤ L) (hmF : m ≤ F) (hQ : ∀ d v c a w, Q (.panic c) (Act.put a d v) w → Q (.panic c) a w) {E : Act → Prop}
    (hend : ∀ a, E a → wpAnyU P md ops Q S F L (ops.size - m) (listedTo ops.size m) a) :
    ∀ (l : List Oper) (i : Nat) (a : Act), i + l.length = m → m ≤ ops.size → (∀ k, k < l.length → ops[i + k]? = l[k]?) → EachListB P ops S E l a → wpAnyU P md ops Q S F L (ops.size - i) (listedTo ops.size i) a := by
  have ht' := ht
  simp only [textB, Bool.and_eq_true, List.all_eq_true, List.mem_range] at ht'
  intro l
  induction l with
  | nil =>
    intro i a hl hm _ h
    obtain rfl : i = m := by simpa using hl
    exact hend a h
  | cons o rest ih =>
    intro i a hl hm hops h
    rw [List.length_cons] at hl
    obtain ⟨v, hv, hr⟩ := h
    have ho : ops[i]? = some o := by simpa using hops 0 (by simp)
    obtain ⟨⟨c1, c2⟩, c3⟩ := ht'.2 i (by omega)
    have hrec := ih (i + 1) (a.put o.dst v) (by omega) hm (fun k hk => by
      have := hops (k + 1) (by simpa using hk)
      rw [show i + 1 + k = i + (k + 1) by omega, this]
      simp) hr
    rw [← listedTo_set] at hrec
    rw [show ops.size - i = (ops.size - (i + 1)) + 1 by omega]
    refine wpAnyU_first ho (by omega) (by omega) (Region.noSelect_spec ht'.1) (hQ o.dst v) ?_ _ _ a (closed_to ht i (by omega)) (Region.free_spec ho c1) (by simpa using c2) hv hrec
    simp only [Bool.or_eq_true, decide_eq_true_eq] at c3
    exact c3

/-- THE LAW: all operations in the order of the text. -/
theorem wp_region_each {id : Nat} {a : Act} {w : World} (hm : P.follows .mixedOrders = true) (ht : textB .any ops ops.size ops.size = true) (hQ : ∀ d v c a w, Q (.panic c) (Act.put a d v) w → Q (.panic c) a w) (hS : S w.drew)
    (hready : Region.ready .any ops (listedTo ops.size ops.size) = []) (h : EachList P ops S (Q .normal) ops.toList a) : (Code.region id ops true).wp P Q a w := by
  refine wp_region_any hm ?_
  rw [← listedTo_zero]
  refine wpAny_of_U (S := fun _ => S) (F := ops.size) (L := ops.size) _ _ _ ?_ _ hS
  refine eachU (m := ops.size) ht (Nat.le_refl _) (Nat.le_refl _) hQ (E := fun a => ∀ w, S w → Q .normal a w) (fun a h => ?_) ops.toList 0 a (by simp) (Nat.le_refl _) (fun k hk => by simp) (EachList.toB _ _ h)
  rw [Nat.sub_self]
  exact ⟨hready, h⟩

theorem EachListB.cons {S : Bool → World → Prop} {E : Act → Prop} {o : Oper} {rest : List Oper} {a : Act} (v : Value) (h : ∀ b, EachIf P ops (S b) o v a) (hr : EachListB P ops S E rest (a.put o.dst v)) : EachListB P ops S E (o :: rest) a := ⟨v, h, hr⟩
theorem EachListB.done {S : Bool → World → Prop} {E : Act → Prop} {a : Act} (h : E a) : EachListB P ops S E [] a := h

theorem EachList.cons {E : Act → World → Prop} {o : Oper} {rest : List Oper} {a : Act} (v : Value) (h : EachIf P ops S o v a) (hr : EachList P ops S E rest (a.put o.dst v)) : EachList P ops S E (o :: rest) a := ⟨v, h, hr⟩

theorem EachList.done {E : Act → World → Prop} {a : Act} (h : ∀ w, S w → E a w) : EachList P ops S E [] a := h

/-- An operation that gives a value in whatever world, and does nothing else. -/
theorem EachIf.val {o : Oper} {v : Value} {a : Act} (hw : Region.wanted o (yielded ops a.tmps) = true) (h : ∀ w, S w → (execOp a.eval o).run P w = .ok (.value v) w) : EachIf P ops S o v a :=
  .inl ⟨hw, fun w hS => by rw [h w hS]; exact ⟨rfl, hS⟩⟩

theorem EachIf.off {o : Oper} {a : Act} (hw : Region.wanted o (yielded ops a.tmps) = false) : EachIf P ops S o undef a := .inr ⟨hw, rfl⟩

theorem EachIf.load {o : Oper} {v : Value} {a : Act} (hw : Region.wanted o (yielded ops a.tmps) = true) (ty : TypeId) (x : Operand) (ho : o.op = .load ty x) (ad : Addr) (hx : a.eval x = .pointer (some ad)) (h : ∀ w, S w → (loadVar ty ad).run P w = .ok v w) : EachIf P ops S o v a :=
  .val hw fun w hS => by
    unfold execOp
    simp only [ho, hx, Instr.loadAt, Instr.sureAddr, Sem.run_bind, Sem.run_pure, Result.andThen_ok, h w hS]

theorem EachIf.call {o : Oper} {v : Value} {a : Act} (hw : Region.wanted o (yielded ops a.tmps) = true) (f : Nat) (args : Array Value) (he : ∀ w, (execOp a.eval o).run P w = .ok (.enter f args) w) (h : ∀ w, S w → Calls P f args w fun e w' => e = .returned v ∧ S w') : EachIf P ops S o v a :=
  .inl ⟨hw, fun w hS => by rw [he w]; exact h w hS⟩
end

end Go.Proofs.Ytlfkodlnhfdgjaa

namespace Go.Proofs.Ytlfkodlnhfdgjaa
open Go.RowKit

end Go.Proofs.Ytlfkodlnhfdgjaa

namespace Go.Proofs.Ytlfkodlnhfdgjaa
open Go.RowKit

end Go.Proofs.Ytlfkodlnhfdgjaa

namespace Go.Proofs.Ytlfkodlnhfdgjaa
open Go.RowKit

end Go.Proofs.Ytlfkodlnhfdgjaa

namespace Go.Proofs.Ytlfkodlnhfdgjaa
open Go.RowKit

end Go.Proofs.Ytlfkodlnhfdgjaa

namespace Go.Proofs.Ytlfkodlnhfdgjaa
open Go.RowKit

end Go.Proofs.Ytlfkodlnhfdgjaa

namespace Go.Proofs.Ytlfkodlnhfdgjaa
open Go.RowKit

end Go.Proofs.Ytlfkodlnhfdgjaa
