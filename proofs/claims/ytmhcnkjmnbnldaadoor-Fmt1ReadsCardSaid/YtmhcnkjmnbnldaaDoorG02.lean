/-
  A region that draws its order, whose operations each give one value in every world that meets S, and leave such a world: it is walked in the order of the text. A last operation, for which all others wait, may do what it likes. Nothing of the program is named here. Layer 6 (fmt1): rightFile. Layer 6 (fmt1): listRow. Layer 6 (fmt1): row.Head, inodeRow. Package row: Entries. The words of entries. Layer 6 (fmt1): entryRow.
-/
import Derived.OrdersHeld
import Derived.WalkKit
import Derived.Test.YtmhcnkjmnbnldaaDoorG01
import Derived.Test.YtmhcnkjmnbnldaaDoorG00
import Derived.Laws.AppendOwn
import Derived.Deep.RegionWith
import Derived.IntWalk
namespace Go.Proofs.YtmhcnkjmnbnldaaDoor
section
variable {P : Program} {ops : Array Oper} {Q : Exit → Act → World → Prop} {md : Region.Mode} {S : World → Prop}

/-- The operation's outcome: the value v, and a world that meets S. -/
def Steps (P : Program) (S : World → Prop) (v : Value) : Result Next → Prop
  | .ok (.value u) w' => u = v ∧ S w'
  | .ok .skip w' => v = undef ∧ S w'
  | .ok (.enter f args) w' => Calls P f args w' fun e w'' => e = .returned v ∧ S w''
  | _ => False

/-- In state a, in every world that meets S, operation o gives v and leaves a world that meets S. -/
def EachIf (P : Program) (ops : Array Oper) (S : World → Prop) (o : Oper) (v : Value) (a : Act) : Prop :=
  (Region.wanted o (yielded ops a.tmps) = true ∧ ∀ w, S w → Steps P S v ((execOp a.eval o).run P w)) ∨ (Region.wanted o (yielded ops a.tmps) = false ∧ v = undef)

theorem EachIf.of_same {o : Oper} {v : Value} {a a' : Act} (hy : EachIf P ops S o v a) (he : execOp a'.eval o = execOp a.eval o)
    (hw : Region.wanted o (yielded ops a'.tmps) = Region.wanted o (yielded ops a.tmps)) : EachIf P ops S o v a' := by
  unfold EachIf at *
  rw [he, hw]
  exact hy

theorem EachIf.wpOp {i : Nat} {o : Oper} {v : Value} {a : Act} (hi : ops[i]? = some o) (hy : EachIf P ops S o v a) {K : Act → World → Prop} {w : World} (hS : S w) (h : ∀ w', S w' → K (a.put o.dst v) w') : wpOp P ops Q i K a w := by
  unfold Go.wpOp
  simp only [hi]
  rcases hy with ⟨hw, hv⟩ | ⟨hw, rfl⟩
  · have h1 := hv w hS
    simp only [hw, if_true]
    refine .inl ?_
    unfold Oper.wp
    generalize (execOp a.eval o).run P w = r at *
    cases r with
    | ok n w' =>
      cases n with
      | value u => obtain ⟨rfl, h2⟩ := h1; exact h _ h2
      | skip => obtain ⟨rfl, h2⟩ := h1; exact h _ h2
      | enter f args =>
        refine Calls.mono h1 fun e w'' he => ?_
        obtain ⟨rfl, h2⟩ := he
        exact h _ h2
      | _ => exact h1.elim
    | halt x w' => exact h1.elim
  · simp only [hw, Bool.false_eq_true, if_false]; exact h _ hS

/-- In state a, in every world that meets S, operation o gives v and leaves a world that meets S'. -/
def Each2 (P : Program) (ops : Array Oper) (S S' : World → Prop) (o : Oper) (v : Value) (a : Act) : Prop :=
  Region.wanted o (yielded ops a.tmps) = true ∧ ∀ w, S w → Steps P S' v ((execOp a.eval o).run P w)

theorem Each2.wpOp {S S' : World → Prop} {i : Nat} {o : Oper} {v : Value} {a : Act} (hi : ops[i]? = some o) (hy : Each2 P ops S S' o v a) {K : Act → World → Prop} {w : World} (hS : S w) (h : ∀ w', S' w' → K (a.put o.dst v) w') : wpOp P ops Q i K a w := by
  unfold Go.wpOp
  simp only [hi]
  obtain ⟨hw, hv⟩ := hy
  have h1 := hv w hS
  simp only [hw, if_true]
  refine .inl ?_
  unfold Oper.wp
  generalize (execOp a.eval o).run P w = r at *
  cases r with
  | ok n w' =>
    cases n with
    | value u => obtain ⟨rfl, h2⟩ := h1; exact h _ h2
    | skip => obtain ⟨rfl, h2⟩ := h1; exact h _ h2
    | enter f args =>
      refine Calls.mono h1 fun e w'' he => ?_
      obtain ⟨rfl, h2⟩ := he
      exact h _ h2
    | _ => exact h1.elim
  | halt x w' => exact h1.elim

/-- The same under either of two conditions. -/
def EachB (P : Program) (ops : Array Oper) (S : Bool → World → Prop) (o : Oper) (v : Value) (a : Act) : Prop := ∀ b, EachIf P ops (S b) o v a

/-- One operation oj, apart from oi: whether oi's value is in its temporary already makes no difference to it, and it makes none to oi. -/
theorem wpOp_putEach {S : Bool → World → Prop} {j : Nat} {oi oj : Oper} {v : Value} (hj : ops[j]? = some oj) (hap : oi.apart ops oj = true)
    (hsi : ∀ cs b, oi.op ≠ .select cs b) (hsj : ∀ cs b, oj.op ≠ .select cs b)
    (hQ : ∀ c a w, Q (.panic c) (a.put oi.dst v) w → Q (.panic c) a w) {K : Act → World → Prop} {a : Act} {w : World}
    (hy : EachB P ops S oi v a) (h : wpOp P ops Q j K (a.put oi.dst v) w) :
    wpOp P ops Q j (fun a' w' => EachB P ops S oi v a' ∧ K (a'.put oi.dst v) w') a w := by
  obtain ⟨h1, h2, h3⟩ := Oper.apart_spec hap
  have keep : ∀ (a : Act), EachB P ops S oi v a → ∀ u, EachB P ops S oi v (a.put oj.dst u) := fun a hy u =>
    fun b => (hy b).of_same (execOp_put oi hsi a oj.dst u h3) (wanted_put oi a oj.dst u h3)
  have keepD : ∀ d, EachB P ops S oi v { a with defers := d :: a.defers } := fun d => fun b => (hy b).of_same rfl rfl
  unfold Go.wpOp at *
  simp only [hj] at *
  rw [wanted_put oj a oi.dst v h1] at h
  split
  · rename_i hw
    simp only [hw, if_true] at h
    rcases h with h | ⟨hasks, hlets⟩
    case inr => exact .inr ⟨by unfold Oper.asks at *; rw [execOp_put oj hsj a oi.dst v h1] at hasks; exact hasks, hlets⟩
    refine .inl ?_
    unfold Oper.wp at *
    rw [execOp_put oj hsj a oi.dst v h1] at h
    generalize (execOp a.eval oj).run P w = r at *
    cases r with
    | ok n w' =>
      cases n <;> simp only [Oper.upon] at h ⊢
      case value u => exact ⟨keep a hy u, by rw [← Act.put_comm a v u h2]; exact h⟩
      case skip => exact ⟨keep a hy _, by rw [← Act.put_comm a v undef h2]; exact h⟩
      case defer d =>
        refine ⟨keep _ (keepD d) _, ?_⟩
        rw [← Act.put_comm _ v undef h2, ← Act.put_defers]
        exact h
      case enter f args =>
        refine Calls.mono h fun e w'' he => ?_
        cases e with
        | returned u => exact ⟨keep a hy u, by rw [← Act.put_comm a v u h2]; exact he⟩
        | panicked c => exact hQ _ _ _ he
        | outgrown => exact he
      case row row args => exact Rows.mono h fun u w'' he => ⟨keep a hy u, by rw [← Act.put_comm a v u h2]; exact he⟩
    | halt x w' =>
      cases x <;> simp only [Oper.upon] at h ⊢
      case panic u => exact hQ _ _ _ h
  · rename_i hw
    simp only [hw] at h
    exact ⟨keep a hy _, by rw [← Act.put_comm a v undef h2]; exact h⟩

/-- What is listed, all that it waits for is listed. -/
def Closed (md : Region.Mode) (ops : Array Oper) (listed : Array Bool) : Prop :=
  ∀ k o, ops[k]? = some o → listed.getD k true = true → ∀ e ∈ o.after, Region.binds md e = true → listed.getD e.on false = true

/-- L waits for i, by way of others maybe. -/
def leads (md : Region.Mode) (ops : Array Oper) : Nat → Nat → Nat → Bool
  | 0, _, _ => false
  | fuel + 1, i, L => (List.range ops.size).any fun k => k != i && ((ops[k]?).map (·.after.any fun e => Region.binds md e && e.on == i)).getD false && (k == L || leads md ops fuel k L)

theorem getD_flip {listed : Array Bool} {i : Nat} (h : listed.getD i true = false) : listed.getD i false = false := by
  rcases Nat.lt_or_ge i listed.size with h' | h'
  · simp [h'] at h ⊢; exact h
  · simp [Array.getElem?_eq_none h'] at h

theorem leads_waits {listed : Array Bool} (hc : Closed md ops listed) : ∀ (fuel i L : Nat), leads md ops fuel i L = true → listed.getD i true = false → L ∉ Region.ready md ops listed := by
  intro fuel
  induction fuel with
  | zero => intro i L h; simp [leads] at h
  | succ fuel ih =>
    intro i L h hi
    unfold leads at h
    rw [List.any_eq_true] at h
    obtain ⟨k, -, hk⟩ := h
    simp only [Bool.and_eq_true, Bool.or_eq_true, bne_iff_ne, ne_eq] at hk
    obtain ⟨⟨-, hk1⟩, hk2⟩ := hk
    cases ho : ops[k]? with
    | none => simp [ho] at hk1
    | some o =>
      have hk1' : o.after.any (fun e => Region.binds md e && e.on == i) = true := by simpa [ho] using hk1
      obtain ⟨e, he, heb⟩ := Array.any_eq_true'.1 hk1'
      simp only [Bool.and_eq_true, beq_iff_eq] at heb
      obtain ⟨hb, hon⟩ := heb
      have hun : listed.getD e.on false = false := by rw [hon]; exact getD_flip hi
      by_cases hkL : k = L
      · subst hkL
        intro hm
        obtain ⟨-, o', ho', hall⟩ := mem_ready.1 hm
        rw [ho] at ho'
        cases ho'
        rw [hall e he hb] at hun
        cases hun
      · rcases hk2 with hk2 | hk2
        · exact absurd (by simpa using hk2) hkL
        · refine ih k L hk2 ?_
          cases hl : listed.getD k true with
          | false => rfl
          | true =>
            rw [hc k o ho hl e he hb] at hun
            cases hun

theorem closed_set {listed : Array Bool} {j : Nat} (hc : Closed md ops listed) (hj : j ∈ Region.ready md ops listed) : Closed md ops (listed.setIfInBounds j true) := by
  intro k o ho hl e he hb
  by_cases hjk : j = k
  · subst hjk
    obtain ⟨-, o', ho', hall⟩ := mem_ready.1 hj
    rw [ho] at ho'
    cases ho'
    exact getD_set_true (hall e he hb)
  · rw [Go.getD_set_ne true hjk] at hl
    exact getD_set_true (hc k o ho hl e he hb)

/-- Whatever order is picked from here on, in whatever world that meets S (of whether F is listed); L is the first of the last ones. -/
def wpAnyU (P : Program) (md : Region.Mode) (ops : Array Oper) (Q : Exit → Act → World → Prop) (S : Bool → World → Prop) (F L : Nat) : Nat → Array Bool → Act → Prop
  | 0, listed, a => Region.ready md ops listed = [] ∧ ∀ w, S (listed.getD F false) w → Q .normal a w
  | fuel + 1, listed, a =>
    (Region.ready md ops listed = [] → ∀ w, S (listed.getD F false) w → Q .normal a w) ∧
    (∀ i ∈ Region.ready md ops listed, i ≠ L → ∀ w, S (listed.getD F false) w → wpOp P ops Q i (fun a' w' => S ((listed.setIfInBounds i true).getD F false) w' ∧ wpAnyU P md ops Q S F L fuel (listed.setIfInBounds i true) a') a w) ∧
    (L ∈ Region.ready md ops listed → ∀ w, S (listed.getD F false) w → wpOp P ops Q L (wpAny P md ops Q fuel (listed.setIfInBounds L true)) a w)

theorem wpAny_of_U {S : Bool → World → Prop} {F L : Nat} : ∀ (fuel : Nat) (listed : Array Bool) (a : Act), wpAnyU P md ops Q S F L fuel listed a → ∀ w, S (listed.getD F false) w → wpAny P md ops Q fuel listed a w
  | 0, _, _, h, w, hS => ⟨h.1, h.2 w hS⟩
  | fuel + 1, listed, a, h, w, hS => by
    refine ⟨fun h0 => h.1 h0 w hS, fun i hi => ?_⟩
    by_cases hL : i = L
    · subst hL
      exact h.2.2 hi w hS
    · exact wpOp_mono (fun a' w' h' => wpAny_of_U fuel _ a' h'.2 w' h'.1) (h.2.1 i hi hL w hS)

theorem getD_set_false {listed : Array Bool} {i j : Nat} (h : i ≠ j) : (listed.setIfInBounds i true).getD j false = listed.getD j false := by
  simp [Array.getElem?_setIfInBounds_ne h]

theorem wpAnyU_first {S : Bool → World → Prop} {i F L : Nat} {oi : Oper} {v : Value} (hi : ops[i]? = some oi) (hiL : i ≠ L) (hiF : i ≠ F) (hsel : ∀ (j : Nat) (o : Oper) cs b, ops[j]? = some o → o.op ≠ .select cs b)
    (hQ : ∀ c a w, Q (.panic c) (a.put oi.dst v) w → Q (.panic c) a w) (hL : L ≥ ops.size ∨ leads md ops ops.size i L = true) :
    ∀ (fuel : Nat) (listed : Array Bool) (a : Act), Closed md ops listed →
      (∀ j oj, ops[j]? = some oj → j ≠ i → listed.getD j true = false → (∀ e ∈ oj.after, Region.binds md e = true → e.on ≠ i) → oi.apart ops oj = true) →
      i ∈ Region.ready md ops listed → EachB P ops S oi v a →
      wpAnyU P md ops Q S F L fuel (listed.setIfInBounds i true) (a.put oi.dst v) → wpAnyU P md ops Q S F L (fuel + 1) listed a := by
  have noL : ∀ listed : Array Bool, Closed md ops listed → i ∈ Region.ready md ops listed → L ∉ Region.ready md ops listed := by
    intro listed hc hr hm
    rcases hL with hL | hL
    · obtain ⟨-, o, ho, -⟩ := mem_ready.1 hm
      rw [Array.getElem?_eq_none hL] at ho
      cases ho
    · exact leads_waits hc _ i L hL (mem_ready.1 hr).1 hm
  intro fuel
  induction fuel with
  | zero =>
    intro listed a hc _ hr hy H
    refine ⟨fun h => (by rw [h] at hr; cases hr), fun j hj _ w hS => ?_, fun hm => absurd hm (noL listed hc hr)⟩
    by_cases hji : j = i
    · subst hji; exact (hy _).wpOp hi hS fun w' hS' => ⟨by rw [getD_set_false hiF]; exact hS', H⟩
    · have := ready_mono hj hji
      rw [H.1] at this
      cases this
  | succ fuel ih =>
    intro listed a hc hfree hr hy H
    refine ⟨fun h => (by rw [h] at hr; cases hr), fun j hj hjL w hS => ?_, fun hm => absurd hm (noL listed hc hr)⟩
    by_cases hji : j = i
    · subst hji; exact (hy _).wpOp hi hS fun w' hS' => ⟨by rw [getD_set_false hiF]; exact hS', H⟩
    · have h1 := H.2.1 j (ready_mono hj hji) hjL w (by rw [getD_set_false hiF]; exact hS)
      obtain ⟨hjun, oj, hoj, hall⟩ := mem_ready.1 hj
      have hnot : ∀ e ∈ oj.after, Region.binds md e = true → e.on ≠ i := fun e he hb heq => by
        have h1 := hall e he hb
        have h0 := (mem_ready.1 hr).1
        rw [heq] at h1
        rw [getD_flip h0] at h1
        cases h1
      have h2 := wpOp_putEach hoj (hfree j oj hoj hji hjun hnot) (fun cs b => hsel i oi cs b hi) (fun cs b => hsel j oj cs b hoj) hQ hy h1
      have hfree' : ∀ k ok, ops[k]? = some ok → k ≠ i → (listed.setIfInBounds j true).getD k true = false →
          (∀ e ∈ ok.after, Region.binds md e = true → e.on ≠ i) → oi.apart ops ok = true := fun k ok hk hki hun hno => by
        refine hfree k ok hk hki ?_ hno
        by_cases hjk : j = k
        · subst hjk; exact hjun
        · rw [Go.getD_set_ne true hjk] at hun; exact hun
      refine wpOp_mono (fun a' w' h3 => ?_) h2
      obtain ⟨h4, h5, h6⟩ := h3
      rw [Array.setIfInBounds_comm _ _ (Ne.symm hji)] at h6
      rw [Array.setIfInBounds_comm _ _ (Ne.symm hji), getD_set_false hiF] at h5
      exact ⟨h5, ih (listed.setIfInBounds j true) a' (closed_set hc hj) hfree' (ready_mono hr (Ne.symm hji)) h4 h6⟩

/-- The first i are listed. -/
def listedTo (n i : Nat) : Array Bool := ((List.range n).map fun k => decide (k < i)).toArray

theorem listedTo_set (n i : Nat) : (listedTo n i).setIfInBounds i true = listedTo n (i + 1) := by
  apply Array.ext
  · simp [listedTo]
  · intro k h1 h2
    simp only [listedTo, List.setIfInBounds_toArray, List.getElem_toArray, List.getElem_set, List.getElem_map, List.getElem_range]
    by_cases h : i = k
    · subst h; simp
    · rw [if_neg h]
      exact decide_eq_decide.2 ⟨fun h => by omega, fun h' => by omega⟩

theorem listedTo_zero (n : Nat) : listedTo n 0 = Array.replicate n false := by
  apply Array.ext
  · simp [listedTo]
  · intro k h1 h2
    simp [listedTo]

/-- The order of the text is one that may be picked; each of the first m operations may be taken first where it stands, and the last one waits for it. -/
def textB (md : Region.Mode) (ops : Array Oper) (m L : Nat) : Bool :=
  Region.noSelect ops && (List.range m).all fun i => Region.free md ops (listedTo ops.size i) i && (Region.ready md ops (listedTo ops.size i)).contains i && (decide (ops.size ≤ L) || leads md ops ops.size i L)

theorem closed_to {m L : Nat} (h : textB md ops m L = true) : ∀ i, i ≤ m → Closed md ops (listedTo ops.size i) := by
  intro i
  induction i with
  | zero =>
    intro _ k o ho hl
    rw [listedTo_zero] at hl
    have hk : k < ops.size := (Array.getElem?_eq_some_iff.1 ho).1
    simp [hk] at hl
  | succ i ih =>
    intro hi
    rw [← listedTo_set]
    simp only [textB, Bool.and_eq_true, List.all_eq_true, List.mem_range] at h
    exact closed_set (ih (by omega)) (by simpa using (h.2 i (by omega)).1.2)

/-- One operation behind the other, in the order of the text; E: what is asked behind them. -/
def EachList (P : Program) (ops : Array Oper) (S : World → Prop) (E : Act → World → Prop) : List Oper → Act → Prop
  | [], a => ∀ w, S w → E a w
  | o :: rest, a => ∃ v, EachIf P ops S o v a ∧ EachList P ops S E rest (a.put o.dst v)

/-- The same under either of two conditions. -/
def EachListB (P : Program) (ops : Array Oper) (S : Bool → World → Prop) (E : Act → Prop) : List Oper → Act → Prop
  | [], a => E a
  | o :: rest, a => ∃ v, EachB P ops S o v a ∧ EachListB P ops S E rest (a.put o.dst v)

theorem EachList.toB {E : Act → World → Prop} : ∀ (l : List Oper) (a : Act), EachList P ops S E l a → EachListB P ops (fun _ => S) (fun a => ∀ w, S w → E a w) l a
  | [], _, h => h
  | _ :: l, _, ⟨v, h1, h2⟩ => ⟨v, fun _ => h1, EachList.toB l _ h2⟩

theorem eachU {S : Bool → World → Prop} {m F L : Nat} (ht : textB md ops m L = true) (hmL : m ≤ L) (hmF : m ≤ F) (hQ : ∀ d v c a w, Q (.panic c) (Act.put a d v) w → Q (.panic c) a w) {E : Act → Prop}
    (hend : ∀ a, E a → wpAnyU P md ops Q S F L (ops.size - m) (listedTo ops.size m) a) :
    ∀ (l : List Oper) (i : Nat) (a : Act), i + l.length = m → m ≤ ops.size → (∀ k, k < l.length → ops[i + k]? = l[k]?) → EachListB P ops S E l a → wpAnyU P md ops Q S F L (ops.size - i) (listedTo ops.size i) a := by
  have ht' := ht
  simp only [textB, Bool.and_eq_true, List.all_eq_true, List.mem_range] at ht'
  intro l
  induction l with
  | nil =>
    intro i a hl hm _ h
    obtain rfl : i = m := by simpa using hl
    exact hend a h
  | cons o rest ih =>
    intro i a hl hm hops h
    rw [List.length_cons] at hl
    obtain ⟨v, hv, hr⟩ := h
    have ho : ops[i]? = some o := by simpa using hops 0 (by simp)
    obtain ⟨⟨c1, c2⟩, c3⟩ := ht'.2 i (by omega)
    have hrec := ih (i + 1) (a.put o.dst v) (by omega) hm (fun k hk => by
      have := hops (k + 1) (by simpa using hk)
      rw [show i + 1 + k = i + (k + 1) by omega, this]
      simp) hr
    rw [← listedTo_set] at hrec
    rw [show ops.size - i = (ops.size - (i + 1)) + 1 by omega]
    refine wpAnyU_first ho (by omega) (by omega) (Region.noSelect_spec ht'.1) (hQ o.dst v) ?_ _ _ a (closed_to ht i (by omega)) (Region.free_spec ho c1) (by simpa using c2) hv hrec
    simp only [Bool.or_eq_true, decide_eq_true_eq] at c3
    exact c3

/-- THE LAW: all operations in the order of the text. -/
theorem wp_region_each {id : Nat} {a : Act} {w : World} (hm : P.follows .mixedOrders = true) (ht : textB .any ops ops.size ops.size = true) (hQ : ∀ d v c a w, Q (.panic c) (Act.put a d v) w → Q (.panic c) a w) (hS : S w.drew)
    (hready : Region.ready .any ops (listedTo ops.size ops.size) = []) (h : EachList P ops S (Q .normal) ops.toList a) : (Code.region id ops true).wp P Q a w := by
  refine wp_region_any hm ?_
  rw [← listedTo_zero]
  refine wpAny_of_U (S := fun _ => S) (F := ops.size) (L := ops.size) _ _ _ ?_ _ hS
  refine eachU (m := ops.size) ht (Nat.le_refl _) (Nat.le_refl _) hQ (E := fun a => ∀ w, S w → Q .normal a w) (fun a h => ?_) ops.toList 0 a (by simp) (Nat.le_refl _) (fun k hk => by simp) (EachList.toB _ _ h)
  rw [Nat.sub_self]
  exact ⟨hready, h⟩

/-- Operations that come up one behind the other, and in no other order. -/
theorem tail_any : ∀ (l : List Oper) (i : Nat) (a : Act) (w : World), i + l.length = ops.size → (∀ k, k < l.length → ops[i + k]? = l[k]?) → (∀ j, i ≤ j → j < ops.size → Region.ready md ops (listedTo ops.size j) = [j]) →
    Region.ready md ops (listedTo ops.size ops.size) = [] → wpList P ops Q l a w → wpAny P md ops Q (ops.size - i) (listedTo ops.size i) a w := by
  intro l
  induction l with
  | nil =>
    intro i a w hl _ _ hr h
    obtain rfl : i = ops.size := by simpa using hl
    rw [Nat.sub_self]
    exact ⟨hr, h⟩
  | cons o rest ih =>
    intro i a w hl hops hready hr h
    rw [List.length_cons] at hl
    have ho : ops[i]? = some o := by simpa using hops 0 (by simp)
    have h1 := hready i (Nat.le_refl _) (by omega)
    rw [show ops.size - i = (ops.size - (i + 1)) + 1 by omega]
    refine ⟨fun h0 => (by rw [h1] at h0; cases h0), fun j hj => ?_⟩
    rw [h1, List.mem_singleton] at hj
    subst hj
    rw [listedTo_set]
    have h2 : wpOp P ops Q j (wpList P ops Q rest) a w := by
      unfold Go.wpOp
      simp only [ho]
      unfold wpList at h
      exact h
    refine wpOp_mono (fun a' w' h' => ih (j + 1) a' w' (by omega) (fun k hk => ?_) (fun i hi hi2 => hready i (by omega) hi2) hr h') h2
    have := hops (k + 1) (by simpa using hk)
    rw [show j + 1 + k = j + (k + 1) by omega, this]
    simp

theorem ready_single {m r : Nat} (hr1 : ((List.range r).all fun k => Region.ready md ops (listedTo ops.size (m + k)) == [m + k]) = true) : ∀ j, m ≤ j → j < m + r → Region.ready md ops (listedTo ops.size j) = [j] := fun j hj hj2 => by
  have := List.all_eq_true.1 hr1 (j - m) (by rw [List.mem_range]; omega)
  rw [show m + (j - m) = j by omega] at this
  simpa using this

/-- THE LAW, WITH LAST OPERATIONS that wait for all others, and for each other. -/
theorem wp_region_last {id : Nat} {a : Act} {w : World} {l : List Oper} {o : Oper} {tl : List Oper} (hm : P.follows .mixedOrders = true) (hops : ops.toList = l ++ (o :: tl)) (ht : textB .any ops l.length l.length = true) (hQ : ∀ d v c a w, Q (.panic c) (Act.put a d v) w → Q (.panic c) a w) (hS : S w.drew)
    (hr1 : ((List.range (tl.length + 1)).all fun k => Region.ready .any ops (listedTo ops.size (l.length + k)) == [l.length + k]) = true) (hr2 : Region.ready .any ops (listedTo ops.size ops.size) = []) (h : EachList P ops S (wpList P ops Q (o :: tl)) l a) : (Code.region id ops true).wp P Q a w := by
  have hsz : ops.size = l.length + (tl.length + 1) := by rw [← Array.length_toList, hops]; simp
  have hready := ready_single hr1
  rw [← hsz] at hready
  refine wp_region_any hm ?_
  rw [← listedTo_zero]
  refine wpAny_of_U (S := fun _ => S) (F := ops.size) (L := l.length) _ _ _ ?_ _ hS
  have hget : ∀ k, ops[k]? = (l ++ (o :: tl))[k]? := fun k => by rw [← hops, Array.getElem?_toList]
  refine eachU (m := l.length) ht (Nat.le_refl _) (by omega) hQ (E := fun a => ∀ w, S w → wpList P ops Q (o :: tl) a w) (fun a h => ?_) l 0 a (by simp) (by omega) (fun k hk => by rw [hget, Nat.zero_add, List.getElem?_append_left hk]) (EachList.toB _ _ h)
  have h1 := hready l.length (Nat.le_refl _) (by omega)
  have hany : ∀ w, S w → wpAny P .any ops Q (ops.size - l.length) (listedTo ops.size l.length) a w := fun w hS =>
    tail_any (o :: tl) l.length a w (by simpa using hsz.symm) (fun k hk => by rw [hget, List.getElem?_append_right (by omega), Nat.add_sub_cancel_left]) hready hr2 (h w hS)
  rw [show ops.size - l.length = tl.length + 1 by omega] at hany ⊢
  refine ⟨fun h0 => (by rw [h1] at h0; cases h0), fun i hi hne => ?_, fun hm w hS => (hany w hS).2 _ hm⟩
  rw [h1, List.mem_singleton] at hi
  exact absurd hi hne

theorem listedTo_getD {n F i : Nat} (h : F < n) : (listedTo n i).getD F false = decide (F < i) := by
  simp [listedTo, h]

theorem midU {S : Bool → World → Prop} {F L : Nat} (hready : ∀ j, F < j → j < ops.size → Region.ready md ops (listedTo ops.size j) = [j]) {E : Act → World → Prop}
    (hend : ∀ a, (∀ w, S true w → E a w) → wpAnyU P md ops Q S F L (ops.size - L) (listedTo ops.size L) a) :
    ∀ (l : List Oper) (i : Nat) (a : Act), F < i → i + l.length = L → L < ops.size → (∀ k, k < l.length → ops[i + k]? = l[k]?) → EachList P ops (S true) E l a → wpAnyU P md ops Q S F L (ops.size - i) (listedTo ops.size i) a := by
  intro l
  induction l with
  | nil =>
    intro i a _ hl _ _ h
    obtain rfl : i = L := by simpa using hl
    exact hend a h
  | cons o rest ih =>
    intro i a hF hl hL hops h
    rw [List.length_cons] at hl
    obtain ⟨v, hv, hr⟩ := h
    have ho : ops[i]? = some o := by simpa using hops 0 (by simp)
    have h1 := hready i hF (by omega)
    have hrec := ih (i + 1) (a.put o.dst v) (by omega) (by omega) hL (fun k hk => by
      have := hops (k + 1) (by simpa using hk)
      rw [show i + 1 + k = i + (k + 1) by omega, this]
      simp) hr
    rw [show ops.size - i = (ops.size - (i + 1)) + 1 by omega]
    refine ⟨fun h0 => (by rw [h1] at h0; cases h0), fun j hj _ w hS => ?_, fun hm => ?_⟩
    · rw [h1, List.mem_singleton] at hj
      subst hj
      rw [listedTo_getD (by omega), decide_eq_true (show F < j by omega)] at hS
      refine hv.wpOp ho hS fun w' hS' => ?_
      rw [listedTo_set, listedTo_getD (by omega), decide_eq_true (show F < j + 1 by omega)]
      exact ⟨hS', hrec⟩
    · rw [h1, List.mem_singleton] at hm
      omega

/-- THE LAW, WITH A STORE f that may come up at any time, then operations mid, and last operations that wait for all others. -/
theorem wp_region_store {S : Bool → World → Prop} {id : Nat} {a : Act} {w : World} {l mid : List Oper} {f o : Oper} {tl : List Oper} (hm : P.follows .mixedOrders = true) (hops : ops.toList = l ++ (f :: (mid ++ (o :: tl)))) (ht : textB .any ops l.length (l.length + 1 + mid.length) = true) (hQ : ∀ d v c a w, Q (.panic c) (Act.put a d v) w → Q (.panic c) a w) (hS : S false w.drew)
    (hr1 : ((List.range (ops.size - l.length)).all fun k => Region.ready .any ops (listedTo ops.size (l.length + k)) == [l.length + k]) = true) (hr2 : Region.ready .any ops (listedTo ops.size ops.size) = [])
    (h : EachListB P ops S (fun a => ∃ v, Each2 P ops (S false) (S true) f v a ∧ EachList P ops (S true) (wpList P ops Q (o :: tl)) mid (a.put f.dst v)) l a) : (Code.region id ops true).wp P Q a w := by
  have hsz : ops.size = l.length + (1 + (mid.length + (1 + tl.length))) := by rw [← Array.length_toList, hops]; simp; omega
  have hready := ready_single hr1
  rw [show l.length + (ops.size - l.length) = ops.size by omega] at hready
  refine wp_region_any hm ?_
  rw [← listedTo_zero]
  refine wpAny_of_U (S := S) (F := l.length) (L := l.length + 1 + mid.length) _ _ _ ?_ _ (by rw [listedTo_getD (by omega)]; exact hS)
  have hget : ∀ k, ops[k]? = (l ++ (f :: (mid ++ (o :: tl))))[k]? := fun k => by rw [← hops, Array.getElem?_toList]
  refine eachU (m := l.length) ht (by omega) (Nat.le_refl _) hQ (fun a h => ?_) l 0 a (by simp) (by omega) (fun k hk => by rw [hget, Nat.zero_add, List.getElem?_append_left hk]) h
  obtain ⟨v, hf, hrest⟩ := h
  have h1 := hready l.length (Nat.le_refl _) (by omega)
  have hmid := midU (md := .any) (Q := Q) (S := S) (F := l.length) (L := l.length + 1 + mid.length) (fun j hj => hready j (by omega)) (E := wpList P ops Q (o :: tl)) (fun a2 h => by
    have h2 := hready (l.length + 1 + mid.length) (by omega) (by omega)
    have hany : ∀ w, S true w → wpAny P .any ops Q (ops.size - (l.length + 1 + mid.length)) (listedTo ops.size (l.length + 1 + mid.length)) a2 w := fun w hS =>
      tail_any (o :: tl) (l.length + 1 + mid.length) _ w (by simp; omega) (fun k hk => by
        rw [hget, List.getElem?_append_right (by omega), show l.length + 1 + mid.length + k - l.length = mid.length + k + 1 by omega, List.getElem?_cons_succ, List.getElem?_append_right (by omega), Nat.add_sub_cancel_left]) (fun j hj => hready j (by omega)) hr2 (h w hS)
    rw [show ops.size - (l.length + 1 + mid.length) = tl.length + 1 by omega] at hany ⊢
    refine ⟨fun h0 => (by rw [h2] at h0; cases h0), fun i hi hne => ?_, fun hm w hS => ?_⟩
    · rw [h2, List.mem_singleton] at hi
      exact absurd hi hne
    · rw [listedTo_getD (by omega), decide_eq_true (by omega)] at hS
      exact (hany w hS).2 _ hm) mid (l.length + 1) (a.put f.dst v) (by omega) rfl (by omega) (fun k hk => by
        rw [hget, List.getElem?_append_right (by omega), show l.length + 1 + k - l.length = k + 1 by omega, List.getElem?_cons_succ, List.getElem?_append_left hk]) hrest
  rw [show ops.size - l.length = (ops.size - (l.length + 1)) + 1 by omega]
  refine ⟨fun h0 => (by rw [h1] at h0; cases h0), fun i hi hne w hS => ?_, fun hm => ?_⟩
  · rw [h1, List.mem_singleton] at hi
    subst hi
    rw [listedTo_getD (by omega), decide_eq_false (by omega)] at hS
    refine hf.wpOp (by rw [hget]; simp) hS fun w' hS' => ?_
    rw [listedTo_set, listedTo_getD (by omega), decide_eq_true (by omega)]
    exact ⟨hS', hmid⟩
  · rw [h1, List.mem_singleton] at hm
    omega

theorem EachListB.cons {S : Bool → World → Prop} {E : Act → Prop} {o : Oper} {rest : List Oper} {a : Act} (v : Value) (h : ∀ b, EachIf P ops (S b) o v a) (hr : EachListB P ops S E rest (a.put o.dst v)) : EachListB P ops S E (o :: rest) a := ⟨v, h, hr⟩
theorem EachListB.done {S : Bool → World → Prop} {E : Act → Prop} {a : Act} (h : E a) : EachListB P ops S E [] a := h

theorem EachList.cons {E : Act → World → Prop} {o : Oper} {rest : List Oper} {a : Act} (v : Value) (h : EachIf P ops S o v a) (hr : EachList P ops S E rest (a.put o.dst v)) : EachList P ops S E (o :: rest) a := ⟨v, h, hr⟩

theorem EachList.done {E : Act → World → Prop} {a : Act} (h : ∀ w, S w → E a w) : EachList P ops S E [] a := h

/-- An operation that gives a value in whatever world, and does nothing else. -/
theorem EachIf.val {o : Oper} {v : Value} {a : Act} (hw : Region.wanted o (yielded ops a.tmps) = true) (h : ∀ w, S w → (execOp a.eval o).run P w = .ok (.value v) w) : EachIf P ops S o v a :=
  .inl ⟨hw, fun w hS => by rw [h w hS]; exact ⟨rfl, hS⟩⟩

theorem EachIf.off {o : Oper} {a : Act} (hw : Region.wanted o (yielded ops a.tmps) = false) : EachIf P ops S o undef a := .inr ⟨hw, rfl⟩

theorem EachIf.load {o : Oper} {v : Value} {a : Act} (hw : Region.wanted o (yielded ops a.tmps) = true) (ty : TypeId) (x : Operand) (ho : o.op = .load ty x) (ad : Addr) (hx : a.eval x = .pointer (some ad)) (h : ∀ w, S w → (loadVar ty ad).run P w = .ok v w) : EachIf P ops S o v a :=
  .val hw fun w hS => by
    unfold execOp
    simp only [ho, hx, Instr.loadAt, Instr.sureAddr, Sem.run_bind, Sem.run_pure, Result.andThen_ok, h w hS]

theorem Each2.store {S S' : World → Prop} {o : Oper} {a : Act} (hw : Region.wanted o (yielded ops a.tmps) = true) (ty : TypeId) (x y : Operand) (ho : o.op = .store ty x y) (ad : Addr) (hx : a.eval x = .pointer (some ad)) (v : Value) (hy : a.eval y = v)
    (h : ∀ w, S w → ∃ w', (storeVar ty ad v).run P w = .ok () w' ∧ S' w') : Each2 P ops S S' o undef a :=
  ⟨hw, fun w hS => by
    obtain ⟨w', h1, h2⟩ := h w hS
    unfold execOp
    simp only [ho, hx, hy, Instr.storeAt, Instr.sureAddr, Sem.run_bind, Sem.run_pure, Result.andThen_ok, h1]
    exact ⟨rfl, h2⟩⟩

theorem EachIf.call {o : Oper} {v : Value} {a : Act} (hw : Region.wanted o (yielded ops a.tmps) = true) (f : Nat) (args : Array Value) (he : ∀ w, (execOp a.eval o).run P w = .ok (.enter f args) w) (h : ∀ w, S w → Calls P f args w fun e w' => e = .returned v ∧ S w') : EachIf P ops S o v a :=
  .inl ⟨hw, fun w hS => by rw [he w]; exact h w hS⟩
end

end Go.Proofs.YtmhcnkjmnbnldaaDoor

namespace Go.Proofs.YtmhcnkjmnbnldaaDoor
open Go.RowKit

set_option maxRecDepth 100000 in
set_option maxHeartbeats 4000000 in
theorem rightFile_at (n : Ino) (a : Option Addr) (cap : Nat) (hB : n.B.length = 13) (w : World) : Calls Tryd.prog 44 #[.agg (inoC n (.slice a n.E.length cap))] w fun e w' => e = .returned (.bool (decide (FileP n))) ∧ Keeps [] w w' := by
  obtain ⟨Z, hZ⟩ : ∃ Z, Z = inoC n (.slice a n.E.length cap) := ⟨_, rfl⟩
  have hat : InoAt Z n (.slice a n.E.length cap) := by rw [hZ]; exact inoAt _ hB
  rw [← hZ]
  have hb0 := Blk.new w Z 25
  have c3 : (w.alloc (.cells Z 25)).cell? ⟨w.heap.size, 3, none⟩ = some (.int .i64 n.S) := by rw [hb0.cell]; exact hat.f3
  have c17 : (w.alloc (.cells Z 25)).cell? ⟨w.heap.size, 17, none⟩ = some (.slice a n.E.length cap) := by rw [hb0.cell]; exact hat.f5
  have HK : Hid (Keeps [] w (w.alloc (.cells Z 25))) := (Keeps.refl [] w).alloc _
  have HB0 := Lib.hid hb0
  have HLB : Hid (∀ wx : World, Blk wx w.heap.size Z 25 → (loadVar 22 ⟨w.heap.size, 4, none⟩).run Tryd.prog wx = .ok (.agg (zs n.B).toArray) wx) := fun wx hb => load_n13 (off := 4) hb hB hat.f4
  have HLS : Hid (∀ wx : World, Blk wx w.heap.size Z 25 → (loadVar 3 ⟨w.heap.size, 3, none⟩).run Tryd.prog wx = .ok (.int .i64 n.S) wx) := fun wx hb => load_one (off := 3) Tryd.underlying3 hb hat.f3
  clear hb0 hZ
  by_cases h0 : n.S < 0
  · have HF : Hid (decide (FileP n) = false) := decide_eq_false fun h => by have := h.1.1; omega
    generalize n.S = s at *
    clear hB
    go_enter Tryd.func44, Tryd.ntmps44
    go_wp2_with fail
    go_ret
    exact ⟨by rw [HF.out]; rfl, HK.out⟩
  · by_cases h1 : 832 < n.S
    · have HF : Hid (decide (FileP n) = false) := decide_eq_false fun h => by have := h.1.2; omega
      generalize n.S = s at *
      clear hB
      go_enter Tryd.func44, Tryd.ntmps44
      go_wp2_with fail
      go_ret
      exact ⟨by rw [HF.out]; rfl, HK.out⟩
    · by_cases h2 : n.E.length = 0
      · have HP := Lib.hid (parts_at n.S.toNat 64 (by omega) (by omega) (by omega))
        have hp13 : partsN n.S.toNat ≤ 13 := by unfold partsN; omega
        rw [show (n.S.toNat + 64 - 1) / 64 = partsN n.S.toNat by unfold partsN; congr 1] at HP
        have HU := Lib.hid (upTo_at n.B (partsN n.S.toNat) hB hp13)
        have HN := Lib.hid (rightNumbers_at n.B hB)
        have HE := Lib.hid (fun wx => eq_n13 (a := n.B) (b := uptoL n.B (partsN n.S.toNat)) hB (uptoL_len hB hp13) wx)
        have hg13 := guard_n13
        have HD : Hid (decide (FileP n) = (decide (n.B = uptoL n.B (partsN n.S.toNat)) && decide (NumsP n.B))) := by
          have hiff : FileP n ↔ (n.B = uptoL n.B (partsN n.S.toNat) ∧ NumsP n.B) := ⟨fun h => ⟨h.2.2.1, h.2.2.2⟩, fun h => ⟨⟨by omega, by omega⟩, h2, h.1, h.2⟩⟩
          show _ = _
          rw [decide_eq_decide.2 hiff, Bool.decide_and]
        obtain ⟨s, hs⟩ : ∃ s : Nat, n.S = (s : Int) := ⟨n.S.toNat, by omega⟩
        rw [h2] at c17
        rw [hs] at h0 h1 c3 HLS HP HD HE HU hp13
        rw [Int.toNat_natCast] at HP HU HE HD hp13
        generalize partsN s = p at *
        obtain ⟨t, ht⟩ : ∃ t, decide (n.B = uptoL n.B p) = t := ⟨_, rfl⟩
        rw [ht] at HD HE
        generalize decide (NumsP n.B) = q at *
        generalize (zs (uptoL n.B p)).toArray = ZU at *
        generalize (zs n.B).toArray = ZB at *
        have heq := HE.out
        clear ht hB hs HE h2 hat
        cases t
        all_goals
          go_enter Tryd.func44, Tryd.ntmps44
          go_wp2_with fail
          refine wp_region_each (S := fun wx => Keeps [] (w.alloc (.cells Z 25)) wx) (by kernel_rfl) (by kernel_rfl) (fun d _ _ _ _ h => by cases d <;> exact h) ((Keeps.refl _ _).drew) (by kernel_rfl) ?_
          repeat (first
            | (refine EachList.cons (.agg ZB) (EachIf.load rfl 22 (.tmp 17) rfl _ rfl fun wx hx => HLB.out _ (HB0.out.keep hx (by simp))) ?_; simp only [Act.put, List.setIfInBounds_toArray, List.set_cons_zero, List.set_cons_succ])
            | (refine EachList.cons (.agg ZB) (EachIf.load rfl 22 (.tmp 19) rfl _ rfl fun wx hx => HLB.out _ (HB0.out.keep hx (by simp))) ?_; simp only [Act.put, List.setIfInBounds_toArray, List.set_cons_zero, List.set_cons_succ])
            | (refine EachList.cons _ (EachIf.load rfl 3 (.tmp 21) rfl _ rfl fun wx hx => HLS.out _ (HB0.out.keep hx (by simp))) ?_; simp only [Act.put, List.setIfInBounds_toArray, List.set_cons_zero, List.set_cons_succ])
            | (refine EachList.cons (.int .i64 (p : Int)) (EachIf.call rfl 55 #[.int .i64 (s : Int), .int .i64 64] ?he ?h) ?_; (case he => (intro wz; go_simp)); (case h => exact fun wx hx => (HP.out wx).mono fun e w' he => ⟨he.1, by rw [← he.2]; exact hx⟩); simp only [Act.put, List.setIfInBounds_toArray, List.set_cons_zero, List.set_cons_succ])
            | (refine EachList.cons (.agg ZU) (EachIf.call rfl 67 #[.agg ZB, .int .i64 (p : Int)] ?he ?h) ?_; (case he => (intro wz; go_simp)); (case h => exact fun wx hx => (HU.out wx).mono fun e w' he => ⟨he.1, hx.trans' he.2⟩); simp only [Act.put, List.setIfInBounds_toArray, List.set_cons_zero, List.set_cons_succ])
            | (refine EachList.cons (.agg ZB) (EachIf.load rfl 22 (.tmp 27) rfl _ rfl fun wx hx => HLB.out _ (HB0.out.keep hx (by simp))) ?_; simp only [Act.put, List.setIfInBounds_toArray, List.set_cons_zero, List.set_cons_succ])
            | (refine EachList.cons (.bool q) (EachIf.call rfl 69 #[.agg ZB] ?he ?h) ?_; (case he => (intro wz; go_simp)); (case h => exact fun wx hx => (HN.out wx).mono fun e w' he => ⟨he.1, hx.trans' he.2⟩); simp only [Act.put, List.setIfInBounds_toArray, List.set_cons_zero, List.set_cons_succ])
            | (refine EachList.cons undef (EachIf.off rfl) ?_; simp only [Act.put, List.setIfInBounds_toArray, List.set_cons_zero, List.set_cons_succ])
            | (refine EachList.cons ?_ (EachIf.val rfl ?h) ?_; (case h => (intro wx hx; go_simp; rfl)); simp only [Act.put, List.setIfInBounds_toArray, List.set_cons_zero, List.set_cons_succ]))
          refine EachList.done fun wz hz => ?_
          have HZ := Lib.hid (HK.out.trans' hz)
          clear hz
          go_wp2_with fail
          go_ret
          exact ⟨by rw [HD.out]; rfl, HZ.out⟩
      · have HF : Hid (decide (FileP n) = false) := decide_eq_false fun h => h2 h.2.1
        have e2 : ((n.E.length : Nat) : Int) ≠ 0 := by omega
        have e3 : (((n.E.length : Nat) : Int) != 0) = true := bne_iff_ne.2 e2
        generalize n.S = s at *
        generalize n.E.length = m at *
        clear hB hat
        go_enter Tryd.func44, Tryd.ntmps44
        go_wp2_with fail
        go_ret
        exact ⟨by rw [HF.out]; rfl, HK.out⟩

end Go.Proofs.YtmhcnkjmnbnldaaDoor

namespace Go.Proofs.YtmhcnkjmnbnldaaDoor
open Go.RowKit

/-- All are words. -/
def Nats (l : List Int) : Prop := ∀ k, 0 ≤ l.getD k 0 ∧ l.getD k 0 < 9223372036854775808

theorem wrap_nat64 {x : Int} (h0 : 0 ≤ x) (h1 : x < 9223372036854775808) : IntKind.u64.wrap x = x := by rw [IntKind.wrap_u64]; omega

/-- The first k of l, noughts behind. -/
def rowTo (l : List Int) (k : Nat) : List Int := fillTo 0 l k

set_option maxRecDepth 100000 in
set_option maxHeartbeats 4000000 in
theorem listRow_at (l : List Int) (hl : l.length = 13) (hn : Nats l) (w : World) : Calls Tryd.prog 38 #[.agg (zs l).toArray] w fun e w' => e = .returned (.agg (u64s (l.drop 5)).toArray) ∧ Keeps [] w w' := by
  have hd8 : (l.drop 5).length = 8 := by simp [hl]
  have HND : Hid (∀ k, 0 ≤ (l.drop 5).getD k 0 ∧ (l.drop 5).getD k 0 < 9223372036854775808) := fun k => by
    have := hn (5 + k)
    simpa [List.getD_eq_getElem?_getD] using this
  have HR := Lib.hid (rest_at l hl)
  have hb0 := Blk.new w (zs l).toArray 22
  have HZ8 : (u64s (List.replicate 8 0)).toArray = (u64s (fillTo 0 (l.drop 5) 0)).toArray := by rw [fillTo_zero, hd8]
  obtain ⟨w0, hw0⟩ : ∃ w0, w0 = ((w.alloc (.cells (zs l).toArray 22)).alloc (.cells (u64s (List.replicate 8 0)).toArray 63)).alloc (.cells (u64s (List.replicate 8 0)).toArray 63) := ⟨_, rfl⟩
  have HB2 : Hid (Blk w0 (w.heap.size + 1) (u64s (List.replicate 8 0)).toArray 63) := by
    have := (Blk.new (w.alloc (.cells (zs l).toArray 22)) (u64s (List.replicate 8 0)).toArray 63).alloc (.cells (u64s (List.replicate 8 0)).toArray 63)
    have e : (w.alloc (.cells (zs l).toArray 22)).heap.size = w.heap.size + 1 := by simp
    rw [e, ← hw0] at this
    exact this
  have HB3 : Hid (Blk w0 (w.heap.size + 2) (u64s (fillTo 0 (l.drop 5) 0)).toArray 63) := by
    have := Blk.new ((w.alloc (.cells (zs l).toArray 22)).alloc (.cells (u64s (List.replicate 8 0)).toArray 63)) (u64s (List.replicate 8 0)).toArray 63
    have e : ((w.alloc (.cells (zs l).toArray 22)).alloc (.cells (u64s (List.replicate 8 0)).toArray 63)).heap.size = w.heap.size + 2 := by simp
    rw [e, ← hw0, HZ8] at this
    exact this
  have HK : Hid (Keeps [] w w0) := by
    show Keeps _ _ _
    rw [hw0]
    exact (((Keeps.refl [] w).alloc _).alloc _).alloc _
  have HL : Hid ((loadVar 22 ⟨w.heap.size, 0, none⟩).run Tryd.prog w0 = .ok (.agg (zs l).toArray) w0) := by
    rw [hw0]
    exact load_n13 (off := 0) ((hb0.alloc _).alloc _) hl (fun k hk => by rw [Nat.zero_add, List.getElem?_toArray, zs_get (by omega)])
  have HX : Hid (∀ k, k < 8 → (zs (l.drop 5)).toArray[k]? = some (.int .i64 ((l.drop 5).getD k 0))) := fun k hk => by rw [List.getElem?_toArray, zs_get (by omega)]
  have hzv := zero_r8
  have HW0 := Lib.hid hw0
  clear hb0 HZ8 hn hw0
  generalize l.drop 5 = d at *
  generalize (zs l).toArray = Z at *
  generalize (zs d).toArray = D at *
  generalize hz8 : (u64s (List.replicate 8 0)).toArray = Z8 at *
  clear hl
  go_enter Tryd.func38, Tryd.ntmps38
  go_wp2_with ((with_reducible show wpList _ _ _ (⟨_, .load 22 (.tmp 1), _, _, _, _⟩ :: _) _ _); rw [← HW0.out]; refine wpList_load_any rfl 22 (.tmp 1) rfl _ rfl _ HL.out ?_)
  refine (HR.out _).mono ?_; rintro e w1 ⟨rfl, hk1⟩
  have HB2' := Lib.hid (HB2.out.keep hk1 (by simp))
  have HB3' := Lib.hid (HB3.out.keep hk1 (by simp))
  have HK1 := Lib.hid (HK.out.trans' hk1)
  clear hk1 HW0 HB2 HB3 HL
  go_wp2_with fail
  go_loopg [8] 8 (fun gh s8 wx => ∃ k : Nat, k + gh = 8 ∧ s8 = .int .i64 (k : Int) ∧ Hid (Blk wx (w.heap.size + 2) (u64s (fillTo 0 d k)).toArray 63 ∧ Blk wx (w.heap.size + 1) Z8 63 ∧ Keeps [] w wx))
  case atStart => exact ⟨0, by omega, rfl, HB3'.out, HB2'.out, HK1.out⟩
  case round =>
    clear HB2' HB3' HK HK1 hzv
    obtain ⟨k, hk, rfl, HP⟩ := hrel
    cases gk with
    | zero =>
      obtain rfl : k = 8 := by omega
      have hb3 := HP.out.1
      rw [show fillTo 0 d 8 = d by rw [← hd8]; exact fillTo_all 0 d] at hb3
      have HL := Lib.hid (load_r8 hb3 hd8)
      obtain ⟨w2, hS, hb4, hk2⟩ := store_whole (P := Tryd.prog) (ty := 63) (cs := u64s d) (by rw [u64s_len, hd8]; exact size_r8) HP.out.2.1 (by rw [← hz8]; simp [u64s_len, hd8]) (u64s_one _)
      have HS := Lib.hid hS
      have HL2 := Lib.hid (load_r8 hb4 hd8)
      have HKP := Lib.hid (HP.out.2.2.trans hk2 (by simp))
      clear hS hb3 hb4 hk2 HP hk
      go_wp2_with (first | ((with_reducible show wpList _ _ _ (⟨_, .load 63 (.tmp 3), _, _, _, _⟩ :: _) _ _); refine wpList_load_any rfl 63 (.tmp 3) rfl _ rfl _ HL.out ?_) | ((with_reducible show wpList _ _ _ (⟨_, .store 63 (.tmp 2) (.tmp 17), _, _, _, _⟩ :: _) _ _); refine wpList_store_any rfl 63 (.tmp 2) (.tmp 17) rfl _ rfl _ rfl _ HS.out ?_))
      exact bodyPost_ret (results_cell Tryd.results38 rfl HL2.out) rfl ⟨rfl, HKP.out⟩
    | succ gg =>
      have hk8 : k < 8 := by omega
      have hlt : (k : Int) < 8 := by omega
      have hk0 : (0 : Int) ≤ (k : Int) := by omega
      have hix := index_n8 hk8 (HX.out k hk8)
      have hw := wrap_nat64 (HND.out k).1 (HND.out k).2
      have hcell : wr.cell? ⟨w.heap.size + 2, k, none⟩ = some (.int .u64 ((fillTo 0 d k).getD k 0)) := by
        rw [HP.out.1.cell, List.getElem?_toArray, u64s_get (by rw [fillTo_len _ _ _ (by omega)]; omega)]
      have hf : wr.frozen? ⟨w.heap.size + 2, k, none⟩ = false := HP.out.1.frozen k
      have HB : Hid (Blk (wr.setCell ⟨w.heap.size + 2, k, none⟩ (.int .u64 (d.getD k 0))) (w.heap.size + 2) (u64s (fillTo 0 d (k + 1))).toArray 63) := by
        have := HP.out.1.set k (.int .u64 (d.getD k 0))
        rw [List.setIfInBounds_toArray, u64s_set, fillTo_succ 0 d k (by omega) (d.getD k 0) (by simp [List.getD_eq_getElem?_getD, show k < d.length by omega])] at this
        exact this
      have HB' : Hid (Blk (wr.setCell ⟨w.heap.size + 2, k, none⟩ (.int .u64 (d.getD k 0))) (w.heap.size + 1) Z8 63) := HP.out.2.1.other (by simp) _
      have HKP := Lib.hid HP.out.2.2
      clear HP
      generalize d.getD k 0 = x at *
      generalize (fillTo 0 d k).getD k 0 = y at *
      go_wp2_with fail
      go_roundg gg
      case measure => omega
      case rel => exact ⟨k + 1, by omega, by go_num, HB.out, HB'.out, HKP.out.setCell (.inr (by show w.heap.size ≤ w.heap.size + 2; omega)) _⟩

end Go.Proofs.YtmhcnkjmnbnldaaDoor

namespace Go.Proofs.YtmhcnkjmnbnldaaDoor
open Go.RowKit

/-- An inode's tag. -/
def tagW (n : Ino) : Int := n.F + 256 * n.K + 65536 * n.L

/-- What inodeRow asks. -/
structure TagOk (n : Ino) : Prop where
  f : 0 ≤ n.F ∧ n.F < 256
  k : 0 ≤ n.K ∧ n.K < 256
  l : 0 ≤ n.L ∧ n.L < 65536
  s : 0 ≤ n.S ∧ n.S < 9223372036854775808

/-- An inode's words. -/
def inoRow (n : Ino) (l : List Int) (list : Int) : List Int := tagW n :: n.S :: (l.take 5 ++ [list])

theorem tag_or (f k m : Nat) (hf : f < 256) (hk : k < 256) (hm : m < 65536) : bits .or .u64 (f : Int) ((k : Int) * 256) = ((f + k * 256 : Nat) : Int) ∧ bits .or .u64 ((f + k * 256 : Nat) : Int) ((m : Int) * 65536) = ((f + k * 256 + m * 65536 : Nat) : Int) := by
  constructor
  · rw [show (k : Int) * 256 = ((k * 256 : Nat) : Int) by omega, u64_or_nat _ _ (by omega) (by omega), Nat.or_comm, nat_join 8 _ _ (by exact Nat.mul_mod_left _ _) hf, Nat.add_comm]
  · rw [show (m : Int) * 65536 = ((m * 65536 : Nat) : Int) by omega, u64_or_nat _ _ (by omega) (by omega), Nat.or_comm, nat_join 16 _ _ (by exact Nat.mul_mod_left _ _) (show f + k * 256 < 65536 by omega), Nat.add_comm]

/-- The words as they are laid. -/
def irowTo (t s : Int) (l : List Int) (k : Nat) : List Int := t :: s :: (fillTo 0 l k ++ [0])

theorem irowTo_len {t s : Int} {l : List Int} (hl : l.length = 5) {k : Nat} (hk : k ≤ 5) : (irowTo t s l k).length = 8 := by simp [irowTo, fillTo_len, hl, hk]

theorem irowTo_succ {t s : Int} {l : List Int} (hl : l.length = 5) {k : Nat} (hk : k < 5) : (irowTo t s l k).set (2 + k) (l.getD k 0) = irowTo t s l (k + 1) := by
  rw [irowTo, show 2 + k = k + 1 + 1 by omega, List.set_cons_succ, List.set_cons_succ, List.set_append_left _ _ (by rw [fillTo_len _ _ _ (by omega)]; omega), fillTo_succ 0 l k (by omega) (l.getD k 0) (by simp [List.getD_eq_getElem?_getD, show k < l.length by omega])]
  rfl

theorem irowTo_last {t s : Int} {l : List Int} (hl : l.length = 5) (x : Int) : (irowTo t s l 5).set 7 x = t :: s :: (l ++ [x]) := by
  rw [irowTo, show fillTo 0 l 5 = l by rw [← hl]; exact fillTo_all 0 l, List.set_cons_succ, List.set_cons_succ, List.set_append_right _ _ (by omega), hl]
  rfl

/-- What Head writes. -/
def headL (n : Ino) : List Int := tagW n :: n.S :: List.replicate 6 0

theorem headL_len (n : Ino) : (headL n).length = 8 := by simp [headL]

set_option maxRecDepth 100000 in
set_option maxHeartbeats 4000000 in
theorem head_at (n : Ino) (v : Value) (hB : n.B.length = 13) (ht : TagOk n) (w : World) :
    Calls Tryd.prog 65 #[.agg (inoC n v)] w fun e w' => e = .returned (.agg (u64s (headL n)).toArray) ∧ Keeps [] w w' := by
  have hat := inoAt v hB
  generalize inoC n v = Z at *
  have hzv := zero_r8
  have hb1 : Blk (w.alloc (.cells Z 25)) w.heap.size Z 25 := Blk.new _ _ _
  have c0 : ∀ o2 o3, (((w.alloc (.cells Z 25)).alloc o2).alloc o3).cell? ⟨w.heap.size, 0, none⟩ = some (.int .i64 n.F) := fun o2 o3 => by rw [((hb1.alloc o2).alloc o3).cell]; exact hat.f0
  have c1 : ∀ o2 o3, (((w.alloc (.cells Z 25)).alloc o2).alloc o3).cell? ⟨w.heap.size, 1, none⟩ = some (.int .i64 n.K) := fun o2 o3 => by rw [((hb1.alloc o2).alloc o3).cell]; exact hat.f1
  have c2 : ∀ o2 o3, (((w.alloc (.cells Z 25)).alloc o2).alloc o3).cell? ⟨w.heap.size, 2, none⟩ = some (.int .i64 n.L) := fun o2 o3 => by rw [((hb1.alloc o2).alloc o3).cell]; exact hat.f2
  have c3 : ∀ o2 o3, (((w.alloc (.cells Z 25)).alloc o2).alloc o3).cell? ⟨w.heap.size, 3, none⟩ = some (.int .i64 n.S) := fun o2 o3 => by rw [((hb1.alloc o2).alloc o3).cell]; exact hat.f3
  obtain ⟨tf, tk, tl, ts⟩ := ht
  obtain ⟨f, hf⟩ : ∃ f : Nat, n.F = (f : Int) := ⟨n.F.toNat, by omega⟩
  obtain ⟨k, hk⟩ : ∃ k : Nat, n.K = (k : Int) := ⟨n.K.toNat, by omega⟩
  obtain ⟨m, hm⟩ : ∃ m : Nat, n.L = (m : Int) := ⟨n.L.toNat, by omega⟩
  obtain ⟨s, hs⟩ : ∃ s : Nat, n.S = (s : Int) := ⟨n.S.toNat, by omega⟩
  rw [hf] at c0 tf
  rw [hk] at c1 tk
  rw [hm] at c2 tl
  rw [hs] at c3 ts
  obtain ⟨q1, q2⟩ := tag_or f k m (by omega) (by omega) (by omega)
  have HTAG : Hid (((f + k * 256 + m * 65536 : Nat) : Int) = tagW n) := by
    show _ = _
    rw [tagW, hf, hk, hm]
    omega
  generalize f + k * 256 + m * 65536 = t at *
  generalize f + k * 256 = t1 at *
  have HROW : Hid (headL n = (t : Int) :: (s : Int) :: List.replicate 6 0) := by
    show _ = _
    rw [headL, ← HTAG.out, hs]
  clear hf hk hm hs HTAG hat hB
  rw [HROW.out]
  have hd8 : ((t : Int) :: (s : Int) :: List.replicate 6 0).length = 8 := by simp
  have hnew : Blk (((w.alloc (.cells Z 25)).alloc (.cells (u64s (List.replicate 8 0)).toArray 63)).alloc (.cells (((u64s (List.replicate 8 0)).set 0 (.int .u64 (t : Int))).set 1 (.int .u64 (s : Int))).toArray 63)) (w.heap.size + 1 + 1) (u64s ((t : Int) :: (s : Int) :: List.replicate 6 0)).toArray 63 := by
    have := Blk.new ((w.alloc (.cells Z 25)).alloc (.cells (u64s (List.replicate 8 0)).toArray 63)) (((u64s (List.replicate 8 0)).set 0 (.int .u64 (t : Int))).set 1 (.int .u64 (s : Int))).toArray 63
    have e : ((w.alloc (.cells Z 25)).alloc (.cells (u64s (List.replicate 8 0)).toArray 63)).heap.size = w.heap.size + 1 + 1 := by simp
    rw [e] at this
    exact this
  have hres : Blk (((w.alloc (.cells Z 25)).alloc (.cells (u64s (List.replicate 8 0)).toArray 63)).alloc (.cells (((u64s (List.replicate 8 0)).set 0 (.int .u64 (t : Int))).set 1 (.int .u64 (s : Int))).toArray 63)) (w.heap.size + 1) (u64s (List.replicate 8 0)).toArray 63 := by
    have := (Blk.new (w.alloc (.cells Z 25)) (u64s (List.replicate 8 0)).toArray 63).alloc (.cells (((u64s (List.replicate 8 0)).set 0 (.int .u64 (t : Int))).set 1 (.int .u64 (s : Int))).toArray 63)
    have e : (w.alloc (.cells Z 25)).heap.size = w.heap.size + 1 := by simp
    rw [e] at this
    exact this
  have HL := Lib.hid (load_r8 hnew hd8)
  obtain ⟨w2, hS, hb4, hk2⟩ := store_whole (P := Tryd.prog) (ty := 63) (cs := u64s ((t : Int) :: (s : Int) :: List.replicate 6 0)) (by rw [u64s_len, hd8]; exact size_r8) hres (by simp [u64s_len]) (u64s_one _)
  have HS := Lib.hid hS
  have HL2 := Lib.hid (load_r8 hb4 hd8)
  have HKP : Hid (Keeps [] w w2) := ((((Keeps.refl _ _).alloc _).alloc _).alloc _).trans hk2 (by simp)
  clear hnew hres hS hb4 hk2 hb1
  go_enter Tryd.func65, Tryd.ntmps65
  go_wp2_with (first | ((with_reducible show wpList _ _ _ (⟨_, .load 63 (.tmp 3), _, _, _, _⟩ :: _) _ _); refine wpList_load_any rfl 63 (.tmp 3) rfl _ rfl _ HL.out ?_) | ((with_reducible show wpList _ _ _ (⟨_, .store 63 (.tmp 2) (.tmp 22), _, _, _, _⟩ :: _) _ _); refine wpList_store_any rfl 63 (.tmp 2) (.tmp 22) rfl _ rfl _ rfl _ HS.out ?_))
  exact bodyPost_ret (results_cell Tryd.results65 rfl HL2.out) rfl ⟨rfl, HKP.out⟩

set_option maxRecDepth 100000 in
set_option maxHeartbeats 4000000 in
theorem inodeRow_at (n : Ino) (v : Value) (hB : n.B.length = 13) (ht : TagOk n) (l : List Int) (hl : l.length = 13) (hn : Nats l) (list : Int) (h0 : 0 ≤ list ∧ list < 9223372036854775808) (w : World) :
    Calls Tryd.prog 39 #[.agg (inoC n v), .agg (zs l).toArray, .int .i64 list] w fun e w' => e = .returned (.agg (u64s (inoRow n l list)).toArray) ∧ Keeps [] w w' := by
  have HH := Lib.hid (head_at n v hB ht)
  have hzv := zero_r8
  have HLI := Lib.hid (load_ino (((Blk.new w (inoC n v) 25).alloc (.cells (zs l).toArray 22)).alloc (.cells (u64s (List.replicate 8 0)).toArray 63)) hB)
  have hB2 : Blk (((w.alloc (.cells (inoC n v) 25)).alloc (.cells (zs l).toArray 22)).alloc (.cells (u64s (List.replicate 8 0)).toArray 63)) (w.heap.size + 1) (zs l).toArray 22 := by
    have := (Blk.new (w.alloc (.cells (inoC n v) 25)) (zs l).toArray 22).alloc (.cells (u64s (List.replicate 8 0)).toArray 63)
    have e : (w.alloc (.cells (inoC n v) 25)).heap.size = w.heap.size + 1 := by simp
    rw [e] at this
    exact this
  have hB3 : Blk (((w.alloc (.cells (inoC n v) 25)).alloc (.cells (zs l).toArray 22)).alloc (.cells (u64s (List.replicate 8 0)).toArray 63)) (w.heap.size + 1 + 1) (u64s (List.replicate 8 0)).toArray 63 := by
    have := Blk.new ((w.alloc (.cells (inoC n v) 25)).alloc (.cells (zs l).toArray 22)) (u64s (List.replicate 8 0)).toArray 63
    have e : ((w.alloc (.cells (inoC n v) 25)).alloc (.cells (zs l).toArray 22)).heap.size = w.heap.size + 1 + 1 := by simp
    rw [e] at this
    exact this
  have HK0 : Hid (Keeps [] w (((w.alloc (.cells (inoC n v) 25)).alloc (.cells (zs l).toArray 22)).alloc (.cells (u64s (List.replicate 8 0)).toArray 63))) := (((Keeps.refl _ _).alloc _).alloc _).alloc _
  have HB2 := Lib.hid hB2
  have HB3 := Lib.hid hB3
  clear hB2 hB3
  have hl5 : (l.take 5).length = 5 := by simp [hl]
  obtain ⟨t, hT⟩ : ∃ t, t = tagW n := ⟨_, rfl⟩
  obtain ⟨s, hS0⟩ : ∃ s, s = n.S := ⟨_, rfl⟩
  have HHL : Hid (headL n = irowTo t s (l.take 5) 0) := by
    show _ = _
    rw [headL, irowTo, fillTo_zero, hl5, hT, hS0]
    rfl
  have HROW : Hid (inoRow n l list = t :: s :: (l.take 5 ++ [list])) := by
    show _ = _
    rw [inoRow, hT, hS0]
  have HNL : Hid (∀ i, i < 5 → (0 ≤ (l.take 5).getD i 0 ∧ (l.take 5).getD i 0 < 9223372036854775808) ∧ l.getD i 0 = (l.take 5).getD i 0) := fun i hi => by
    have e : (l.take 5).getD i 0 = l.getD i 0 := by simp [List.getD_eq_getElem?_getD, hi]
    rw [e]
    exact ⟨hn i, rfl⟩
  have HZL : Hid (∀ i, i < 13 → (zs l).toArray[i]? = some (.int .i64 (l.getD i 0))) := fun i hi => by rw [List.getElem?_toArray, zs_get (by omega)]
  have hwl := wrap_nat64 h0.1 h0.2
  clear hn hB ht hT hS0
  rw [HROW.out]
  generalize inoC n v = Z at *
  generalize (zs l).toArray = ZL at *
  go_enter Tryd.func39, Tryd.ntmps39
  go_wp2_with ((with_reducible show wpList _ _ _ (⟨_, .load 25 (.tmp 3), _, _, _, _⟩ :: _) _ _); refine wpList_load_any rfl 25 (.tmp 3) rfl _ rfl _ HLI.out ?_)
  refine (HH.out _).mono ?_; rintro e w1 ⟨rfl, hk1⟩
  rw [HHL.out]
  obtain ⟨w2, hst, hb7, hk2⟩ := store_whole (P := Tryd.prog) (ty := 63) (cs := u64s (irowTo t s (l.take 5) 0)) (by rw [u64s_len, irowTo_len hl5 (by omega)]; exact size_r8) (Blk.new w1 (u64s (List.replicate 8 0)).toArray 63) (by simp [u64s_len, irowTo_len hl5]) (u64s_one _)
  have hw1 : w.heap.size + 1 + 1 < w1.heap.size := Nat.lt_of_lt_of_le HB3.out.lt hk1.size
  have hk12 : Keeps [] (((w.alloc (.cells Z 25)).alloc (.cells ZL 22)).alloc (.cells (u64s (List.replicate 8 0)).toArray 63)) w2 := (hk1.alloc (.cells (u64s (List.replicate 8 0)).toArray 63)).trans hk2 (by intro x hx; rw [List.mem_singleton] at hx; have := hk1.size; omega)
  have HB22 := Lib.hid (HB2.out.keep hk12 (by simp))
  have HB32 := Lib.hid (HB3.out.keep hk12 (by simp))
  have HKW := Lib.hid (HK0.out.trans' hk12)
  have HST := Lib.hid hst
  have HB7 := Lib.hid hb7
  clear hst hb7 hk2 hk12 hk1 HLI HH HB2 HB3 HK0
  generalize hg : w1.heap.size = g at *
  go_wp2_with ((with_reducible show wpList _ _ _ (⟨_, .store 63 (.tmp 7) (.tmp 10), _, _, _, _⟩ :: _) _ _); refine wpList_store_any rfl 63 (.tmp 7) (.tmp 10) rfl _ rfl _ rfl _ HST.out ?_)
  go_loopg [11] 5 (fun gh s11 wx => ∃ i : Nat, i + gh = 5 ∧ s11 = .int .i64 (i : Int) ∧ Hid (Blk wx g (u64s (irowTo t s (l.take 5) i)).toArray 63 ∧ Blk wx (w.heap.size + 1 + 1) (u64s (List.replicate 8 0)).toArray 63 ∧ Blk wx (w.heap.size + 1) ZL 22 ∧ Keeps [] w wx))
  case atStart => exact ⟨0, by omega, rfl, HB7.out, HB32.out, HB22.out, HKW.out⟩
  case round =>
    clear hzv HB7 HB32 HB22 HKW
    obtain ⟨i, hi, rfl, HP⟩ := hrel
    obtain ⟨hb1, hb2, hb3, hkp⟩ := HP.out
    cases gk with
    | zero =>
      obtain rfl : i = 5 := by omega
      have hcell : wr.cell? ⟨g, 7, none⟩ = some (.int .u64 ((irowTo t s (l.take 5) 5).getD 7 0)) := by
        rw [hb1.cell, List.getElem?_toArray, u64s_get (by rw [irowTo_len hl5 (by omega)]; omega)]
      have hfz : wr.frozen? ⟨g, 7, none⟩ = false := hb1.frozen 7
      have hbs := hb1.set 7 (.int .u64 list)
      rw [List.setIfInBounds_toArray, u64s_set, irowTo_last hl5] at hbs
      have hd8 : (t :: s :: (l.take 5 ++ [list])).length = 8 := by simp [hl5]
      have HL := Lib.hid (load_r8 hbs hd8)
      obtain ⟨w4, hS, hb4, hk4⟩ := store_whole (P := Tryd.prog) (ty := 63) (cs := u64s (t :: s :: (l.take 5 ++ [list]))) (by rw [u64s_len, hd8]; exact size_r8) (hb2.other (a := ⟨g, 7, none⟩) (by show w.heap.size + 1 + 1 ≠ g; omega) (.int .u64 list)) (by simp [u64s_len, hd8]) (u64s_one _)
      have HS := Lib.hid hS
      have HL2 := Lib.hid (load_r8 hb4 hd8)
      have HKP := Lib.hid ((hkp.setCell (p := ⟨g, 7, none⟩) (.inr (by show w.heap.size ≤ g; omega)) (.int .u64 list)).trans hk4 (by intro x hx; rw [List.mem_singleton] at hx; omega))
      clear hS hb4 hk4 HP hi hbs hb1 hb2 hb3 hkp
      generalize (irowTo t s (l.take 5) 5).getD 7 0 = y at *
      go_wp2_with (first | ((with_reducible show wpList _ _ _ (⟨_, .load 63 (.tmp 7), _, _, _, _⟩ :: _) _ _); refine wpList_load_any rfl 63 (.tmp 7) rfl _ rfl _ HL.out ?_) | ((with_reducible show wpList _ _ _ (⟨_, .store 63 (.tmp 6) (.tmp 25), _, _, _, _⟩ :: _) _ _); refine wpList_store_any rfl 63 (.tmp 6) (.tmp 25) rfl _ rfl _ rfl _ HS.out ?_))
      exact bodyPost_ret (results_cell Tryd.results39 rfl HL2.out) rfl ⟨rfl, HKP.out⟩
    | succ gg =>
      have hi5 : i < 5 := by omega
      have hlt : (i : Int) < 5 := by omega
      have hi0 : (0 : Int) ≤ (i : Int) := by omega
      obtain ⟨hnn, hge⟩ := HNL.out i hi5
      have hcl : wr.cell? ⟨w.heap.size + 1, i, none⟩ = some (.int .i64 ((l.take 5).getD i 0)) := by
        rw [hb3.cell, HZL.out i (by omega), hge]
      have hw := wrap_nat64 hnn.1 hnn.2
      have hcell : wr.cell? ⟨g, 2 + i, none⟩ = some (.int .u64 ((irowTo t s (l.take 5) i).getD (2 + i) 0)) := by
        rw [hb1.cell, List.getElem?_toArray, u64s_get (by rw [irowTo_len hl5 (by omega)]; omega)]
      have hfz : wr.frozen? ⟨g, 2 + i, none⟩ = false := hb1.frozen _
      have HR : Hid (Blk (wr.setCell ⟨g, 2 + i, none⟩ (.int .u64 ((l.take 5).getD i 0))) g (u64s (irowTo t s (l.take 5) (i + 1))).toArray 63 ∧ Blk (wr.setCell ⟨g, 2 + i, none⟩ (.int .u64 ((l.take 5).getD i 0))) (w.heap.size + 1 + 1) (u64s (List.replicate 8 0)).toArray 63 ∧ Blk (wr.setCell ⟨g, 2 + i, none⟩ (.int .u64 ((l.take 5).getD i 0))) (w.heap.size + 1) ZL 22 ∧ Keeps [] w (wr.setCell ⟨g, 2 + i, none⟩ (.int .u64 ((l.take 5).getD i 0)))) := by
        refine ⟨?_, hb2.other (by show w.heap.size + 1 + 1 ≠ g; omega) _, hb3.other (by show w.heap.size + 1 ≠ g; omega) _, hkp.setCell (.inr (by show w.heap.size ≤ g; omega)) _⟩
        have := hb1.set (2 + i) (.int .u64 ((l.take 5).getD i 0))
        rw [List.setIfInBounds_toArray, u64s_set, irowTo_succ hl5 hi5] at this
        exact this
      clear HP hb1 hb2 hb3 hkp hge
      generalize (l.take 5).getD i 0 = x at *
      generalize (irowTo t s (l.take 5) i).getD (2 + i) 0 = y at *
      go_wp2_with fail
      go_roundg gg
      case measure => omega
      case rel => exact ⟨i + 1, by omega, by go_num, HR.out⟩

end Go.Proofs.YtmhcnkjmnbnldaaDoor

namespace Go.Proofs.YtmhcnkjmnbnldaaDoor
open Go.RowKit

/-- The words of entries. -/
def wordsE (E : List (ByteArray × Int)) : List Int := E.flatMap fun p => [((wordV (bl p.1) : Nat) : Int), p.2]

theorem wordsE_len (E : List (ByteArray × Int)) : (wordsE E).length = E.length * 2 := by
  induction E with
  | nil => rfl
  | cons p E ih => simp [wordsE] at ih ⊢; omega

theorem wordsE_append (E F : List (ByteArray × Int)) : wordsE (E ++ F) = wordsE E ++ wordsE F := by simp [wordsE]

theorem wordsE_get (E : List (ByteArray × Int)) : ∀ k, k < E.length → (wordsE E).getD (k * 2) 0 = ((wordV (bl (enm E k)) : Nat) : Int) ∧ (wordsE E).getD (k * 2 + 1) 0 = eno E k := by
  induction E with
  | nil => intro k h; simp at h
  | cons p E ih =>
    intro k h
    have hc : wordsE (p :: E) = ((wordV (bl p.1) : Nat) : Int) :: p.2 :: wordsE E := rfl
    cases k with
    | zero => rw [hc]; exact ⟨rfl, rfl⟩
    | succ k =>
      have := ih k (by simpa using h)
      rw [hc, show (k + 1) * 2 = k * 2 + 1 + 1 by omega, enm_cons, eno_cons]
      exact this

theorem take_snocE (E : List (ByteArray × Int)) (n : Nat) (h : n < E.length) : E.take (n + 1) = E.take n ++ [(enm E n, eno E n)] := by
  rw [List.take_succ_eq_append_getElem h]
  have : E.getD n (ByteArray.empty, 0) = E[n] := by simp [List.getD_eq_getElem?_getD, h]
  rw [enm, eno, this]

theorem wordsE_take_succ (E : List (ByteArray × Int)) (j : Nat) (h : j < E.length) : wordsE (E.take (j + 1)) = wordsE (E.take j) ++ [((wordV (bl (enm E j)) : Nat) : Int), eno E j] := by
  rw [take_snocE E j h, wordsE_append]
  rfl

/-- Names and numbers that are words. -/
structure EntOk (E : List (ByteArray × Int)) : Prop where
  len : E.length ≤ 10000
  size : ∀ k, k < E.length → (enm E k).size ≤ 9223372036854775807
  ino : ∀ k, k < E.length → 0 ≤ eno E k ∧ eno E k < 9223372036854775808

set_option maxRecDepth 100000 in
set_option maxHeartbeats 8000000 in
theorem rowEntries_at {w : World} {v : Value} {g : Nat} {E : List (ByteArray × Int)} (hE : EReads w v g E) (ho : EntOk E) :
    Calls Tryd.prog 64 #[v] w (MadeWords w (wordsE E)) := by
  obtain ⟨a, cap, rfl, hcap, hmax, HEC⟩ := hE.open
  unfold maxLen at hmax
  obtain ⟨i0, hi, hz0, hz1, hz2⟩ := info_parts Tryd.info_u64
  have hlen := ho.len
  have hmk := make_u64 (2 * E.length) (by omega) (2 * (E.length : Int)) (by omega) 0 (.inl rfl) w
  rw [show ((0 : Nat) : Int) = 0 from rfl] at hmk
  have HS0 : Hid ((w.alloc (.cells (madeCells #[.int .u64 0] (2 * E.length)) 30)).ownsRow w.heap.size 30 1 (.slice (some ⟨w.heap.size, 0, none⟩) 0 (2 * E.length)) 0 (u64s (wordsE (E.take 0)))) :=
    ⟨rfl, .inr ⟨w.heap.size, 2 * E.length, madeCells #[.int .u64 0] (2 * E.length), rfl, Nat.le_refl _, Blk.new _ _ _, by omega, by unfold maxLen; omega, by simp [madeCells], by simp [wordsE, u64s]⟩⟩
  have HK0 : Hid (Keeps [] w (w.alloc (.cells (madeCells #[.int .u64 0] (2 * E.length)) 30))) := (Keeps.refl _ _).alloc _
  have HW : Hid (∀ j, j < E.length → ∀ wx, Calls Tryd.prog 85 #[.string (enm E j)] wx fun e w' => e = .returned (.tuple #[.int .u64 (wordV (bl (enm E j)) : Nat), .bool (goodN (bl (enm E j)))]) ∧ Keeps [] wx w') := fun j hj wx =>
    word_at _ (ho.size _ hj) wx
  have HIN : Hid (∀ j, j < E.length → 0 ≤ eno E j ∧ eno E j < 9223372036854775808) := fun j hj => ho.ino _ hj
  have HTS : Hid (∀ j, j < E.length → u64s (wordsE (E.take (j + 1))) = u64s (wordsE (E.take j)) ++ [.int .u64 ((wordV (bl (enm E j)) : Nat) : Int), .int .u64 (eno E j)]) := fun j hj => by
    rw [wordsE_take_succ E j hj, u64s_append]
    rfl
  have HALL : Hid (E.take E.length = E) := List.take_length
  have HWL : Hid ((wordsE E).length = E.length * 2) := wordsE_len E
  clear hE ho
  generalize hn : E.length = n at *
  clear hn
  generalize (madeCells #[.int .u64 0] (2 * n)) = MC at *
  go_enter Tryd.func64, Tryd.ntmps64
  go_wp2_with fail
  clear hmk
  go_loopg [3, 14] n (fun gh s3 s14 wx => ∃ j : Nat, j + gh = n ∧ s14 = .int .i64 (j : Int) ∧ Hid (wx.ownsRow w.heap.size 30 1 s3 (2 * j) (u64s (wordsE (E.take j))) ∧ Keeps [] w wx))
  case atStart => exact ⟨0, by omega, rfl, HS0.out, HK0.out⟩
  case round =>
    clear HS0 HK0
    obtain ⟨j, hj, rfl, HP⟩ := hrel
    cases gk with
    | zero =>
      obtain rfl : j = n := by omega
      have HM : Hid (MadeWords w (wordsE E) (.returned u3) wr) := by
        obtain ⟨hown, hk⟩ := HP.out
        rw [HALL.out] at hown
        obtain ⟨gg, hoo, hg⟩ := Owns.of_row hown
        by_cases h0 : 2 * j = 0
        · exact ⟨u3, w.heap.size, rfl, hoo.reads.anyG (by
            have : (wordsE E).length = 0 := by rw [HWL.out]; omega
            rw [List.eq_nil_of_length_eq_zero this]; rfl) _, Nat.le_refl _, hk⟩
        · exact ⟨u3, gg, rfl, hoo.reads, (hg h0).1, hk⟩
      clear HP hj
      go_wp2_with fail
      go_ret
      exact HM.out
    | succ gk =>
      have hjn : j < n := by omega
      have hlt : (j : Int) < (n : Int) := by omega
      have hj0 : (0 : Int) ≤ (j : Int) := by omega
      obtain ⟨hgl, off, rfl, e0, e1⟩ := HEC.out j hjn
      have HOW := Lib.hid HP.out.1
      have HKP := Lib.hid HP.out.2
      have hkp := HP.out.2
      have c0 := (World.cell?_of_block (w := w) (a := ⟨g, off + j * 2, none⟩) (hkp.block g hgl (by simp))).trans e0
      have c1 := (World.cell?_of_block (w := w) (a := ⟨g, off + j * 2 + 1, none⟩) (hkp.block g hgl (by simp))).trans e1
      have HWC := Lib.hid (HW.out j hjn)
      obtain ⟨n0, n1⟩ := HIN.out j hjn
      have hw := wrap_nat64 n0 n1
      have HSU := Lib.hid (HTS.out j hjn)
      have hwrs := hkp.size
      clear e0 e1 HP hkp
      generalize enm E j = nm at *
      generalize eno E j = ino at *
      obtain ⟨a3, cap3, rfl, q1, q2⟩ := ownsRow_val HOW.out
      generalize hT : u64s (wordsE (E.take j)) = T at *
      have HT := Lib.hid hT
      clear hT
      go_wp2_with fail
      refine (HWC.out _).mono ?_; rintro e w1 ⟨rfl, hk1⟩
      have hbx := (Blk.new wr #[.string nm, .int .i64 ino] 57).keep hk1 (by simp)
      have HO1 := Lib.hid (ownsRow_keep (ownsRow_keep HOW.out ((Keeps.refl [] wr).alloc (.cells #[.string nm, .int .i64 ino] 57)) (by simp)) hk1 (by simp))
      have d1 : w1.cell? ⟨wr.heap.size, 1, none⟩ = some (.int .i64 ino) := by rw [hbx.cell]; rfl
      have HK1 := Lib.hid ((HKP.out.alloc (.cells #[.string nm, .int .i64 ino] 57)).trans' hk1)
      have hws1 : w.heap.size ≤ w1.heap.size := HK1.out.size
      clear hk1 hbx
      generalize wordV (bl nm) = wv at *
      have hlb : 2 * j ≤ 20000 := by omega
      go_wp2_with (at_builtin; refine wpList_append_own _ rfl _ _ 44 rfl w.heap.size 30 i0 (.int .u64 0) 1 8 Tryd.underlying44 hi hz0 hz1 hz2 rfl (by decide) (.slice a3 (2 * j) cap3) (2 * j) _ rfl (HO1.out.alloc _) ⟨w1.heap.size, 0, none⟩ 2 2 [.int .u64 (wv : Int), .int .u64 ino] rfl rfl ?c1 ?c2 (by unfold maxLen; omega) (by omega) (by simp; omega) ?_)
      case c1 => exact new_cells _ [_, _] _ _ rfl
      case c2 => simp [Value.oneCell']
      intro v' w2 hown1 hgrow _
      have HO2 := Lib.hid hown1
      have HK2 := Lib.hid ((HK1.out.alloc _).grown hgrow (ownsRow_block HO1.out))
      clear hown1 hgrow
      go_wp2_with fail
      go_roundg gk
      case measure => omega
      case rel =>
        refine ⟨j + 1, by omega, by go_num, ?_, HK2.out⟩
        have := HO2.out
        rw [show 2 * (j + 1) = 2 * j + 2 by omega, HSU.out]
        exact this

end Go.Proofs.YtmhcnkjmnbnldaaDoor

namespace Go.Proofs.YtmhcnkjmnbnldaaDoor
open Go.RowKit

/-- The i-th word of the entries from the f-th on. -/
def entX (E : List (ByteArray × Int)) (f i : Nat) : Int := if i % 2 = 0 then ((wordV (bl (enm E (f + i / 2))) : Nat) : Int) else eno E (f + i / 2)

/-- The first j entries' words, noughts behind. -/
def entTo (E : List (ByteArray × Int)) (f j : Nat) : List Int := (List.range 8).map fun i => if i < 2 * j then entX E f i else 0

/-- The words of the k-th block of entries. -/
def entRow (E : List (ByteArray × Int)) (k : Nat) : List Int := entTo E (4 * k) (min 4 (E.length - 4 * k))

theorem entTo_len (E : List (ByteArray × Int)) (f j : Nat) : (entTo E f j).length = 8 := by simp [entTo]

theorem entTo_get (E : List (ByteArray × Int)) (f j i : Nat) (h : i < 8) : (entTo E f j).getD i 0 = if i < 2 * j then entX E f i else 0 := by
  rw [entTo, List.getD_eq_getElem?_getD, List.getElem?_map, List.getElem?_range h]
  rfl

theorem entTo_zero (E : List (ByteArray × Int)) (f : Nat) : entTo E f 0 = List.replicate 8 0 := by
  refine z_ext (by simp [entTo]) fun i hi => ?_
  rw [entTo_len] at hi
  rw [entTo_get _ _ _ _ hi, if_neg (by omega), List.getD_eq_getElem?_getD, List.getElem?_replicate, if_pos hi]
  rfl

theorem entTo_succ (E : List (ByteArray × Int)) (f j : Nat) : ((entTo E f j).set (2 * j) ((wordV (bl (enm E (f + j))) : Nat) : Int)).set (2 * j + 1) (eno E (f + j)) = entTo E f (j + 1) := by
  refine z_ext (by simp [entTo]) fun i hi => ?_
  rw [List.length_set, List.length_set, entTo_len] at hi
  rw [getD_set_any, getD_set_any, entTo_get _ _ _ _ hi, entTo_get _ _ _ _ hi, List.length_set, entTo_len]
  by_cases h1 : 2 * j + 1 = i
  · subst h1
    rw [if_pos ⟨rfl, by omega⟩, if_pos (by omega), entX, if_neg (by omega), show (2 * j + 1) / 2 = j by omega]
  · rw [if_neg (fun h => h1 h.1)]
    by_cases h2 : 2 * j = i
    · subst h2
      rw [if_pos ⟨rfl, by omega⟩, if_pos (by omega), entX, if_pos (by omega), show 2 * j / 2 = j by omega]
    · rw [if_neg (fun h => h2 h.1)]
      by_cases h3 : i < 2 * j
      · rw [if_pos h3, if_pos (by omega)]
      · rw [if_neg h3, if_neg (by omega)]

theorem cells_entry : Tryd.prog.cellsOf 57 = 2 := by kernel_rfl
theorem size_entry : (Tryd.prog.info? 57).map (·.size) = some 2 := by kernel_rfl

/-- entries[f:h] -/
theorem slice_entries (g off n cap f h : Nat) (hf : f < cap) (hfh : f ≤ h) (hh : h ≤ cap) (w : World) :
    (Instr.sliceAt 23 (.slice (some ⟨g, off, none⟩) n cap) (some (.int .i64 (f : Int))) (some (.int .i64 (h : Int))) none).run Tryd.prog w = .ok (.slice (some ⟨g, off + f * 2, none⟩) (h - f) (cap - f)) w := by
  have hu : Tryd.prog.underlying 23 = some (.slice (Tryd.prog.elem 23)) := by kernel_rfl
  have he : Tryd.prog.elem 23 = 57 := by kernel_rfl
  have hs : (sizeOf 57).run Tryd.prog w = .ok 2 w := by kernel_rfl
  rw [run_sliceAt_slice _ _ _ _ _ _ hu, run_slice_lh _ _ _ _ _ hu .i64 .i64 (f : Int) (h : Int) (by omega) (by omega) (by omega), he, hs]
  simp only [Result.andThen_ok, sliced, Int.toNat_natCast]
  rw [if_neg (by omega)]
  simp [add_plain]

theorem slice_all8 (b : Nat) (w : World) : (Instr.sliceAt 63 (.pointer (some ⟨b, 0, none⟩)) none none none).run Tryd.prog w = .ok (.slice (some ⟨b, 0, none⟩) 8 8) w := by show Sem.run _ _ _ = _; kernel_rfl

/-- copy(d[o:], s), of words; s as it reads. -/
theorem copy_reads {w : World} {b T o n cap gs : Nat} {v : Value} {dl sl : List Int} (hb : Blk w b (u64s dl).toArray T) (hs : Reads w v gs (u64s sl)) (hm : sl.length ≤ n) (hfit : o + sl.length ≤ dl.length) :
    ∃ r w', (∀ ty, (Builtin.copy_ #[44, 44] ty #[.slice (some ⟨b, o, none⟩) n cap, v]).run Tryd.prog w = .ok r w') ∧ Blk w' b (u64s (dl.take o ++ sl ++ dl.drop (o + sl.length))).toArray T ∧ Keeps [b] w w' := by
  obtain ⟨a, c, rfl, h1, h2, HC⟩ := u64s_cell hs
  by_cases h0 : sl.length = 0
  · obtain rfl := List.eq_nil_of_length_eq_zero h0
    refine ⟨_, w, fun ty => run_copy_none (P := Tryd.prog) w 44 44 ty 30 _ a n cap 0 c Tryd.underlying44 size_u64 (by simp), ?_, Keeps.refl _ _⟩
    rw [List.append_nil, List.length_nil, Nat.add_zero, List.take_append_drop]
    exact hb
  · obtain ⟨hg, off, rfl, -⟩ := HC.out 0 (by omega)
    have hl : (u64s sl).length = min sl.length n := by rw [u64s_len]; omega
    refine ⟨_, _, fun ty => run_copy_row (P := Tryd.prog) w 44 44 ty 30 b o n cap ⟨gs, off, none⟩ sl.length c (u64s dl).toArray T (u64s sl) Tryd.underlying44 size_u64 hb hl ?_ ?_ ?_, ?_, (Keeps.refl _ _).setRow (by simp) _⟩
    · intro j u hu
      have hj : j < sl.length := by
        have := (List.getElem?_eq_some_iff.1 hu).1
        rwa [u64s_len] at this
      obtain ⟨-, off', ho', hc⟩ := HC.out j hj
      cases ho'
      rw [u64s_get hj] at hu
      rw [add_plain, hc, ← hu]
    · rw [List.size_toArray, u64s_len, u64s_len]; omega
    · exact fun u hu => u64s_one _ u hu
    · have e : ((u64s dl).toArray.toList.take o ++ u64s sl ++ (u64s dl).toArray.toList.drop (o + (u64s sl).length)).toArray = (u64s (dl.take o ++ sl ++ dl.drop (o + sl.length))).toArray := by
        rw [u64s_len]
        simp [u64s, List.map_take, List.map_drop]
      rw [e]
      exact setRow_blk hb

/-- A part of a row of entries. -/
theorem EReads.sub {w : World} {g off n cap : Nat} {E : List (ByteArray × Int)} (h : EReads w (.slice (some ⟨g, off, none⟩) n cap) g E) (hn : n = E.length) (f c : Nat) (hfc : f + c ≤ n) : EReads w (.slice (some ⟨g, off + f * 2, none⟩) c (cap - f)) g ((E.drop f).take c) := by
  obtain ⟨a, cap', hv, h1, h2, h3⟩ := h
  cases hv
  have hl : ((E.drop f).take c).length = c := by rw [List.length_take, List.length_drop]; omega
  refine ⟨_, cap - f, by rw [hl], by omega, by omega, fun h0 => ?_⟩
  rw [hl] at h0
  obtain ⟨hg, off', ho, hc⟩ := h3 (by omega)
  cases ho
  refine ⟨hg, _, rfl, fun j hj => ?_⟩
  rw [hl] at hj
  obtain ⟨c0, c1⟩ := hc (f + j) (by omega)
  have e : ((E.drop f).take c).getD j (ByteArray.empty, 0) = E.getD (f + j) (ByteArray.empty, 0) := by
    simp [List.getD_eq_getElem?_getD, hj]
  rw [show off + f * 2 + j * 2 = off + (f + j) * 2 by omega, enm, eno, e]
  exact ⟨c0, c1⟩

theorem ent_sub (E : List (ByteArray × Int)) (f c k : Nat) (h : k < c) : enm ((E.drop f).take c) k = enm E (f + k) ∧ eno ((E.drop f).take c) k = eno E (f + k) := by
  have e : ((E.drop f).take c).getD k (ByteArray.empty, 0) = E.getD (f + k) (ByteArray.empty, 0) := by
    simp [List.getD_eq_getElem?_getD, h]
  rw [enm, eno, e]
  exact ⟨rfl, rfl⟩

theorem EntOk.sub {E : List (ByteArray × Int)} (h : EntOk E) (f c : Nat) (hfc : f + c ≤ E.length) : EntOk ((E.drop f).take c) := by
  have hl : ((E.drop f).take c).length = c := by rw [List.length_take, List.length_drop]; omega
  refine ⟨by rw [hl]; have := h.len; omega, fun k hk => ?_, fun k hk => ?_⟩
  · rw [hl] at hk
    rw [(ent_sub E f c k hk).1]
    exact h.size _ (by omega)
  · rw [hl] at hk
    rw [(ent_sub E f c k hk).2]
    exact h.ino _ (by omega)

theorem entTo_words (E : List (ByteArray × Int)) (f j : Nat) (hj : j ≤ 4) (h : f + j ≤ E.length) : entTo E f j = wordsE ((E.drop f).take j) ++ List.replicate (8 - 2 * j) 0 := by
  have hl : ((E.drop f).take j).length = j := by rw [List.length_take, List.length_drop]; omega
  refine z_ext (by rw [entTo_len, List.length_append, wordsE_len, hl, List.length_replicate]; omega) fun i hi => ?_
  rw [entTo_len] at hi
  rw [entTo_get _ _ _ _ hi]
  by_cases h2 : i < 2 * j
  · rw [if_pos h2, List.getD_eq_getElem?_getD, List.getElem?_append_left (by rw [wordsE_len, hl]; omega), ← List.getD_eq_getElem?_getD]
    obtain ⟨w0, w1⟩ := wordsE_get ((E.drop f).take j) (i / 2) (by omega)
    obtain ⟨e0, e1⟩ := ent_sub E f j (i / 2) (by omega)
    unfold entX
    by_cases h3 : i % 2 = 0
    · rw [if_pos h3, ← e0, ← w0, show i / 2 * 2 = i by omega]
    · rw [if_neg h3, ← e1, ← w1, show i / 2 * 2 + 1 = i by omega]
  · rw [if_neg h2, List.getD_eq_getElem?_getD, List.getElem?_append_right (by rw [wordsE_len, hl]; omega), List.getElem?_replicate]
    split <;> rfl

set_option maxRecDepth 100000 in
set_option maxHeartbeats 4000000 in
theorem entryRow_at {w : World} {v : Value} {g : Nat} {E : List (ByteArray × Int)} (hE : EReads w v g E) (ho : EntOk E) (k : Nat) (hk : 4 * k < E.length) :
    Calls Tryd.prog 37 #[v, .int .i64 (k : Int)] w fun e w' => e = .returned (.agg (u64s (entRow E k)).toArray) ∧ Keeps [] w w' := by
  obtain ⟨a, cap, rfl, hcap, hmax, HEC⟩ := hE.open
  obtain ⟨hg, off, rfl, -, -⟩ := HEC.out _ hk
  unfold maxLen at hmax
  have hlen := ho.len
  obtain ⟨c, hc⟩ : ∃ c, c = min 4 (E.length - 4 * k) := ⟨_, rfl⟩
  have hc4 : c ≤ 4 := by omega
  unfold entRow
  rw [← hc]
  obtain ⟨f, hf⟩ : ∃ f, f = 4 * k := ⟨_, rfl⟩
  rw [← hf] at hk hc ⊢
  have hkf : (k : Int) * 4 = (f : Int) := by omega
  have hsl := fun wx => slice_entries g off E.length cap f (f + c) (by omega) (by omega) (by omega) wx
  rw [show f + c - f = c by omega] at hsl
  have HSL : Hid (∀ H : Int, H = (f : Int) + (c : Int) → ∀ wx, (Instr.sliceAt 23 (.slice (some ⟨g, off, none⟩) E.length cap) (some (.int .i64 (f : Int))) (some (.int .i64 H)) none).run Tryd.prog wx = .ok (.slice (some ⟨g, off + f * 2, none⟩) c (cap - f)) wx) := fun H hH wx => by
    have := hsl wx
    rw [show ((f + c : Nat) : Int) = H by omega] at this
    exact this
  have hzv := zero_r8
  obtain ⟨H, hH, hHc⟩ : ∃ H : Int, H = (f : Int) + (c : Int) ∧ ((((f : Int) + 4 ≤ (E.length : Int)) ∧ H = (f : Int) + 4) ∨ ((E.length : Int) < (f : Int) + 4 ∧ H = (E.length : Int))) := ⟨_, rfl, by omega⟩
  have hs2 := HSL.out H hH
  have hfc : f + c ≤ E.length := by omega
  have HSUB := Lib.hid (hE.sub rfl f c hfc)
  have HOKS := Lib.hid (ho.sub f c hfc)
  have HTW := Lib.hid (entTo_words E f c hc4 hfc)
  have HWL : Hid ((wordsE ((E.drop f).take c)).length = 2 * c) := by
    show _ = _
    rw [wordsE_len, List.length_take, List.length_drop]
    omega
  have HTL := Lib.hid (entTo_len E f c)
  have HENT : Hid (∀ wx, Keeps [] w wx → Calls Tryd.prog 64 #[.slice (some ⟨g, off + f * 2, none⟩) c (cap - f)] wx (MadeWords wx (wordsE ((E.drop f).take c)))) := fun wx hk => rowEntries_at (HSUB.out.keep hk (by simp)) HOKS.out
  generalize wordsE ((E.drop f).take c) = WE at *
  have hsa := slice_all8 (w.heap.size + 1)
  obtain ⟨W0, hW0⟩ : ∃ W0, W0 = (w.alloc (.cells (u64s (List.replicate 8 0)).toArray 63)).alloc (.cells (u64s (List.replicate 8 0)).toArray 63) := ⟨_, rfl⟩
  have HB1 : Hid (Blk W0 (w.heap.size + 1) (u64s (List.replicate 8 0)).toArray 63) := by
    have := Blk.new (w.alloc (.cells (u64s (List.replicate 8 0)).toArray 63)) (u64s (List.replicate 8 0)).toArray 63
    have e : (w.alloc (.cells (u64s (List.replicate 8 0)).toArray 63)).heap.size = w.heap.size + 1 := by simp
    rw [e, ← hW0] at this
    exact this
  have HB2 : Hid (Blk W0 w.heap.size (u64s (List.replicate 8 0)).toArray 63) := by
    rw [hW0]
    exact (Blk.new w _ _).alloc _
  have HK : Hid (Keeps [] w W0) := by
    rw [hW0]
    exact ((Keeps.refl _ _).alloc _).alloc _
  have HW0 := Lib.hid hW0
  clear hE ho hsl HSL hf hc hW0 HSUB HOKS hs2
  generalize hz8 : (u64s (List.replicate 8 0)).toArray = Z8 at *
  have HB1u : Hid (∀ wx, Keeps [] W0 wx → Blk wx (w.heap.size + 1) (u64s (List.replicate 8 0)).toArray 63) := fun wx hk => by rw [hz8]; exact HB1.out.keep hk (by simp)
  have HZ8 : Hid (Z8.size = 8) := by rw [← hz8]; rfl
  clear hz8 HB1
  generalize E.length = n at *
  rcases hHc with ⟨hH1, rfl⟩ | ⟨hH1, rfl⟩
  · obtain rfl : c = 4 := by omega
    have hwf : IntKind.i64.wrap ((f : Int) + 4) = (f : Int) + 4 := IntWalk.i64_in _ (by omega)
    have h1 : (0 : Int) ≤ (f : Int) + 4 := by omega
    have h2 : (f : Int) + 4 ≤ (cap : Int) := by omega
    have h3 : ((f : Int) + 4).toNat = f + 4 := by omega
    have h4 : ¬ cap = f := by omega
    clear hH hfc
    go_enter Tryd.func37, Tryd.ntmps37
    go_wp2_with fail
    rw [← HW0.out]
    go_region_with (go_at_call 64; refine (HENT.out _ HK.out.drew).mono ?_; rintro e w1 ⟨v1, g1, rfl, hr1, hg1, hk1⟩; obtain ⟨vc, w2, hcp, hb2, hk2⟩ := copy_reads (o := 0) (n := 8) (cap := 8) (HB1u.out _ ((Keeps.refl _ _).drew.trans' hk1)) hr1 (by have := HWL.out; omega) (by rw [List.length_replicate]; have := HWL.out; omega); (have hcp' := hcp 3); obtain ⟨a1, c1, rfl, -, -, -⟩ := u64s_cell hr1)
    have hrow : (List.replicate 8 (0 : Int)).take 0 ++ WE ++ (List.replicate 8 (0 : Int)).drop (0 + WE.length) = entTo E f 4 := by
      rw [HTW.out, HWL.out, List.take_zero, List.nil_append, Nat.zero_add, List.drop_replicate]
    rw [hrow] at hb2
    have HL := Lib.hid (load_r8 hb2 HTL.out)
    have hres : Blk w2 w.heap.size Z8 63 := (HB2.out.drew.keep hk1 (by simp)).keep hk2 (by simp)
    obtain ⟨w3, hS, hb4, hk3⟩ := store_whole (P := Tryd.prog) (ty := 63) (cs := u64s (entTo E f 4)) (by rw [u64s_len, HTL.out]; exact size_r8) hres (by rw [HZ8.out, u64s_len, HTL.out]) (u64s_one _)
    have HS := Lib.hid hS
    have HL2 := Lib.hid (load_r8 hb4 HTL.out)
    have HKP : Hid (Keeps [] w w3) := (((HK.out.drew.trans' hk1).trans hk2 (by intro x hx; rw [List.mem_singleton] at hx; omega))).trans hk3 (by intro x hx; rw [List.mem_singleton] at hx; omega)
    clear hrow hb2 hres hS hb4 hk3 hcp hcp' hk1 hk2 hg1 hr1
    go_wp2_with (first | ((with_reducible show wpList _ _ _ (⟨_, .load 63 (.tmp 5), _, _, _, _⟩ :: _) _ _); refine wpList_load_any rfl 63 (.tmp 5) rfl _ rfl _ HL.out ?_) | ((with_reducible show wpList _ _ _ (⟨_, .store 63 (.tmp 4) (.tmp 20), _, _, _, _⟩ :: _) _ _); refine wpList_store_any rfl 63 (.tmp 4) (.tmp 20) rfl _ rfl _ rfl _ HS.out ?_))
    exact bodyPost_ret (results_cell Tryd.results37 rfl HL2.out) rfl ⟨rfl, HKP.out⟩
  · have hwf : IntKind.i64.wrap ((f : Int) + 4) = (f : Int) + 4 := IntWalk.i64_in _ (by omega)
    have h2 : n ≤ cap := by omega
    have h3 : f ≤ n := by omega
    have h4 : ¬ cap = f := by omega
    have h5 : n - f = c := by omega
    clear hH hfc
    go_enter Tryd.func37, Tryd.ntmps37
    go_wp2_with fail
    rw [← HW0.out]
    go_region_with (go_at_call 64; refine (HENT.out _ HK.out.drew).mono ?_; rintro e w1 ⟨v1, g1, rfl, hr1, hg1, hk1⟩; obtain ⟨vc, w2, hcp, hb2, hk2⟩ := copy_reads (o := 0) (n := 8) (cap := 8) (HB1u.out _ ((Keeps.refl _ _).drew.trans' hk1)) hr1 (by have := HWL.out; omega) (by rw [List.length_replicate]; have := HWL.out; omega); (have hcp' := hcp 3); obtain ⟨a1, c1, rfl, -, -, -⟩ := u64s_cell hr1)
    have hrow : (List.replicate 8 (0 : Int)).take 0 ++ WE ++ (List.replicate 8 (0 : Int)).drop (0 + WE.length) = entTo E f c := by
      rw [HTW.out, HWL.out, List.take_zero, List.nil_append, Nat.zero_add, List.drop_replicate]
    rw [hrow] at hb2
    have HL := Lib.hid (load_r8 hb2 HTL.out)
    have hres : Blk w2 w.heap.size Z8 63 := (HB2.out.drew.keep hk1 (by simp)).keep hk2 (by simp)
    obtain ⟨w3, hS, hb4, hk3⟩ := store_whole (P := Tryd.prog) (ty := 63) (cs := u64s (entTo E f c)) (by rw [u64s_len, HTL.out]; exact size_r8) hres (by rw [HZ8.out, u64s_len, HTL.out]) (u64s_one _)
    have HS := Lib.hid hS
    have HL2 := Lib.hid (load_r8 hb4 HTL.out)
    have HKP : Hid (Keeps [] w w3) := (((HK.out.drew.trans' hk1).trans hk2 (by intro x hx; rw [List.mem_singleton] at hx; omega))).trans hk3 (by intro x hx; rw [List.mem_singleton] at hx; omega)
    clear hrow hb2 hres hS hb4 hk3 hcp hcp' hk1 hk2 hg1 hr1
    go_wp2_with (first | ((with_reducible show wpList _ _ _ (⟨_, .load 63 (.tmp 5), _, _, _, _⟩ :: _) _ _); refine wpList_load_any rfl 63 (.tmp 5) rfl _ rfl _ HL.out ?_) | ((with_reducible show wpList _ _ _ (⟨_, .store 63 (.tmp 4) (.tmp 20), _, _, _, _⟩ :: _) _ _); refine wpList_store_any rfl 63 (.tmp 4) (.tmp 20) rfl _ rfl _ rfl _ HS.out ?_))
    exact bodyPost_ret (results_cell Tryd.results37 rfl HL2.out) rfl ⟨rfl, HKP.out⟩

end Go.Proofs.YtmhcnkjmnbnldaaDoor
