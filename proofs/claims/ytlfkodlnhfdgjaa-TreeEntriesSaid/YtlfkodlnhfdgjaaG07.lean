/-
  Layer 6 (fmt1), plain: what is laid is read again, just so; what is read is what would be laid. Layer 6 (fmt1), plain: what is read is what would be laid. Layer 9, plain: names in their order; a list of entries parted at a name. Nothing of the program is named here. Layer 6 (fmt1): Lay, where it refuses. Layer 5: the laws' sheet. Layer 5: four words loaded as an array; numbers read. Layer 6 (fmt1): Lay, where it lays. Layer 6, the reference: Same, where both are one inode; the law's sames, where both are one list; the reference's list of what is free.
-/
import Derived.Test.YtlfkodlnhfdgjaaG06
import Derived.Lib.Bytealg
import Derived.Test.YtlfkodlnhfdgjaaG03
import Derived.Test.YtlfkodlnhfdgjaaG04
import Derived.Deep.DeepCutAuto
import Derived.Laws.StructEq
namespace Go.Proofs.Ytlfkodlnhfdgjaa
open Go.RowKit

end Go.Proofs.Ytlfkodlnhfdgjaa

namespace Go.Proofs.Ytlfkodlnhfdgjaa
open Go.RowKit

theorem less_irrefl : ∀ a : List UInt8, Op.bytesLess a a = false
  | [] => rfl
  | a :: x => by
    have h : ¬ a < a := by rw [UInt8.lt_iff_toNat_lt]; omega
    simp [Op.bytesLess, less_irrefl x, h]

theorem less_total : ∀ a b : List UInt8, Op.bytesLess a b = false → a ≠ b → Op.bytesLess b a = true
  | [], [], _, h => absurd rfl h
  | _ :: _, [], _, _ => rfl
  | [], _ :: _, h, _ => by simp [Op.bytesLess] at h
  | a :: x, b :: y, h, hne => by
    simp only [Op.bytesLess, Bool.or_eq_false_iff, Bool.and_eq_false_iff, decide_eq_false_iff_not, beq_eq_false_iff_ne] at h
    simp only [Op.bytesLess, Bool.or_eq_true, Bool.and_eq_true, decide_eq_true_eq, beq_iff_eq]
    by_cases e : a = b
    · subst e
      refine .inr ⟨rfl, less_total x y ?_ (fun hxy => hne (by rw [hxy]))⟩
      exact h.2.resolve_left fun h' => h' rfl
    · left
      have h1 := h.1
      rw [UInt8.lt_iff_toNat_lt] at h1 ⊢
      have : a.toNat ≠ b.toNat := fun h => e (UInt8.toNat_inj.1 h)
      omega

theorem less_trans : ∀ a b c : List UInt8, Op.bytesLess a b = true → Op.bytesLess b c = true → Op.bytesLess a c = true
  | _, _, [], _, h => by simp [Op.bytesLess] at h
  | [], _, _ :: _, _, _ => rfl
  | _ :: _, [], _ :: _, h, _ => by simp [Op.bytesLess] at h
  | a :: x, b :: y, c :: z, h1, h2 => by
    simp only [Op.bytesLess, Bool.or_eq_true, Bool.and_eq_true, decide_eq_true_eq, beq_iff_eq] at h1 h2 ⊢
    rw [UInt8.lt_iff_toNat_lt] at *
    rcases h1 with h1 | ⟨rfl, h1⟩
    · rcases h2 with h2 | ⟨rfl, h2⟩
      · left; omega
      · left; exact h1
    · rcases h2 with h2 | ⟨rfl, h2⟩
      · left; exact h2
      · exact .inr ⟨rfl, less_trans x y z h1 h2⟩

/-- Names rise. -/
theorem names_rise {E : List (ByteArray × Int)} (h : ∀ k, k < E.length → 0 < k → leB (enm E k) (enm E (k - 1)) = false) : ∀ k j, j < k → k < E.length → Op.bytesLess (enm E j).toList (enm E k).toList = true := by
  intro k
  induction k with
  | zero => intro j hj; omega
  | succ k ih =>
    intro j hj hk
    have h1 := h (k + 1) hk (by omega)
    unfold leB at h1
    rw [Bool.or_eq_false_iff, Nat.add_sub_cancel] at h1
    have h2 : Op.bytesLess (enm E k).toList (enm E (k + 1)).toList = true := less_total _ _ h1.1 (by simpa using h1.2)
    by_cases e : j = k
    · subst e; exact h2
    · exact less_trans _ _ _ (ih j (by omega) (by omega)) h2

end Go.Proofs.Ytlfkodlnhfdgjaa

namespace Go.Proofs.Ytlfkodlnhfdgjaa
open Go.RowKit

/-- One name is ahead of another. -/
def ltB (a b : ByteArray) : Prop := Op.bytesLess a.toList b.toList = true

/-- What strings.Compare tells of two names. -/
def cmpB (a b : ByteArray) : Int := Lib.compareBytes a.data.toList b.data.toList

theorem bytes_ext {a b : ByteArray} (h : a.toList = b.toList) : a = b := by
  rw [ByteArray.toList_eq, ByteArray.toList_eq] at h
  exact ByteArray.ext (Array.toList_inj.1 h)

theorem compare_cases : ∀ a b : List UInt8, (Lib.compareBytes a b < 0 ↔ Op.bytesLess a b = true) ∧ (Lib.compareBytes a b = 0 ↔ a = b)
  | [], [] => by simp [Lib.compareBytes, Op.bytesLess]
  | [], _ :: _ => by simp [Lib.compareBytes, Op.bytesLess]
  | _ :: _, [] => by simp [Lib.compareBytes, Op.bytesLess]
  | x :: a, y :: b => by
    have ih := compare_cases a b
    unfold Lib.compareBytes
    by_cases h1 : x < y
    · have hne : x ≠ y := fun e => by rw [e, UInt8.lt_iff_toNat_lt] at h1; omega
      simp [h1, hne, Op.bytesLess]
    · by_cases h2 : y < x
      · have hne : x ≠ y := fun e => h1 (by rw [e] at h2; exact absurd h2 (by rw [UInt8.lt_iff_toNat_lt]; omega))
        simp [h1, h2, hne, Op.bytesLess]
      · have he : x = y := by
          rw [UInt8.lt_iff_toNat_lt] at h1 h2
          exact UInt8.toNat_inj.1 (by omega)
        subst he
        simp only [h1, if_false, Op.bytesLess, BEq.rfl, Bool.true_and, decide_false, Bool.false_or, List.cons.injEq, true_and]
        exact ih

theorem cmpB_neg (a b : ByteArray) : cmpB a b < 0 ↔ ltB a b := by
  unfold cmpB ltB
  rw [ByteArray.toList_eq, ByteArray.toList_eq]
  exact (compare_cases _ _).1

theorem cmpB_zero (a b : ByteArray) : cmpB a b = 0 ↔ a = b := by
  unfold cmpB
  rw [(compare_cases _ _).2]
  exact ⟨fun h => ByteArray.ext (Array.toList_inj.1 h), fun h => by rw [h]⟩

theorem ltB_irrefl (a : ByteArray) : ¬ ltB a a := fun h => by
  unfold ltB at h
  rw [less_irrefl] at h
  cases h

theorem ltB_trans {a b c : ByteArray} (h : ltB a b) (k : ltB b c) : ltB a c := less_trans _ _ _ h k

theorem ltB_ne {a b : ByteArray} (h : ltB a b) : a ≠ b := fun e => ltB_irrefl b (by rw [e] at h; exact h)

theorem ltB_cases (a b : ByteArray) : ltB a b ∨ a = b ∨ ltB b a := by
  by_cases h : ltB a b
  · exact .inl h
  · by_cases e : a = b
    · exact .inr (.inl e)
    · refine .inr (.inr (less_total _ _ ?_ fun h' => e (bytes_ext h')))
      unfold ltB at h
      simpa using h

/-- Names rise. -/
def Rises (E : List (ByteArray × Int)) : Prop := E.Pairwise fun p q => ltB p.1 q.1

/-- The list, parted at a name: what is ahead of it, the entry of that name (if there is one), what is behind it. -/
structure SplitE (E A M B : List (ByteArray × Int)) (nm : ByteArray) : Prop where
  eq : E = A ++ (M ++ B)
  ahead : ∀ p ∈ A, ltB p.1 nm
  behind : ∀ p ∈ B, ltB nm p.1
  one : M = [] ∨ ∃ i, M = [(nm, i)]

theorem split_of : ∀ {E : List (ByteArray × Int)}, Rises E → ∀ nm, ∃ A M B, SplitE E A M B nm
  | [], _, nm => ⟨[], [], [], rfl, by simp, by simp, .inl rfl⟩
  | p :: E, h, nm => by
    have h1 := List.pairwise_cons.1 h
    obtain ⟨A, M, B, hs⟩ := split_of h1.2 nm
    rcases ltB_cases p.1 nm with hl | he | hg
    · refine ⟨p :: A, M, B, by rw [hs.eq]; rfl, ?_, hs.behind, hs.one⟩
      intro q hq
      rcases List.mem_cons.1 hq with rfl | hq
      · exact hl
      · exact hs.ahead q hq
    · refine ⟨[], [p], E, rfl, by simp, fun q hq => ?_, .inr ⟨p.2, by rw [← he]⟩⟩
      rw [← he]
      exact h1.1 q hq
    · refine ⟨[], [], p :: E, rfl, by simp, fun q hq => ?_, .inl rfl⟩
      rcases List.mem_cons.1 hq with rfl | hq
      · exact hg
      · exact ltB_trans hg (h1.1 q hq)

theorem rises_dir {n : Ino} (h : DirP n) : Rises n.E := by
  unfold Rises
  rw [List.pairwise_iff_getElem]
  intro i j hi hj hij
  have := names_rise (fun k hk h0 => (h.2.2.2 k hk).2.2 h0) j i hij hj
  have e : ∀ k (hk : k < n.E.length), n.E[k] = (enm n.E k, eno n.E k) := fun k hk => by simp [enm, eno, List.getD_eq_getElem?_getD, hk]
  rw [e i hi, e j hj]
  exact this

theorem SplitE.rises {E A M B : List (ByteArray × Int)} {nm : ByteArray} (h : SplitE E A M B nm) (hr : Rises E) (M' : List (ByteArray × Int)) (hm : M' = [] ∨ ∃ i, M' = [(nm, i)]) : Rises (A ++ (M' ++ B)) := by
  unfold Rises at hr ⊢
  rw [h.eq, List.pairwise_append, List.pairwise_append] at hr
  rw [List.pairwise_append, List.pairwise_append]
  obtain ⟨r1, ⟨-, r3, -⟩, r5⟩ := hr
  have hmem : ∀ q ∈ M', q.1 = nm := fun q hq => by
    rcases hm with rfl | ⟨i, rfl⟩
    · simp at hq
    · rw [List.mem_singleton] at hq; rw [hq]
  refine ⟨r1, ⟨?_, r3, fun p hp q hq => by rw [hmem p hp]; exact h.behind q hq⟩, fun p hp q hq => ?_⟩
  · rcases hm with rfl | ⟨i, rfl⟩
    · exact List.Pairwise.nil
    · exact List.pairwise_singleton _ _
  · rcases List.mem_append.1 hq with hq | hq
    · rw [hmem q hq]; exact h.ahead p hp
    · exact ltB_trans (h.ahead p hp) (h.behind q hq)

theorem SplitE.change {E A M B : List (ByteArray × Int)} {nm : ByteArray} (h : SplitE E A M B nm) (M' : List (ByteArray × Int)) (hm : M' = [] ∨ ∃ i, M' = [(nm, i)]) : SplitE (A ++ (M' ++ B)) A M' B nm := ⟨rfl, h.ahead, h.behind, hm⟩

/-- The parts of a rising list at a name are the only ones. -/
theorem SplitE.at {E A M B : List (ByteArray × Int)} {nm : ByteArray} (h : SplitE E A M B nm) (k : Nat) (hk : k < E.length) : (ltB (enm E k) nm ↔ k < A.length) ∧ (enm E k = nm ↔ k = A.length ∧ M ≠ []) := by
  have hE : E.length = A.length + (M.length + B.length) := by rw [h.eq, List.length_append, List.length_append]
  have hM : M.length ≤ 1 := by rcases h.one with e | ⟨i, e⟩ <;> rw [e] <;> simp
  have hget : (enm E k, eno E k) = E[k] := by simp [enm, eno, List.getD_eq_getElem?_getD, hk]
  have h1 : enm E k = E[k].1 := by rw [← hget]
  by_cases ha : k < A.length
  · have e : E[k] = A[k] := by simp only [h.eq]; rw [List.getElem_append_left ha]
    have hl := h.ahead _ (List.getElem_mem ha)
    rw [← e, ← h1] at hl
    exact ⟨⟨fun _ => ha, fun _ => hl⟩, ⟨fun e => absurd e (ltB_ne hl), fun e => by omega⟩⟩
  · by_cases hm : k < A.length + M.length
    · have hk0 : k = A.length := by omega
      have hM1 : M ≠ [] := fun e => by rw [e] at hm; simp at hm; omega
      have e : enm E k = nm := by
        obtain ⟨i, e⟩ := h.one.resolve_left hM1
        have : E[k]? = some (nm, i) := by
          rw [h.eq, e, hk0, List.getElem?_append_right (by omega)]
          simp
        rw [List.getElem?_eq_getElem hk, Option.some_inj] at this
        rw [h1, this]
      exact ⟨⟨fun hl => absurd e (ltB_ne hl), fun h => absurd h ha⟩, ⟨fun _ => ⟨hk0, hM1⟩, fun _ => e⟩⟩
    · have hlt : k - A.length - M.length < B.length := by omega
      have e : E[k]? = some B[k - A.length - M.length] := by
        rw [h.eq, List.getElem?_append_right (by omega), List.getElem?_append_right (by omega), List.getElem?_eq_getElem hlt]
      rw [List.getElem?_eq_getElem hk, Option.some_inj] at e
      have hl := h.behind _ (List.getElem_mem hlt)
      rw [← e, ← h1] at hl
      refine ⟨⟨fun h2 => absurd (ltB_trans h2 hl) (ltB_irrefl _), fun h2 => absurd h2 ha⟩, ⟨fun e2 => absurd e2.symm (ltB_ne hl), fun ⟨h2, h3⟩ => ?_⟩⟩
      have : M.length ≠ 0 := fun e => h3 (List.eq_nil_of_length_eq_zero e)
      omega

/-- The inode of a name: of the first entry that has it; -1. -/
def findE : List (ByteArray × Int) → ByteArray → Int
  | [], _ => -1
  | p :: E, nm => if p.1 = nm then p.2 else findE E nm

theorem findE_at : ∀ {E : List (ByteArray × Int)} {nm : ByteArray} (k : Nat), (∀ j, j < k → enm E j ≠ nm) → k < E.length → enm E k = nm → findE E nm = eno E k
  | [], _, k, _, hk, _ => by simp at hk
  | p :: E, nm, 0, _, _, he => by
    show (if p.1 = nm then p.2 else _) = _
    rw [if_pos (show p.1 = nm from he)]
    rfl
  | p :: E, nm, k + 1, hj, hk, he => by
    show (if p.1 = nm then p.2 else findE E nm) = _
    rw [if_neg (show ¬ p.1 = nm from hj 0 (by omega))]
    exact findE_at (E := E) k (fun j hjk => hj (j + 1) (by omega)) (by simpa using hk) he

theorem findE_none : ∀ {E : List (ByteArray × Int)} {nm : ByteArray}, (∀ j, j < E.length → enm E j ≠ nm) → findE E nm = -1
  | [], _, _ => rfl
  | p :: E, nm, hj => by
    show (if p.1 = nm then p.2 else findE E nm) = _
    rw [if_neg (show ¬ p.1 = nm from hj 0 (by simp))]
    exact findE_none (E := E) fun j h => hj (j + 1) (by simpa using h)

theorem findE_app : ∀ (A E : List (ByteArray × Int)) (nm : ByteArray), (∀ p ∈ A, p.1 ≠ nm) → findE (A ++ E) nm = findE E nm
  | [], _, _, _ => rfl
  | p :: A, E, nm, h => by
    show (if p.1 = nm then p.2 else findE (A ++ E) nm) = _
    rw [if_neg (h p (by simp))]
    exact findE_app A E nm fun q hq => h q (by simp [hq])

theorem findE_miss (E : List (ByteArray × Int)) (nm : ByteArray) (h : ∀ p ∈ E, p.1 ≠ nm) : findE E nm = -1 := by
  have := findE_app E [] nm h
  rw [List.append_nil] at this
  exact this

theorem SplitE.find_none {E A B : List (ByteArray × Int)} {nm : ByteArray} (h : SplitE E A [] B nm) : findE E nm = -1 := by
  refine findE_miss _ _ fun p hp => ?_
  rw [h.eq] at hp
  rcases List.mem_append.1 hp with hp | hp
  · exact ltB_ne (h.ahead p hp)
  · exact (ltB_ne (h.behind p (by simpa using hp))).symm

theorem SplitE.find_some {E A B : List (ByteArray × Int)} {nm : ByteArray} {i : Int} (h : SplitE E A [(nm, i)] B nm) : findE E nm = i := by
  rw [h.eq, findE_app _ _ _ fun p hp => ltB_ne (h.ahead p hp)]
  show (if nm = nm then i else _) = i
  rw [if_pos rfl]

/-- Another name's entry stays. -/
theorem SplitE.find_other {E A M B : List (ByteArray × Int)} {nm : ByteArray} (h : SplitE E A M B nm) {m : ByteArray} (hm : m ≠ nm) (M' : List (ByteArray × Int)) (hM' : M' = [] ∨ ∃ i, M' = [(nm, i)]) : findE (A ++ (M' ++ B)) m = findE E m := by
  have key : ∀ (M' : List (ByteArray × Int)), (M' = [] ∨ ∃ i, M' = [(nm, i)]) → findE (M' ++ B) m = findE B m := fun M' hM' => by
    rcases hM' with rfl | ⟨i, rfl⟩
    · rfl
    · show (if nm = m then i else findE B m) = _
      rw [if_neg fun e => hm e.symm]
  have app : ∀ (A E F : List (ByteArray × Int)), findE E m = findE F m → findE (A ++ E) m = findE (A ++ F) m := fun A E F he => by
    induction A with
    | nil => exact he
    | cons p A ih =>
      show (if p.1 = m then p.2 else findE (A ++ E) m) = (if p.1 = m then p.2 else findE (A ++ F) m)
      rw [ih]
  rw [h.eq]
  exact app _ _ _ ((key M' hM').trans (key M h.one).symm)

/-- Of a rising list each name's inode is its entry's. -/
theorem rises_find {E : List (ByteArray × Int)} (h : Rises E) {k : Nat} (hk : k < E.length) : findE E (enm E k) = eno E k := by
  refine findE_at k (fun j hj => ?_) hk rfl
  have hp := List.pairwise_iff_getElem.1 h j k (by omega) hk hj
  have e : ∀ i (hi : i < E.length), E[i].1 = enm E i := fun i hi => by simp [enm, List.getD_eq_getElem?_getD, hi]
  rw [e j (by omega), e k hk] at hp
  exact ltB_ne hp

theorem rises_lt {E : List (ByteArray × Int)} (h : Rises E) {j k : Nat} (hj : j < k) (hk : k < E.length) : ltB (enm E j) (enm E k) := by
  have hp := List.pairwise_iff_getElem.1 h j k (by omega) hk hj
  have e : ∀ i (hi : i < E.length), E[i].1 = enm E i := fun i hi => by simp [enm, List.getD_eq_getElem?_getD, hi]
  rwa [e j (by omega), e k hk] at hp

end Go.Proofs.Ytlfkodlnhfdgjaa

namespace Go.Proofs.Ytlfkodlnhfdgjaa
open Go.RowKit

/-- It can be laid. -/
def LayP (i : Int) (n : Ino) : Prop := (0 ≤ i ∧ i < 32) ∧ n.F = 1 ∧ RightP n

instance (i : Int) (n : Ino) : Decidable (LayP i n) := by unfold LayP; infer_instance

end Go.Proofs.Ytlfkodlnhfdgjaa

namespace Go.Proofs.Ytlfkodlnhfdgjaa
open Go.RowKit

/-- Four words, as an array has them. -/
def w4 (ws : List Nat) : Array Value := #[.int .u64 ((ws.getD 0 0 : Nat) : Int), .int .u64 ((ws.getD 1 0 : Nat) : Int), .int .u64 ((ws.getD 2 0 : Nat) : Int), .int .u64 ((ws.getD 3 0 : Nat) : Int)]

end Go.Proofs.Ytlfkodlnhfdgjaa

namespace Go.Proofs.Ytlfkodlnhfdgjaa
open Go.RowKit

end Go.Proofs.Ytlfkodlnhfdgjaa

namespace Go.Proofs.Ytlfkodlnhfdgjaa
open Go.RowKit

theorem load_sl {P : Program} {w : World} {ty e : TypeId} {g off T : Nat} {Z : Array Value} {v : Value} (hu : P.underlying ty = some (.slice e)) (hb : Blk w g Z T) (hz : Z[off]? = some v) : (loadVar ty ⟨g, off, none⟩).run P w = .ok v w := by
  have hagg : (isAgg ty).run P w = .ok false w := by
    unfold isAgg
    rw [Sem.run_bind, run_underlying hu w]
    rfl
  have hc : w.cell? ⟨g, off, none⟩ = some v := by rw [hb.cell, hz]
  simp [loadVar, Sem.run_bind, hagg, hc]

end Go.Proofs.Ytlfkodlnhfdgjaa

namespace Go.Proofs.Ytlfkodlnhfdgjaa
open Go.RowKit

theorem eq_entry (s : ByteArray) (x : Int) (w : World) : (Op.equalIn 10000 27 (.agg #[.string s, .int .i64 x]) (.agg #[.string s, .int .i64 x])).run Try.prog w = .ok true w := by
  rw [run_equalIn_struct w 9999 27 _ _ (by kernel_rfl) (by kernel_rfl)]
  go_simp

theorem guard_entry : Try.prog.eqGuardType Try.prog.depth 27 = false := by kernel_rfl

theorem load_entry {w : World} {g off : Nat} {s : ByteArray} {x : Int} (h0 : w.cell? ⟨g, off, none⟩ = some (.string s)) (h1 : w.cell? ⟨g, off + 1, none⟩ = some (.int .i64 x)) :
    (loadVar 27 ⟨g, off, none⟩).run Try.prog w = .ok (.agg #[.string s, .int .i64 x]) w :=
  run_loadVar_cells g off [.string s, .int .i64 x] Try.underlying27 rfl size_entry fun j hj => by
    rcases (show j = 0 ∨ j = 1 by have : j < 2 := hj; omega) with rfl | rfl
    · exact h0
    · exact h1

set_option maxRecDepth 100000 in
set_option maxHeartbeats 4000000 in
theorem refSame_at (n : Ino) (v1 v2 : Value) (g1 g2 : Nat) (hB : n.B.length = 13) (w : World) (h1 : EReads w v1 g1 n.E) (h2 : EReads w v2 g2 n.E) :
    Calls Try.prog 11 #[.agg (inoC n v1), .agg (inoC n v2)] w fun e w' => e = .returned (.bool true) ∧ Keeps [] w w' := by
  obtain ⟨a1, c1, rfl, hc1, hm1, HE1⟩ := h1.open
  obtain ⟨a2, c2, rfl, hc2, hm2, HE2⟩ := h2.open
  have hat1 := inoAt (.slice a1 n.E.length c1) hB
  have hat2 := inoAt (.slice a2 n.E.length c2) hB
  generalize inoC n (.slice a1 n.E.length c1) = Z1 at *
  generalize inoC n (.slice a2 n.E.length c2) = Z2 at *
  have hb1 := (Blk.new w Z1 25).alloc (.cells Z2 25)
  have hb2 := Blk.new (w.alloc (.cells Z1 25)) Z2 25
  rw [show (w.alloc (.cells Z1 25)).heap.size = w.heap.size + 1 by simp] at hb2
  have p0 : ((w.alloc (.cells Z1 25)).alloc (.cells Z2 25)).cell? ⟨w.heap.size, 0, none⟩ = some (.int .i64 n.F) := by rw [hb1.cell]; exact hat1.f0
  have q0 : ((w.alloc (.cells Z1 25)).alloc (.cells Z2 25)).cell? ⟨w.heap.size + 1, 0, none⟩ = some (.int .i64 n.F) := by rw [hb2.cell]; exact hat2.f0
  have p1 : ((w.alloc (.cells Z1 25)).alloc (.cells Z2 25)).cell? ⟨w.heap.size, 1, none⟩ = some (.int .i64 n.K) := by rw [hb1.cell]; exact hat1.f1
  have q1 : ((w.alloc (.cells Z1 25)).alloc (.cells Z2 25)).cell? ⟨w.heap.size + 1, 1, none⟩ = some (.int .i64 n.K) := by rw [hb2.cell]; exact hat2.f1
  have p2 : ((w.alloc (.cells Z1 25)).alloc (.cells Z2 25)).cell? ⟨w.heap.size, 2, none⟩ = some (.int .i64 n.L) := by rw [hb1.cell]; exact hat1.f2
  have q2 : ((w.alloc (.cells Z1 25)).alloc (.cells Z2 25)).cell? ⟨w.heap.size + 1, 2, none⟩ = some (.int .i64 n.L) := by rw [hb2.cell]; exact hat2.f2
  have p3 : ((w.alloc (.cells Z1 25)).alloc (.cells Z2 25)).cell? ⟨w.heap.size, 3, none⟩ = some (.int .i64 n.S) := by rw [hb1.cell]; exact hat1.f3
  have q3 : ((w.alloc (.cells Z1 25)).alloc (.cells Z2 25)).cell? ⟨w.heap.size + 1, 3, none⟩ = some (.int .i64 n.S) := by rw [hb2.cell]; exact hat2.f3
  have p17 : ((w.alloc (.cells Z1 25)).alloc (.cells Z2 25)).cell? ⟨w.heap.size, 17, none⟩ = some (.slice a1 n.E.length c1) := by rw [hb1.cell]; exact hat1.f5
  have q17 : ((w.alloc (.cells Z1 25)).alloc (.cells Z2 25)).cell? ⟨w.heap.size + 1, 17, none⟩ = some (.slice a2 n.E.length c2) := by rw [hb2.cell]; exact hat2.f5
  have HL1 : Hid ((loadVar 22 ⟨w.heap.size, 4, none⟩).run Try.prog ((w.alloc (.cells Z1 25)).alloc (.cells Z2 25)) = .ok (.agg (zs n.B).toArray) ((w.alloc (.cells Z1 25)).alloc (.cells Z2 25))) := load_n13 (off := 4) hb1 hB hat1.f4
  have HL2 : Hid ((loadVar 22 ⟨w.heap.size + 1, 4, none⟩).run Try.prog ((w.alloc (.cells Z1 25)).alloc (.cells Z2 25)) = .ok (.agg (zs n.B).toArray) ((w.alloc (.cells Z1 25)).alloc (.cells Z2 25))) := load_n13 (off := 4) hb2 hB hat2.f4
  have heq := fun wx => eq_n13 (a := n.B) (b := n.B) hB hB wx
  rw [decide_eq_true (rfl : n.B = n.B)] at heq
  have hg13 := guard_n13
  have HB1 := Lib.hid hb1
  have HB2 := Lib.hid hb2
  have H5 := Lib.hid hat1.f5
  have H6 := Lib.hid hat2.f5
  have hes := eq_entry
  have hge := guard_entry
  have HK0 : Hid (Keeps [] w ((w.alloc (.cells Z1 25)).alloc (.cells Z2 25))) := ((Keeps.refl [] w).alloc _).alloc _
  unfold maxLen at hm1 hm2
  clear hb1 hb2 hat1 hat2 h1 h2 hB
  generalize (zs n.B).toArray = ZB at *
  generalize hm : n.E.length = m at *
  clear hm
  go_enter Try.func11, Try.ntmps11
  go_wp2_with (first | ((with_reducible show wpList _ _ _ (⟨_, .load 22 (.tmp 33), _, _, _, _⟩ :: _) _ _); refine wpList_load_want (by simp [Region.wanted, yielded]) 22 (.tmp 33) rfl _ rfl _ HL1.out ?_) | ((with_reducible show wpList _ _ _ (⟨_, .load 22 (.tmp 35), _, _, _, _⟩ :: _) _ _); refine wpList_load_want (by simp [Region.wanted, yielded]) 22 (.tmp 35) rfl _ rfl _ HL2.out ?_))
  clear p0 p1 p2 p3 p17 q0 q1 q2 q3 q17 heq
  go_loopg [5] m (fun gh s5 wx => ∃ k : Nat, k + gh = m ∧ s5 = .int .i64 (k : Int) ∧ Hid (Keeps [] ((w.alloc (.cells Z1 25)).alloc (.cells Z2 25)) wx))
  case atStart => exact ⟨0, by omega, rfl, Keeps.refl _ _⟩
  case round =>
    obtain ⟨k, hk, rfl, HP⟩ := hrel
    have hb1 := HB1.out.keep HP.out (by simp)
    have hb2 := HB2.out.keep HP.out (by simp)
    have p17 : wr.cell? ⟨w.heap.size, 17, none⟩ = some (.slice a1 m c1) := by rw [hb1.cell]; exact H5.out
    cases gk with
    | zero =>
      obtain rfl : k = m := by omega
      have HKR := Lib.hid (HK0.out.trans' HP.out)
      clear hb1 hb2 HP
      go_wp2_with fail
      go_ret
      exact ⟨rfl, HKR.out⟩
    | succ gg =>
      have hkm : k < m := by omega
      have hlt : (k : Int) < (m : Int) := by omega
      have hk0 : (0 : Int) ≤ (k : Int) := by omega
      obtain ⟨hgg1, off1, rfl, d1, d2⟩ := HE1.out k hkm
      obtain ⟨hgg2, off2, rfl, d3, d4⟩ := HE2.out k hkm
      have HKw := HK0.out.trans' HP.out
      have hz := HKw.size
      have hcc : ∀ wx, Keeps [] wr wx → ∀ g off, g < w.heap.size → wx.cell? ⟨g, off, none⟩ = w.cell? ⟨g, off, none⟩ := fun wx hk' g off hg => World.cell?_of_block ((HKw.trans' hk').block g hg (by simp))
      have HS1 : Hid (∀ wx, Keeps [] wr wx → (loadVar 23 ⟨w.heap.size, 17, none⟩).run Try.prog wx = .ok (.slice (some ⟨g1, off1, none⟩) m c1) wx) := fun wx hk' => load_sl Try.underlying23 (hb1.keep hk' (by simp)) H5.out
      have HS2 : Hid (∀ wx, Keeps [] wr wx → (loadVar 23 ⟨w.heap.size + 1, 17, none⟩).run Try.prog wx = .ok (.slice (some ⟨g2, off2, none⟩) m c2) wx) := fun wx hk' => load_sl Try.underlying23 (hb2.keep hk' (by simp)) H6.out
      have HN1 : Hid (∀ wx, Keeps [] wr wx → (loadVar 27 ⟨g1, off1 + k * 2, none⟩).run Try.prog wx = .ok (.agg #[.string (enm n.E k), .int .i64 (eno n.E k)]) wx) := fun wx hk' => load_entry ((hcc wx hk' _ _ hgg1).trans d1) ((hcc wx hk' _ _ hgg1).trans d2)
      have HN2 : Hid (∀ wx, Keeps [] wr wx → (loadVar 27 ⟨g2, off2 + k * 2, none⟩).run Try.prog wx = .ok (.agg #[.string (enm n.E k), .int .i64 (eno n.E k)]) wx) := fun wx hk' => load_entry ((hcc wx hk' _ _ hgg2).trans d3) ((hcc wx hk' _ _ hgg2).trans d4)
      clear hcc d1 d2 d3 d4 hb1 hb2
      generalize enm n.E k = s at *
      generalize eno n.E k = x at *
      go_wp2_with fail
      refine wp_region_each (S := fun wx => Keeps [] wr wx) (by kernel_rfl) (by kernel_rfl) (fun d _ _ _ _ h => by cases d <;> exact h) ((Keeps.refl _ _).drew) (by kernel_rfl) ?_
      repeat (first
        | (refine EachList.cons (.slice (some ⟨g1, off1, none⟩) m c1) (EachIf.load rfl 23 (.tmp 55) rfl _ rfl fun wx hx => HS1.out wx hx) ?_; simp only [Act.put, List.setIfInBounds_toArray, List.set_cons_zero, List.set_cons_succ])
        | (refine EachList.cons (.slice (some ⟨g2, off2, none⟩) m c2) (EachIf.load rfl 23 (.tmp 60) rfl _ rfl fun wx hx => HS2.out wx hx) ?_; simp only [Act.put, List.setIfInBounds_toArray, List.set_cons_zero, List.set_cons_succ])
        | (refine EachList.cons (.agg #[.string s, .int .i64 x]) (EachIf.load rfl 27 (.tmp 58) rfl _ rfl fun wx hx => HN1.out wx hx) ?_; simp only [Act.put, List.setIfInBounds_toArray, List.set_cons_zero, List.set_cons_succ])
        | (refine EachList.cons (.agg #[.string s, .int .i64 x]) (EachIf.load rfl 27 (.tmp 63) rfl _ rfl fun wx hx => HN2.out wx hx) ?_; simp only [Act.put, List.setIfInBounds_toArray, List.set_cons_zero, List.set_cons_succ])
        | (refine EachList.cons ?_ (EachIf.val rfl ?h) ?_; (case h => (intro wx hx; clear hx; go_simp; rfl)); simp only [Act.put, List.setIfInBounds_toArray, List.set_cons_zero, List.set_cons_succ]))
      refine EachList.done fun wx hx => ?_
      have HKX := Lib.hid (HP.out.trans' hx)
      clear hx
      go_wp2_with fail
      go_roundg gg
      case measure => omega
      case rel => exact ⟨k + 1, by omega, by go_num, HKX.out⟩

end Go.Proofs.Ytlfkodlnhfdgjaa
