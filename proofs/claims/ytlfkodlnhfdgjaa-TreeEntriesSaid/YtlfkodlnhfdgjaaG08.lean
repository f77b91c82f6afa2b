/-
  Layer 9: strings.Compare; entries found by halves (slices.BinarySearchFunc, search). Layer 9: Find. append of a slice, whatever it is (nil too), onto a row of its own; and of noughts onto nil. Nothing of the program is named here. Layer 7 (fmt2): slices.Grow of nil, slices.Concat of two rows of words. Layer 9: what is ahead of a name, and what is behind it (around); slices.Grow, slices.Concat of entries. Layer 9: slices.Grow, slices.Concat of entries. Layer 9: an inode with other entries (having). A region in the round of a range over a function is walked as a plain one. A region that draws its order, with one operation F that may come up when what it waits for has, and what is free of it in whatever order; then last operations, one behind the other. Nothing of the program is named here. A region that draws its order, whose loads and moves may all be taken first (what they read is kept by all), then its last operations one behind the other. In a round of a range over a function too. Nothing of the program is named here. Layer 9: With.
-/
import Derived.Test.YtlfkodlnhfdgjaaG07
import Derived.Test.YtlfkodlnhfdgjaaRows
import Derived.Deep.LoopGhost
import Derived.Lib.Bytealg
import Derived.Test.YtlfkodlnhfdgjaaG04
import Derived.Test.YtlfkodlnhfdgjaaG03
import Derived.Test.YtlfkodlnhfdgjaaG00
import Derived.Test.YtlfkodlnhfdgjaaG01
import Derived.Laws.AppendOwn
import Derived.Lib.AppendZerosOnto
import Derived.Test.YtlfkodlnhfdgjaaG02
import Derived.RangeFuncWrites
import Derived.RangeFuncLeaves
import Derived.RangeFuncCalls
import Derived.RangeFuncRecord
import Derived.OrdersIn
import Derived.TacticsIn
import Derived.OrdersHeld
namespace Go.Proofs.Ytlfkodlnhfdgjaa
open Go.RowKit

set_option maxRecDepth 100000 in
set_option maxHeartbeats 1000000 in
theorem compareS_at (a b : ByteArray) (w : World) : Calls Try.prog 21 #[.string a, .string b] w fun e w' => e = .returned (.int .i64 (cmpB a b)) ∧ w = w' := by
  go_enter Try.func21, Try.ntmps21
  go_wp2
  rw [run_callFunc_extern Try.func22 (by kernel_rfl) (by kernel_rfl) (by kernel_rfl) (e := Extern.BytealgCompare.compare) (by kernel_rfl), Lib.run_compareString]
  simp only [Result.andThen]
  rw [Oper.upon_value]
  go_wp2
  go_ret
  exact ⟨rfl, rfl⟩

set_option maxHeartbeats 1000000 in
theorem stringsCompare_at (a b : ByteArray) (w : World) : Calls Try.prog 19 #[.string a, .string b] w fun e w' => e = .returned (.int .i64 (cmpB a b)) ∧ w = w' := by
  have hcon := fun wx => compareS_at a b wx
  generalize cmpB a b = r at hcon ⊢
  go_enter Try.func19, Try.ntmps19
  go_wp2_with fail
  refine (hcon _).mono ?_; rintro e w' ⟨rfl, rfl⟩
  go_wp2_with fail
  go_ret
  exact ⟨rfl, rfl⟩

set_option maxHeartbeats 1000000 in
theorem entryCmp_at (a nm : ByteArray) (x : Int) (w : World) : Calls Try.prog 18 #[.agg #[.string a, .int .i64 x], .string nm] w fun e w' => e = .returned (.int .i64 (cmpB a nm)) ∧ Keeps [] w w' := by
  have hcon := fun wx => stringsCompare_at a nm wx
  generalize cmpB a nm = r at hcon ⊢
  have HK : Hid (Keeps [] w (w.alloc (.cells #[.string a, .int .i64 x] 27))) := (Keeps.refl [] w).alloc _
  go_enter Try.func18, Try.ntmps18
  go_wp2_with fail
  refine (hcon _).mono ?_; rintro e w' ⟨rfl, rfl⟩
  go_wp2_with fail
  go_ret
  exact ⟨rfl, HK.out⟩

def SearchPost (w : World) (A M : List (ByteArray × Int)) (e : Ending) (w' : World) : Prop := e = .returned (.tuple #[.int .i64 (A.length : Int), .bool (!M.isEmpty)]) ∧ Keeps [] w w'

set_option maxRecDepth 100000 in
set_option maxHeartbeats 4000000 in
theorem binary_at {w : World} {v : Value} {g : Nat} {E A M B : List (ByteArray × Int)} {nm : ByteArray} (hE : EReads w v g E) (hs : SplitE E A M B nm) (hE1 : E.length ≤ 1000) :
    Calls Try.prog 17 #[v, .string nm, .func (.func 18) #[] #[]] w (SearchPost w A M) := by
  have HPOST : Hid (∀ w', Keeps [] w w' → SearchPost w A M (.returned (.tuple #[.int .i64 (A.length : Int), .bool (!M.isEmpty)])) w') := fun w' h => ⟨rfl, h⟩
  have HAT := Lib.hid (hs.at)
  have hAl : A.length ≤ E.length := by rw [hs.eq, List.length_append]; omega
  obtain ⟨a, cap, rfl, hcap, hmax, HEC⟩ := hE.open
  have HCE : Hid (∀ (x : ByteArray) (y : Int) (wx : World), Calls Try.prog 18 #[.agg #[.string x, .int .i64 y], .string nm] wx fun e w' => e = .returned (.int .i64 (cmpB x nm)) ∧ Keeps [] wx w') := fun x y wx => entryCmp_at x nm y wx
  have HNE : Hid (∀ k, k < E.length → (cmpB (enm E k) nm < 0 ↔ k < A.length) ∧ (cmpB (enm E k) nm = 0 ↔ k = A.length ∧ M ≠ [])) := fun k hk => ⟨(cmpB_neg _ _).trans (HAT.out k hk).1, (cmpB_zero _ _).trans (HAT.out k hk).2⟩
  have HLM : Hid (M ≠ [] → A.length < E.length) := fun h => by
    have : M.length ≠ 0 := fun e => h (List.eq_nil_of_length_eq_zero e)
    have e := congrArg List.length hs.eq
    rw [List.length_append, List.length_append] at e
    omega
  unfold maxLen at hmax
  have HMM : Hid ((M.isEmpty = true ∧ M = []) ∨ (M.isEmpty = false ∧ M ≠ [])) := by
    show _ ∨ _
    cases M with
    | nil => exact .inl ⟨rfl, rfl⟩
    | cons a b => exact .inr ⟨rfl, by simp⟩
  clear hs hE HAT
  generalize hm : E.length = m at *
  generalize hk : A.length = k at *
  clear hm hk
  go_enter Try.func17, Try.ntmps17
  go_wp2_with fail
  go_loopg [9, 10] m (fun gh s9 s10 wx => ∃ lo hi : Nat, s9 = .int .i64 (lo : Int) ∧ s10 = .int .i64 (hi : Int) ∧ lo ≤ k ∧ k ≤ hi ∧ hi ≤ m ∧ hi - lo ≤ gh ∧ Hid (Keeps [] w wx))
  case atStart => exact ⟨0, m, rfl, rfl, Nat.zero_le _, hAl, Nat.le_refl _, by omega, Keeps.refl _ _⟩
  case round =>
    obtain ⟨lo, hi, rfl, rfl, h1, h2, h3, h4, HK⟩ := hrel
    by_cases hlt : lo < hi
    · have hhm : (lo + hi) / 2 < m := by omega
      obtain ⟨hgg, off, rfl, d1, d2⟩ := HEC.out _ hhm
      have c0 : wr.cell? ⟨g, off + (lo + hi) / 2 * 2, none⟩ = some (.string (enm E ((lo + hi) / 2))) := (World.cell?_of_block (w := w) (a := ⟨g, off + (lo + hi) / 2 * 2, none⟩) (HK.out.block g hgg (by simp))).trans d1
      have c1 : wr.cell? ⟨g, off + (lo + hi) / 2 * 2 + 1, none⟩ = some (.int .i64 (eno E ((lo + hi) / 2))) := (World.cell?_of_block (w := w) (a := ⟨g, off + (lo + hi) / 2 * 2 + 1, none⟩) (HK.out.block g hgg (by simp))).trans d2
      have hN := HNE.out _ hhm
      have HC := Lib.hid (HCE.out (enm E ((lo + hi) / 2)) (eno E ((lo + hi) / 2)))
      clear d1 d2
      by_cases hlk : (lo + hi) / 2 < k
      · have hneg := hN.1.2 hlk
        clear hN
        generalize cmpB (enm E ((lo + hi) / 2)) nm = cv at *
        generalize enm E ((lo + hi) / 2) = nk at *
        generalize eno E ((lo + hi) / 2) = ik at *
        go_wp2_with fail
        refine (HC.out _).mono ?_; rintro e w2 ⟨rfl, hk2⟩
        have HK2 := Lib.hid (HK.out.trans' hk2)
        clear hk2
        go_wp2_with fail
        go_roundg (hi - ((lo + hi) / 2 + 1))
        case measure => omega
        case rel => exact ⟨(lo + hi) / 2 + 1, hi, by rw [show ((lo : Int) + (hi : Int)) / 2 + 1 = (((lo + hi) / 2 + 1 : Nat) : Int) by omega], rfl, by omega, h2, h3, Nat.le_refl _, HK2.out⟩
      · have hneg : ¬ cmpB (enm E ((lo + hi) / 2)) nm < 0 := fun h => hlk (hN.1.1 h)
        clear hN
        generalize cmpB (enm E ((lo + hi) / 2)) nm = cv at *
        generalize enm E ((lo + hi) / 2) = nk at *
        generalize eno E ((lo + hi) / 2) = ik at *
        go_wp2_with fail
        refine (HC.out _).mono ?_; rintro e w2 ⟨rfl, hk2⟩
        have HK2 := Lib.hid (HK.out.trans' hk2)
        clear hk2
        go_wp2_with fail
        go_roundg ((lo + hi) / 2 - lo)
        case measure => omega
        case rel => exact ⟨lo, (lo + hi) / 2, rfl, by rw [show ((lo : Int) + (hi : Int)) / 2 = (((lo + hi) / 2 : Nat) : Int) by omega], h1, by omega, by omega, Nat.le_refl _, HK2.out⟩
    · obtain rfl : lo = k := by omega
      obtain rfl : hi = lo := by omega
      rcases Nat.lt_or_ge hi m with hlm | hlm
      · obtain ⟨hgg, off, rfl, d1, d2⟩ := HEC.out _ hlm
        have c0 : wr.cell? ⟨g, off + hi * 2, none⟩ = some (.string (enm E hi)) := (World.cell?_of_block (w := w) (a := ⟨g, off + hi * 2, none⟩) (HK.out.block g hgg (by simp))).trans d1
        have c1 : wr.cell? ⟨g, off + hi * 2 + 1, none⟩ = some (.int .i64 (eno E hi)) := (World.cell?_of_block (w := w) (a := ⟨g, off + hi * 2 + 1, none⟩) (HK.out.block g hgg (by simp))).trans d2
        have hN := HNE.out _ hlm
        have HC := Lib.hid (HCE.out (enm E hi) (eno E hi))
        clear d1 d2
        rcases HMM.out with ⟨e1, e2⟩ | ⟨e1, e2⟩
        · have hz : (cmpB (enm E hi) nm == 0) = false := by
            rw [beq_eq_false_iff_ne]
            exact fun h => (hN.2.1 h).2 e2
          have HP2 : Hid (∀ w', Keeps [] w w' → SearchPost w A M (.returned (.tuple #[.int .i64 (hi : Int), .bool false])) w') := fun w' h => by have := HPOST.out w' h; rwa [e1] at this
          clear hN HMM e1 e2 HNE HCE HPOST HLM HEC
          generalize cmpB (enm E hi) nm = cv at *
          generalize enm E hi = nk at *
          generalize eno E hi = ik at *
          go_wp2_with fail
          refine (HC.out _).mono ?_; rintro e w2 ⟨rfl, hk2⟩
          have HK2 := Lib.hid (HK.out.trans' hk2)
          clear hk2
          go_wp2_with fail
          go_ret2
          exact HP2.out _ HK2.out
        · have hz : (cmpB (enm E hi) nm == 0) = true := by
            rw [beq_iff_eq]
            exact hN.2.2 ⟨rfl, e2⟩
          have HP2 : Hid (∀ w', Keeps [] w w' → SearchPost w A M (.returned (.tuple #[.int .i64 (hi : Int), .bool true])) w') := fun w' h => by have := HPOST.out w' h; rwa [e1] at this
          clear hN HMM e1 e2 HNE HCE HPOST HLM HEC
          generalize cmpB (enm E hi) nm = cv at *
          generalize enm E hi = nk at *
          generalize eno E hi = ik at *
          go_wp2_with fail
          refine (HC.out _).mono ?_; rintro e w2 ⟨rfl, hk2⟩
          have HK2 := Lib.hid (HK.out.trans' hk2)
          clear hk2
          go_wp2_with fail
          go_ret2
          exact HP2.out _ HK2.out
      · have HP2 : Hid (∀ w', Keeps [] w w' → SearchPost w A M (.returned (.tuple #[.int .i64 (hi : Int), .bool false])) w') := fun w' h => by
          have := HPOST.out w' h
          rcases HMM.out with ⟨e1, e2⟩ | ⟨e1, e2⟩
          · rwa [e1] at this
          · have := HLM.out e2; omega
        have hnlt : ¬ (hi : Int) < (m : Int) := by omega
        clear HMM HNE HCE HPOST HLM HEC
        go_wp2_with fail
        go_ret2
        exact HP2.out _ HK.out

set_option maxHeartbeats 1000000 in
theorem search_at {w : World} {v : Value} {g : Nat} {E A M B : List (ByteArray × Int)} {nm : ByteArray} (hE : EReads w v g E) (hs : SplitE E A M B nm) (hE1 : E.length ≤ 1000) :
    Calls Try.prog 13 #[v, .string nm] w (SearchPost w A M) := by
  have hb := binary_at hE hs hE1
  unfold SearchPost at hb
  have HB := Lib.hid hb
  have HP : Hid (∀ w', Keeps [] w w' → SearchPost w A M (.returned (.tuple #[.int .i64 (A.length : Int), .bool (!M.isEmpty)])) w') := fun w' h => ⟨rfl, h⟩
  clear hE hs hE1 hb
  generalize (A.length : Int) = k at *
  generalize (!M.isEmpty) = b at *
  go_enter Try.func13, Try.ntmps13
  go_wp2_with fail
  refine HB.out.mono ?_; rintro e w' ⟨rfl, hk⟩
  have HK := Lib.hid hk
  clear hk
  go_wp2_with fail
  go_ret2
  exact HP.out _ HK.out

end Go.Proofs.Ytlfkodlnhfdgjaa

namespace Go.Proofs.Ytlfkodlnhfdgjaa
open Go.RowKit

/-- The inode that the entry of the name (if there is one) leads to. -/
def inoM : List (ByteArray × Int) → Int
  | [] => 0
  | p :: _ => p.2

def FindPost (w : World) (M : List (ByteArray × Int)) (e : Ending) (w' : World) : Prop := e = .returned (.tuple #[.int .i64 (inoM M), .bool (!M.isEmpty)]) ∧ Keeps [] w w'

theorem SplitE.mid {E A M B : List (ByteArray × Int)} {nm : ByteArray} (h : SplitE E A M B nm) (hM : M ≠ []) : A.length < E.length ∧ eno E A.length = inoM M := by
  obtain ⟨i, rfl⟩ := h.one.resolve_left hM
  have hl : A.length < E.length := by rw [h.eq, List.length_append, List.length_append]; simp; omega
  refine ⟨hl, ?_⟩
  rw [eno, h.eq, List.getD_eq_getElem?_getD, List.getElem?_append_right (Nat.le_refl _)]
  simp [inoM]

set_option maxRecDepth 100000 in
set_option maxHeartbeats 2000000 in
theorem find_at {w : World} (n : Ino) {v : Value} {g : Nat} {A M B : List (ByteArray × Int)} {nm : ByteArray} (hB : n.B.length = 13) (hE : EReads w v g n.E) (hs : SplitE n.E A M B nm) (hE1 : n.E.length ≤ 1000) :
    Calls Try.prog 8 #[.agg (inoC n v), .string nm] w (FindPost w M) := by
  have hk0 : Keeps [] w (w.alloc (.cells (inoC n v) 25)) := (Keeps.refl [] w).alloc _
  have hse := search_at (hE.keep hk0 (by simp)) hs hE1
  unfold SearchPost at hse
  have HMID := Lib.hid hs.mid
  have HMM : Hid ((M.isEmpty = true ∧ M = []) ∨ (M.isEmpty = false ∧ M ≠ [])) := by
    show _ ∨ _
    cases M with
    | nil => exact .inl ⟨rfl, rfl⟩
    | cons a b => exact .inr ⟨rfl, by simp⟩
  have HP : Hid (∀ w', Keeps [] w w' → FindPost w M (.returned (.tuple #[.int .i64 (inoM M), .bool (!M.isEmpty)])) w') := fun w' h => ⟨rfl, h⟩
  obtain ⟨a, cap, rfl, hcap, hmax, HEC⟩ := hE.open
  have hat := inoAt (.slice a n.E.length cap) hB
  have hb0 := Blk.new w (inoC n (.slice a n.E.length cap)) 25
  generalize inoC n (.slice a n.E.length cap) = Z at *
  have h17 : Z[17]? = some (.slice a n.E.length cap) := hat.f5
  have c17 : (w.alloc (.cells Z 25)).cell? ⟨w.heap.size, 17, none⟩ = some (.slice a n.E.length cap) := by rw [hb0.cell]; exact h17
  have HSE := Lib.hid hse
  have HB0 := Lib.hid hb0
  have HK0 := Lib.hid hk0
  have H17 := Lib.hid h17
  unfold maxLen at hmax
  clear hat hb0 hk0 hse h17 hB hE hs
  generalize hm : n.E.length = m at *
  generalize hkk : A.length = k at *
  clear hm hkk
  go_enter Try.func8, Try.ntmps8
  go_wp2_with fail
  refine HSE.out.mono ?_; rintro e w2 ⟨rfl, hk2⟩
  have HK2 := Lib.hid hk2
  have c17b : w2.cell? ⟨w.heap.size, 17, none⟩ = some (.slice a m cap) := by rw [(HB0.out.keep hk2 (by simp)).cell]; exact H17.out
  have HKK := Lib.hid (HK0.out.trans' hk2)
  clear hk2 c17
  rcases HMM.out with ⟨e1, e2⟩ | ⟨e1, e2⟩
  · have HP2 : Hid (∀ w', Keeps [] w w' → FindPost w M (.returned (.tuple #[.int .i64 0, .bool false])) w') := fun w' h => by
      have := HP.out w' h
      rw [e1, show inoM M = 0 by rw [e2]; rfl] at this
      exact this
    rw [e1]
    clear e1 e2 HMM HP HMID HEC
    go_wp2_with fail
    go_ret2
    exact HP2.out _ HKK.out
  · obtain ⟨hkm, hval⟩ := HMID.out e2
    have HP2 : Hid (∀ w', Keeps [] w w' → FindPost w M (.returned (.tuple #[.int .i64 (inoM M), .bool true])) w') := fun w' h => by
      have := HP.out w' h
      rw [e1] at this
      exact this
    obtain ⟨hgg, off, rfl, -, d1⟩ := HEC.out k hkm
    rw [hval] at d1
    have c1 : w2.cell? ⟨g, off + k * 2 + 1, none⟩ = some (.int .i64 (inoM M)) := (World.cell?_of_block (w := w) (a := ⟨g, off + k * 2 + 1, none⟩) (HKK.out.block g hgg (by simp))).trans d1
    rw [e1]
    have hki : (k : Int) < (m : Int) := by omega
    clear e1 e2 HMM HP HMID HEC d1 hval
    generalize inoM M = im at *
    go_wp2_with fail
    go_ret2
    exact HP2.out _ HKK.out

end Go.Proofs.Ytlfkodlnhfdgjaa

namespace Go.Proofs.Ytlfkodlnhfdgjaa
open Go.RowKit

theorem run_append_any {P : Program} {w : World} (t T ty : TypeId) (i : TypeInfo) (z : Value) (size bytes : Nat) (ht : P.underlying t = some (.slice T)) (hi : P.info? T = some i) (hz : i.zero = some z) (hsz : i.size = size) (hby : i.bytes = bytes) (hzs : z.cells.size = size) (hpos : 0 < size)
    (base n : Nat) (v : Value) (xs : List Value) (hown : w.ownsRow base T size v n xs) (a : Option Addr) (m c : Nat) (ys : List Value) (hl : ys.length = m * size) (hc : m ≠ 0 → ∃ ad, a = some ad ∧ ∀ j u, ys[j]? = some u → w.cell? (ad.add j) = some u) (h1 : ∀ u ∈ ys, u.oneCell' = true)
    (hlen : n + m ≤ maxLen) (hbytes : (n + m) * bytes ≤ 140737488355328) (hbase : base ≤ w.heap.size) :
    ∃ v' w', (Builtin.append_ #[t, t] ty #[v, .slice a m c]).run P w = .ok v' w' ∧ w'.ownsRow base T size v' (n + m) (xs ++ ys) ∧ w.grownBy w' v.ownBlock := by
  cases a with
  | none =>
    have h0 : m = 0 := by
      rcases Nat.eq_zero_or_pos m with h | h
      · exact h
      · obtain ⟨ad, e, -⟩ := hc (by omega); cases e
    subst h0
    have hys : ys = [] := List.eq_nil_of_length_eq_zero (by rw [hl]; simp)
    subst hys
    refine ⟨v, w, ?_, by simpa using hown, ⟨rfl, rfl, rfl, Nat.le_refl _, fun _ _ _ => rfl⟩⟩
    obtain ⟨-, h5⟩ := hown
    rcases h5 with ⟨rfl, rfl⟩ | ⟨g', cap', cur, rfl, hg, hh, q2, q3, q4, q5⟩
    · simp [Builtin.append_, run_underlying ht, sizeOf, typeInfo, hi, Builtin.lenOf, Builtin.firstCells]
    · simp [Builtin.append_, run_underlying ht, sizeOf, typeInfo, hi, Builtin.lenOf, Builtin.firstCells, q2, storeCells]
  | some ad =>
    have hcell : ∀ j u, ys[j]? = some u → w.cell? (ad.add j) = some u := by
      intro j u hu
      have hj : j < ys.length := (List.getElem?_eq_some_iff.1 hu).1
      have hm : m ≠ 0 := by
        intro e
        rw [hl, e] at hj
        simp at hj
      obtain ⟨ad', e, hc'⟩ := hc hm
      cases e
      exact hc' j u hu
    obtain ⟨v', w', hr, ho, hg, -⟩ := run_append_own (P := P) w base t ty T i z size bytes ht hi hz hsz hby hzs hpos v n xs hown ad m c ys hl hcell h1 hlen hbytes hbase
    exact ⟨v', w', hr, ho, hg⟩

theorem wpList_append_run {P : Program} {w : World} {ops : Array Oper} {rest : List Oper} {o : Oper} {a : Act} {Q : Exit → Act → World → Prop} (hgd : o.guard = none) (d x : Operand) (t t' : TypeId)
    (ho : o.op = .call { callee := .builtin .append, args := #[d, x], argTypes := #[t, t'] }) (v u : Value) (hd : a.eval d = v) (hx : a.eval x = u) {v' : Value} {w' : World}
    (hr : (Builtin.append_ #[t, t'] o.type #[v, u]).run P w = .ok v' w') (h : wpList P ops Q rest (a.put o.dst v') w') : wpList P ops Q (o :: rest) a w :=
  wpList_plain hgd fun _ hK => by
    unfold Oper.wp execOp
    simp only [ho, resolve, invoke, builtin, Sem.run_bind, Sem.run_pure, Result.andThen_ok, List.map_toArray, List.map_cons, List.map_nil, hd, hx, hr]
    exact hK _ _ h

end Go.Proofs.Ytlfkodlnhfdgjaa

namespace Go.Proofs.Ytlfkodlnhfdgjaa
open Go.RowKit

end Go.Proofs.Ytlfkodlnhfdgjaa

namespace Go.Proofs.Ytlfkodlnhfdgjaa
open Go.RowKit

/-- l[:k] -/
theorem slice_ahead {w : World} {a : Option Addr} {n cap g : Nat} {E : List (ByteArray × Int)} (h : EReads w (.slice a n cap) g E) (k : Nat) (hk : k ≤ E.length) :
    ∃ a' c', (∀ wx, (Instr.sliceAt 23 (.slice a n cap) none (some (.int .i64 (k : Int))) none).run Try.prog wx = .ok (.slice a' k c') wx) ∧ EReads w (.slice a' k c') g (E.take k) := by
  have hu : Try.prog.underlying 23 = some (.slice (Try.prog.elem 23)) := by kernel_rfl
  have he : Try.prog.elem 23 = 27 := by kernel_rfl
  have hs : ∀ wx : World, (sizeOf 27).run Try.prog wx = .ok 2 wx := fun wx => by kernel_rfl
  obtain ⟨a0, cap0, hv, h1, h2, h3⟩ := h
  cases hv
  have hl : (E.take k).length = k := by rw [List.length_take]; omega
  refine ⟨if cap = 0 then a else a.map (·.add (0 * 2)), cap - 0, fun wx => ?_, _, _, by rw [hl], by omega, by omega, fun h0 => ?_⟩
  · rw [run_sliceAt_slice _ _ _ _ _ _ hu, run_slice_h _ _ _ _ _ hu .i64 (k : Int) (by omega) (by omega), he, hs]
    simp only [Result.andThen_ok, sliced, Int.toNat_natCast, Nat.sub_zero]
  · rw [hl] at h0
    obtain ⟨hg, off, rfl, hc⟩ := h3 (by omega)
    refine ⟨hg, off, by rw [if_neg (by omega)]; simp [add_plain], fun j hj => ?_⟩
    rw [hl] at hj
    obtain ⟨c0, c1⟩ := hc j (by omega)
    have e : (E.take k).getD j (ByteArray.empty, 0) = E.getD j (ByteArray.empty, 0) := by simp [List.getD_eq_getElem?_getD, hj]
    rw [enm, eno, e]
    exact ⟨c0, c1⟩

/-- l[k:] -/
theorem slice_behind {w : World} {a : Option Addr} {n cap g : Nat} {E : List (ByteArray × Int)} (h : EReads w (.slice a n cap) g E) (k : Nat) (hk : k ≤ E.length) :
    ∃ a' c', (∀ wx, (Instr.sliceAt 23 (.slice a n cap) (some (.int .i64 (k : Int))) none none).run Try.prog wx = .ok (.slice a' (n - k) c') wx) ∧ EReads w (.slice a' (n - k) c') g (E.drop k) := by
  have hu : Try.prog.underlying 23 = some (.slice (Try.prog.elem 23)) := by kernel_rfl
  have he : Try.prog.elem 23 = 27 := by kernel_rfl
  have hs : ∀ wx : World, (sizeOf 27).run Try.prog wx = .ok 2 wx := fun wx => by kernel_rfl
  obtain ⟨a0, cap0, hv, h1, h2, h3⟩ := h
  cases hv
  have hl : (E.drop k).length = E.length - k := by rw [List.length_drop]
  refine ⟨if cap = k then a else a.map (·.add (k * 2)), cap - k, fun wx => ?_, _, _, by rw [hl], by omega, by omega, fun h0 => ?_⟩
  · rw [run_sliceAt_slice _ _ _ _ _ _ hu, run_slice_l _ _ _ _ _ hu .i64 (k : Int) (by omega) (by omega), he, hs]
    simp only [Result.andThen_ok, sliced, Int.toNat_natCast]
  · rw [hl] at h0
    obtain ⟨hg, off, rfl, hc⟩ := h3 (by omega)
    refine ⟨hg, off + k * 2, by rw [if_neg (by omega)]; simp [add_plain], fun j hj => ?_⟩
    rw [hl] at hj
    obtain ⟨c0, c1⟩ := hc (k + j) (by omega)
    have e : (E.drop k).getD j (ByteArray.empty, 0) = E.getD (k + j) (ByteArray.empty, 0) := by simp [List.getD_eq_getElem?_getD]
    rw [show off + k * 2 + j * 2 = off + (k + j) * 2 by omega, enm, eno, e]
    exact ⟨c0, c1⟩

def AroundPost (w : World) (g : Nat) (A B : List (ByteArray × Int)) (e : Ending) (w' : World) : Prop :=
  ∃ x y, e = .returned (.tuple #[x, y]) ∧ EReads w x g A ∧ EReads w y g B ∧ Keeps [] w w'

theorem SplitE.takes {E A M B : List (ByteArray × Int)} {nm : ByteArray} (h : SplitE E A M B nm) : E.take A.length = A ∧ E.drop (A.length + M.length) = B ∧ E.length = A.length + M.length + B.length ∧ (M.isEmpty = true → M.length = 0) ∧ (M.isEmpty = false → M.length = 1) := by
  refine ⟨by rw [h.eq, List.take_left], by rw [h.eq, ← List.append_assoc, ← List.length_append, List.drop_left], by rw [h.eq, List.length_append, List.length_append]; omega, fun e => by rw [List.isEmpty_iff.1 e]; rfl, fun e => ?_⟩
  rcases h.one with rfl | ⟨i, rfl⟩
  · cases e
  · rfl

set_option maxRecDepth 100000 in
set_option maxHeartbeats 2000000 in
theorem around_at {w : World} {v : Value} {g : Nat} {E A M B : List (ByteArray × Int)} {nm : ByteArray} (hE : EReads w v g E) (hs : SplitE E A M B nm) (hE1 : E.length ≤ 1000) :
    Calls Try.prog 14 #[v, .string nm] w (AroundPost w g A B) := by
  have hse := search_at hE hs hE1
  unfold SearchPost at hse
  obtain ⟨t1, t2, t3, t4, t5⟩ := hs.takes
  obtain ⟨a, cap, hv, -, -, -⟩ := hE.open
  subst hv
  obtain ⟨a1, c1, hr1, hq1⟩ := slice_ahead hE A.length (by omega)
  obtain ⟨a2, c2, hr2, hq2⟩ := slice_behind hE (A.length + M.length) (by omega)
  rw [t1] at hq1
  rw [t2] at hq2
  have HP : Hid (∀ w', Keeps [] w w' → AroundPost w g A B (.returned (.tuple #[.slice a1 A.length c1, .slice a2 (E.length - (A.length + M.length)) c2])) w') := fun w' h => ⟨_, _, rfl, hq1, hq2, h⟩
  have HSE := Lib.hid hse
  have T4 := Lib.hid t4
  have T5 := Lib.hid t5
  have T3 := Lib.hid t3
  have HR1 := Lib.hid hr1
  have HR2 := Lib.hid hr2
  clear hse hq1 hq2 hE hs t1 t2 t4 t5 hr1 hr2
  generalize hm : E.length = m at *
  generalize hk : A.length = k at *
  generalize hml : M.length = q at *
  clear hm hk hml
  have hkm : k + q ≤ m := by have := T3.out; omega
  clear t3
  cases hME : M.isEmpty
  · obtain rfl := T5.out hME
    rw [hME] at HSE
    have hr1 := HR1.out
    have hr2 := HR2.out
    rw [show ((k + 1 : Nat) : Int) = (k : Int) + 1 by omega] at hr2
    clear T4 T5 hME
    have hwk : IntKind.i64.wrap ((k : Int) + 1) = (k : Int) + 1 := IntWalk.i64_in _ (by omega)
    go_enter Try.func14, Try.ntmps14
    go_wp2_with fail
    refine HSE.out.mono ?_; rintro e w2 ⟨rfl, hk2⟩
    have HK2 := Lib.hid hk2
    clear hk2
    go_wp2_with fail
    refine wp_region_each (S := fun wx => Keeps [] w wx) (by kernel_rfl) (by kernel_rfl) (fun d _ _ _ _ h => by cases d <;> exact h) (HK2.out.drew) (by kernel_rfl) ?_
    repeat (first
      | (refine EachList.cons (.slice a1 k c1) (EachIf.val rfl ?h) ?_; (case h => (intro wx hx; clear hx; go_simp; (try rw [hr1]); done)); simp only [Act.put, List.setIfInBounds_toArray, List.set_cons_zero, List.set_cons_succ])
      | (refine EachList.cons (.slice a2 (m - (k + 1)) c2) (EachIf.val rfl ?h) ?_; (case h => (intro wx hx; clear hx; go_simp; (try rw [hr2]); done)); simp only [Act.put, List.setIfInBounds_toArray, List.set_cons_zero, List.set_cons_succ])
      | (refine EachList.cons ?_ (EachIf.val rfl ?h) ?_; (case h => (intro wx hx; clear hx; go_simp; rfl)); simp only [Act.put, List.setIfInBounds_toArray, List.set_cons_zero, List.set_cons_succ]))
    refine EachList.done fun wx hx => ?_
    have HKX := Lib.hid hx
    clear hx
    go_wp2_with fail
    go_ret2
    exact HP.out _ HKX.out
  · obtain rfl := T4.out hME
    rw [hME] at HSE
    have hr1 := HR1.out
    have hr2 := HR2.out
    rw [Nat.add_zero] at hr2
    clear T4 T5 hME
    go_enter Try.func14, Try.ntmps14
    go_wp2_with fail
    refine HSE.out.mono ?_; rintro e w2 ⟨rfl, hk2⟩
    have HK2 := Lib.hid hk2
    clear hk2
    go_wp2_with fail
    refine wp_region_each (S := fun wx => Keeps [] w wx) (by kernel_rfl) (by kernel_rfl) (fun d _ _ _ _ h => by cases d <;> exact h) (HK2.out.drew) (by kernel_rfl) ?_
    repeat (first
      | (refine EachList.cons (.slice a1 k c1) (EachIf.val rfl ?h) ?_; (case h => (intro wx hx; clear hx; go_simp; (try rw [hr1]); done)); simp only [Act.put, List.setIfInBounds_toArray, List.set_cons_zero, List.set_cons_succ])
      | (refine EachList.cons (.slice a2 (m - k) c2) (EachIf.val rfl ?h) ?_; (case h => (intro wx hx; clear hx; go_simp; (try rw [hr2]); done)); simp only [Act.put, List.setIfInBounds_toArray, List.set_cons_zero, List.set_cons_succ])
      | (refine EachList.cons ?_ (EachIf.val rfl ?h) ?_; (case h => (intro wx hx; clear hx; go_simp; rfl)); simp only [Act.put, List.setIfInBounds_toArray, List.set_cons_zero, List.set_cons_succ]))
    refine EachList.done fun wx hx => ?_
    have HKX := Lib.hid hx
    clear hx
    go_wp2_with fail
    go_ret2
    exact HP.out _ HKX.out

end Go.Proofs.Ytlfkodlnhfdgjaa

namespace Go.Proofs.Ytlfkodlnhfdgjaa
open Go.RowKit

/-- append of noughts onto nil: a new row, of elements of whatever size. -/
theorem run_append_noughts {P : Program} (w : World) (t tn e : TypeId) (i : TypeInfo) (z : Value) (kq kn : IntKind) (size : Nat) (ht : P.underlying t = some (.slice e)) (htn : P.underlying tn = some (.int kn)) (hi : P.info? e = some i) (hz : i.zero = some z) (hsz : i.size = size) (hpos : 0 < size) (hzc : z.cells.size = size)
    (k : Nat) (h0 : 0 < k) (hk : k ≤ 1000) (hby : i.bytes ≤ 64) :
    ∃ c w', (∀ ty, (Builtin.append_ #[t, tn] ty #[.slice none 0 0, .int kq k]).run P w = .ok (.slice (some ⟨w.heap.size, 0, none⟩) k c) w') ∧ k ≤ c ∧ w'.ownsRow w.heap.size e size (.slice (some ⟨w.heap.size, 0, none⟩) 0 c) 0 [] ∧ Keeps [] w w' := by
  have hfc : (Builtin.firstCells i.size 0 (.slice none 0 0)).run P w.drew = .ok ([] : List Value).toArray w.drew := by simp [Builtin.firstCells]
  have hnc : Builtin.nextslicecap (0 + k) 0 ≤ 4 * 1000 + 64 := by
    unfold Builtin.nextslicecap
    split <;> omega
  have h1 : k * i.bytes ≤ 281474976710656 := Nat.le_trans (Nat.mul_le_mul hk hby) (by omega)
  have h2 : Builtin.nextslicecap (0 + k) 0 * i.bytes ≤ 281474976710656 := Nat.le_trans (Nat.mul_le_mul hnc hby) (by omega)
  have h := fun ty => Lib.run_append_grow_zeros w t tn ty e i z kq kn ht htn hi hz none 0 0 [] hfc k h0 (by omega) (by omega) (by omega) h1 h2
  have hge := grownCap_ge w (0 + k) 0 e
  have hle := grownCap_le_maxLen w (0 + k) 0 e (by unfold maxLen; omega)
  rw [Nat.zero_add] at hge hle
  simp only [Nat.zero_add] at h
  refine ⟨_, _, h, hge, ⟨by simp, .inr ⟨w.heap.size, grownCap w k 0 e, _, rfl, Nat.le_refl _, Blk.new w.drew _ _, Nat.zero_le _, hle, ?_, by simp⟩⟩, ((Keeps.refl [] w).drew).alloc _⟩
  simp [size_zeroCells', hzc]
  rw [← Nat.add_mul]
  congr 1
  omega

theorem Try.info_ent9 : (Try.prog.info? 27).map (fun i => (i.zero, i.size, i.bytes)) = some (some (.agg #[.string ⟨#[]⟩, .int .i64 0]), 2, 24) := by kernel_rfl

set_option maxRecDepth 100000 in
set_option maxHeartbeats 2000000 in
theorem growE_at (k : Nat) (hk : k ≤ 1000) (ki : Int) (hki : ki = (k : Int)) (w : World) : Calls Try.prog 20 #[.slice none 0 0, .int .i64 ki] w fun e w' =>
    ∃ v, e = .returned v ∧ w'.ownsRow w.heap.size 27 2 v 0 [] ∧ Keeps [] w w' := by
  rcases Nat.eq_zero_or_pos k with rfl | h0
  · obtain rfl : ki = 0 := by omega
    clear hki hk
    go_enter Try.func20, Try.ntmps20
    go_wp2_with fail
    go_ret
    exact ⟨_, rfl, ⟨rfl, .inl ⟨rfl, rfl⟩⟩, Keeps.refl _ _⟩
  · obtain ⟨i0, hi, hz0, hz1, hz2⟩ := info_parts Try.info_ent9
    obtain ⟨c, w', hr, hc, hown, hkk⟩ := run_append_noughts (P := Try.prog) w 23 3 27 i0 _ .i64 .i64 2 Try.underlying23 Try.underlying3 hi hz0 hz1 (by omega) rfl k h0 hk (by rw [hz2]; omega)
    have h1 : ¬ ki < 0 := by omega
    have h2 : 0 < ki := by omega
    have h3 : wrap64 ki = ki := by unfold wrap64; omega
    simp only [← hki] at hr
    have HO := Lib.hid hown
    have HK := Lib.hid hkk
    have hc0 : c ≠ 0 := by omega
    have hc1 : (0 : Int) ≤ (c : Int) := by omega
    clear hown hkk hki hi hz0 hz1 hz2 hc
    go_enter Try.func20, Try.ntmps20
    go_wp2_with (at_builtin; refine wpList_append_run rfl (.tmp 20) (.tmp 21) 23 3 ?_ (.slice none 0 0) (.int .i64 ki) ?_ ?_ (hr _) ?_; all_goals first | rfl | skip)
    go_ret
    exact ⟨_, rfl, HO.out, HK.out⟩

/-- A slice's cells, in a row. -/
theorem ereads_cells {w : World} {a : Option Addr} {m c g : Nat} {E : List (ByteArray × Int)} (h : EReads w (.slice a m c) g E) (hm : m ≠ 0) : ∃ ad, a = some ad ∧ ∀ j u, (ecells E)[j]? = some u → w.cell? (ad.add j) = some u := by
  obtain ⟨a', c', h1, h2, h3, h4⟩ := h
  cases h1
  obtain ⟨-, off, rfl, hc⟩ := h4 hm
  refine ⟨_, rfl, fun j u hu => ?_⟩
  have hj : j < (ecells E).length := (List.getElem?_eq_some_iff.1 hu).1
  rw [ecells_len] at hj
  obtain ⟨d0, d1⟩ := hc (j / 2) (by omega)
  obtain ⟨e0, e1⟩ := ecells_get E (j / 2) (by omega)
  rw [add_plain]
  rcases Nat.mod_two_eq_zero_or_one j with h | h
  · rw [show off + j = off + j / 2 * 2 by omega, d0, ← e0, show j / 2 * 2 = j by omega, hu]
  · rw [show off + j = off + j / 2 * 2 + 1 by omega, d1, ← e1, show j / 2 * 2 + 1 = j by omega, hu]

def lenTo (Ls : List (List (ByteArray × Int))) (j : Nat) : Nat := (Ls.take j).flatten.length

theorem flat_succ (Ls : List (List (ByteArray × Int))) (j : Nat) (hj : j < Ls.length) : (Ls.take (j + 1)).flatten = (Ls.take j).flatten ++ Ls.getD j [] := by
  rw [List.take_succ_eq_append_getElem hj, List.flatten_append]
  simp [List.getD_eq_getElem?_getD, hj]

theorem lenTo_succ (Ls : List (List (ByteArray × Int))) (j : Nat) (hj : j < Ls.length) : lenTo Ls (j + 1) = lenTo Ls j + (Ls.getD j []).length := by
  unfold lenTo
  rw [flat_succ Ls j hj, List.length_append]

theorem lenTo_le (Ls : List (List (ByteArray × Int))) (j : Nat) : lenTo Ls j ≤ Ls.flatten.length := by
  unfold lenTo
  have := congrArg List.flatten (List.take_append_drop j Ls)
  rw [List.flatten_append] at this
  rw [← this, List.length_append]
  omega

theorem lenTo_all (Ls : List (List (ByteArray × Int))) : lenTo Ls Ls.length = Ls.flatten.length := by
  unfold lenTo
  rw [List.take_length]

/-- What a call leaves that makes a new list of entries. -/
def MadeEnts (w : World) (E : List (ByteArray × Int)) (e : Ending) (w' : World) : Prop := ∃ v g, e = .returned v ∧ EReads w' v g E ∧ w.heap.size ≤ g ∧ Keeps [] w w'

set_option maxRecDepth 100000 in
set_option maxHeartbeats 4000000 in
theorem concatE_at {w : World} {gs T : Nat} {xs : List Value} {Ls : List (List (ByteArray × Int))} (hb : Blk w gs xs.toArray T) (hl : xs.length = Ls.length) (hm : xs.length ≤ 10)
    (hr : ∀ j, j < xs.length → ∃ g, EReads w (xs.getD j (.slice none 0 0)) g (Ls.getD j [])) (hn : Ls.flatten.length ≤ 1000) :
    Calls Try.prog 16 #[.slice (some ⟨gs, 0, none⟩) xs.length xs.length] w (MadeEnts w Ls.flatten) := by
  obtain ⟨i0, hi, hz0, hz1, hz2⟩ := info_parts Try.info_ent9
  have HR : Hid (∀ j, j < xs.length → ∃ a c g, xs.getD j (.slice none 0 0) = .slice a (Ls.getD j []).length c ∧ EReads w (.slice a (Ls.getD j []).length c) g (Ls.getD j []) ∧ (Ls.getD j []).length ≤ c ∧ ∀ wx, Keeps [] w wx → wx.cell? ⟨gs, j, none⟩ = some (.slice a (Ls.getD j []).length c)) := fun j hj => by
    obtain ⟨g, hE⟩ := hr j hj
    obtain ⟨a, c, hv, h1, h2, -⟩ := hE.open
    refine ⟨a, c, g, hv, by rw [hv] at hE; exact hE, h1, fun wx hk => ?_⟩
    rw [(hb.keep hk (by simp)).cell, List.getElem?_toArray, ← hv, List.getD_eq_getElem?_getD, List.getElem?_eq_getElem hj]
    rfl
  have HLS : Hid (∀ j, j < xs.length → lenTo Ls (j + 1) = lenTo Ls j + (Ls.getD j []).length ∧ (Ls.take (j + 1)).flatten = (Ls.take j).flatten ++ Ls.getD j []) := fun j hj => ⟨lenTo_succ Ls j (by omega), flat_succ Ls j (by omega)⟩
  have HLE : Hid (∀ j, lenTo Ls j ≤ 1000) := fun j => Nat.le_trans (lenTo_le Ls j) hn
  have HLA : Hid (lenTo Ls xs.length = Ls.flatten.length ∧ (Ls.take xs.length).flatten = Ls.flatten) := by
    show _ ∧ _
    rw [hl]
    exact ⟨lenTo_all Ls, by rw [List.take_length]⟩
  clear hr hb hl hn
  generalize hxm : xs.length = m at *
  clear hxm
  have hg0 := fun (k : Nat) (hk : k ≤ 1000) (ki : Int) (hki : ki = (k : Int)) wx => growE_at k hk ki hki wx
  have HG := Lib.hid hg0
  clear hg0
  go_enter Try.func16, Try.ntmps16
  go_wp2_with fail
  go_loopg [3, 11] m (fun gh s3 s11 wx => ∃ j : Nat, j + gh = m ∧ s11 = .int .i64 (j : Int) ∧ s3 = .int .i64 ((lenTo Ls j : Nat) : Int) ∧ w = wx)
  case atStart => exact ⟨0, by omega, rfl, rfl, rfl⟩
  case round =>
    obtain ⟨j, hj, rfl, rfl, rfl⟩ := hrel
    cases gk with
    | succ gg =>
      have hjm : j < m := by omega
      have hji : (j : Int) < (m : Int) := by omega
      have hj0 : (0 : Int) ≤ (j : Int) := by omega
      obtain ⟨a, c, g, -, -, hlc, hce⟩ := HR.out j hjm
      have c0 := hce w (Keeps.refl _ _)
      obtain ⟨hls, -⟩ := HLS.out j hjm
      have hle := HLE.out (j + 1)
      have HQ : Hid (((lenTo Ls (j + 1) : Nat) : Int) = ((lenTo Ls j : Nat) : Int) + (((Ls.getD j []).length : Nat) : Int)) := by show _ = _; omega
      rw [hls] at hle
      clear hls hce hlc
      generalize lenTo Ls j = q at *
      generalize (Ls.getD j []).length = l at *
      have hq0 : ¬ (q : Int) + (l : Int) < 0 := by omega
      go_wp2_with fail
      go_roundg gg
      case measure => omega
      case rel => exact ⟨j + 1, by omega, by go_num, by rw [HQ.out], rfl⟩
    | zero =>
      obtain rfl : j = m := by omega
      have hle := HLE.out j
      have hGr := HG.out (lenTo Ls j) hle _ rfl w
      clear HG
      go_wp2_with fail
      refine hGr.mono ?_
      rintro e w1 ⟨v0, rfl, hown, hk1⟩
      have HO := Lib.hid hown
      have HK := Lib.hid hk1
      clear hown hk1 hGr
      go_wp2_with fail
      go_loopg [6, 27] j (fun gh s6 s27 wx => ∃ i : Nat, i + gh = j ∧ s27 = .int .i64 (i : Int) ∧ Hid (wx.ownsRow w.heap.size 27 2 s6 (lenTo Ls i) (ecells (Ls.take i).flatten) ∧ Keeps [] w wx))
      case atStart => exact ⟨0, by omega, rfl, HO.out, HK.out⟩
      case round =>
        clear HO HK
        obtain ⟨i, hij, rfl, HP⟩ := hrel
        obtain ⟨hown, hkp⟩ := HP.out
        cases gk with
        | zero =>
          obtain rfl : i = j := by omega
          have HM : Hid (MadeEnts w Ls.flatten (.returned u6) wr) := by
            obtain ⟨g, ho, hg⟩ := Owns.of_row hown
            rw [HLA.out.1, HLA.out.2] at ho
            by_cases h0 : Ls.flatten.length = 0
            · exact ⟨u6, w.heap.size, rfl, (ho.anyG h0 w.heap.size).ereads rfl, Nat.le_refl _, hkp⟩
            · exact ⟨u6, g, rfl, ho.ereads rfl, (hg (by rw [HLA.out.1]; exact h0)).1, hkp⟩
          clear hown hkp HP
          go_wp2_with fail
          go_ret
          exact HM.out
        | succ gg =>
          have him : i < j := by omega
          have hii : (i : Int) < (j : Int) := by omega
          have hi0 : (0 : Int) ≤ (i : Int) := by omega
          obtain ⟨a, c, g, -, hE, hlc, hce⟩ := HR.out i him
          have e0 := hce _ hkp
          obtain ⟨hls, hfl⟩ := HLS.out i him
          have hle2 := HLE.out (i + 1)
          rw [hls] at hle2
          obtain ⟨v', w', hr, ho, hg⟩ := run_append_any (P := Try.prog) 23 27 23 i0 _ 2 24 Try.underlying23 hi hz0 hz1 hz2 rfl (by omega) w.heap.size (lenTo Ls i) _ _ hown a (Ls.getD i []).length c (ecells (Ls.getD i [])) (ecells_len _) (ereads_cells (hE.keep hkp (by simp))) (ecells_one _) (by unfold maxLen; omega) (by omega) hkp.size
          have HN : Hid (w'.ownsRow w.heap.size 27 2 v' (lenTo Ls (i + 1)) (ecells (Ls.take (i + 1)).flatten) ∧ Keeps [] w w') := by
            refine ⟨?_, hkp.grown hg (ownsRow_block hown)⟩
            rw [hls, hfl, ecells_append]
            exact ho
          clear hown hkp HP ho hg hce hls hfl hE hlc
          generalize (Ls.getD i []).length = l at *
          go_wp2_with (at_builtin; refine wpList_append_run rfl (.tmp 31) (.tmp 32) 23 23 ?_ u6 (.slice a l c) ?_ ?_ hr ?_; all_goals first | rfl | skip)
          go_roundg gg
          case measure => omega
          case rel => exact ⟨i + 1, by omega, by go_num, HN.out⟩

end Go.Proofs.Ytlfkodlnhfdgjaa

namespace Go.Proofs.Ytlfkodlnhfdgjaa
open Go.RowKit

/-- The inode with other entries; its size goes with them. -/
def setE (n : Ino) (E : List (ByteArray × Int)) : Ino := { n with S := (E.length : Int), E := E }

theorem setE_cells (n : Ino) (v u : Value) (E : List (ByteArray × Int)) (hB : n.B.length = 13) (m : Int) (hm : m = (E.length : Int)) : ((inoC n v).setIfInBounds 17 u).setIfInBounds 3 (.int .i64 m) = inoC (setE n E) u := by
  subst hm
  have h1 : inoC n v = (([.int .i64 n.F, .int .i64 n.K, .int .i64 n.L, .int .i64 n.S] : List Value) ++ (zs n.B ++ [v])).toArray := rfl
  have h2 : (([.int .i64 n.F, .int .i64 n.K, .int .i64 n.L, .int .i64 n.S] : List Value) ++ (zs n.B ++ [v])).set 17 u = ([.int .i64 n.F, .int .i64 n.K, .int .i64 n.L, .int .i64 n.S] : List Value) ++ (zs n.B ++ [u]) := by
    rw [List.set_append_right _ _ (by simp), List.set_append_right _ _ (by rw [zs_len, hB]; simp), zs_len, hB]
    rfl
  rw [h1, List.setIfInBounds_toArray, List.setIfInBounds_toArray, h2]
  rfl

set_option maxRecDepth 100000 in
set_option maxHeartbeats 2000000 in
theorem having_at {w : World} (n : Ino) (v : Value) (hB : n.B.length = 13) {a : Option Addr} {c : Nat} (E : List (ByteArray × Int)) (m : Nat) (hm : m = E.length) :
    Calls Try.prog 15 #[.agg (inoC n v), .slice a m c] w fun e w' => e = .returned (.agg (inoC (setE n E) (.slice a m c))) ∧ Keeps [] w w' := by
  have hl : (inoC n v).size = 18 := by rw [inoC, List.size_toArray, inoL_len, hB]
  have hl0 : (inoC inoZ (.slice none 0 0)).size = 18 := rfl
  have hat := inoAt v hB
  have hse := setE_cells n v (.slice a m c) E hB (m : Int) (by omega)
  have hone : ∀ u ∈ inoL (setE n E) (.slice a m c), u.oneCell' = true := inoL_one rfl
  have hzv := zero_ino
  have hcs : inoC (setE n E) (.slice a m c) = (inoL (setE n E) (.slice a m c)).toArray := rfl
  have hll : (inoL (setE n E) (.slice a m c)).length = 18 := by rw [inoL_len]; show n.B.length + 5 = 18; omega
  generalize inoC inoZ (.slice none 0 0) = Z0 at *
  generalize inoC n v = Z at *
  generalize inoC (setE n E) (.slice a m c) = Z1 at *
  generalize inoL (setE n E) (.slice a m c) = ZL at *
  subst hcs
  have hb3 := (Blk.new w ((Z.setIfInBounds 17 (.slice a m c)).setIfInBounds 3 (.int .i64 (m : Int))) 25).alloc (.cells Z0 25)
  have hb5 := Blk.new (w.alloc (.cells ((Z.setIfInBounds 17 (.slice a m c)).setIfInBounds 3 (.int .i64 (m : Int))) 25)) Z0 25
  rw [show (w.alloc (.cells ((Z.setIfInBounds 17 (.slice a m c)).setIfInBounds 3 (.int .i64 (m : Int))) 25)).heap.size = w.heap.size + 1 by simp] at hb5
  have hk3 : Keeps [] w ((w.alloc (.cells ((Z.setIfInBounds 17 (.slice a m c)).setIfInBounds 3 (.int .i64 (m : Int))) 25)).alloc (.cells Z0 25)) := ((Keeps.refl [] w).alloc _).alloc _
  have HLD : Hid ((loadVar 25 ⟨w.heap.size, 0, none⟩).run Try.prog ((w.alloc (.cells ((Z.setIfInBounds 17 (.slice a m c)).setIfInBounds 3 (.int .i64 (m : Int))) 25)).alloc (.cells Z0 25)) = .ok (.agg ZL.toArray) ((w.alloc (.cells ((Z.setIfInBounds 17 (.slice a m c)).setIfInBounds 3 (.int .i64 (m : Int))) 25)).alloc (.cells Z0 25))) :=
    run_loadVar_cells _ 0 ZL Try.underlying25 rfl (by rw [hll]; exact size_ino) fun j _ => by rw [hb3.cell, hse, Nat.zero_add, List.getElem?_toArray]
  obtain ⟨w5, q1, q2, q3⟩ := store_whole (P := Try.prog) (ty := 25) (cs := ZL) (by rw [hll]; exact size_ino) hb5 (by rw [hll]; exact hl0) hone
  have HS := Lib.hid q1
  have HL5 : Hid ((loadVar 25 ⟨w.heap.size + 1, 0, none⟩).run Try.prog w5 = .ok (.agg ZL.toArray) w5) :=
    run_loadVar_cells _ 0 ZL Try.underlying25 rfl (by rw [hll]; exact size_ino) fun j _ => by rw [q2.cell, Nat.zero_add, List.getElem?_toArray]
  have HKP : Hid (Keeps [] w w5) := hk3.trans q3 (by intro x hx; rw [List.mem_singleton] at hx; omega)
  have hz18 : 17 < Z.size := by omega
  have hz3 : 3 < Z.size := by omega
  clear hb3 hb5 hk3 hat hse hone hl hl0 q1 q2 q3 hm hB hll
  go_enter Try.func15, Try.ntmps15
  go_wp2_with (first | ((with_reducible show wpList _ _ _ (⟨_, .load 25 (.tmp 2), _, _, _, _⟩ :: _) _ _); refine wpList_load_any rfl 25 (.tmp 2) rfl _ rfl _ HLD.out ?_) | ((with_reducible show wpList _ _ _ (⟨_, .store 25 (.tmp 4) (.tmp 10), _, _, _, _⟩ :: _) _ _); refine wpList_store_any rfl 25 (.tmp 4) (.tmp 10) rfl _ rfl _ rfl _ HS.out ?_))
  exact bodyPost_ret (results_cell Try.results15 rfl HL5.out) rfl ⟨rfl, HKP.out⟩

end Go.Proofs.Ytlfkodlnhfdgjaa

namespace Go.Proofs.Ytlfkodlnhfdgjaa
open Go.RowKit
variable {P : Program} {n : Nat} {r : Option Nat} {ops : Array Oper} {Q : Exit → Act → World → Prop}

end Go.Proofs.Ytlfkodlnhfdgjaa

namespace Go.Proofs.Ytlfkodlnhfdgjaa
section
variable {P : Program} {ops : Array Oper} {Q : Exit → Act → World → Prop} {md : Region.Mode}

/-- These are listed. -/
def listedOf (listed : Array Bool) : List Nat → Array Bool
  | [] => listed
  | i :: is => listedOf (listed.setIfInBounds i true) is

end

end Go.Proofs.Ytlfkodlnhfdgjaa

namespace Go.Proofs.Ytlfkodlnhfdgjaa
open Go.RowKit
section
variable {P : Program} {ops : Array Oper} {Q : Exit → Act → World → Prop} {md : Region.Mode} {S : World → Prop}

def andS (S : World → Prop) (K : Act → World → Prop) (Q : Exit → Act → World → Prop) : Exit → Act → World → Prop
  | .normal, a, w => S w ∧ K a w
  | e, a, w => Q e a w

/-- The last operations, S being shown behind each. -/
def tailS (P : Program) (ops : Array Oper) (Q : Exit → Act → World → Prop) (S : World → Prop) : List Oper → Act → World → Prop
  | [], a, w => Q .normal a w
  | o :: rest, a, w => wpList P ops (andS S (tailS P ops Q S rest) Q) [o] a w

/-- The operations that are taken first. -/
def YieldList (P : Program) (ops : Array Oper) (S : World → Prop) (E : Act → Prop) : List Oper → Act → Prop
  | [], a => E a
  | o :: rest, a => ∃ v, YieldsIf P ops S o v a ∧ YieldList P ops S E rest (a.put o.dst v)

theorem wpOp_of_list {i : Nat} {o : Oper} {K : Act → World → Prop} {a : Act} {w : World} (ho : ops[i]? = some o) (h : wpList P ops (andS S K Q) [o] a w) : wpOp P ops Q i (fun a w => S w ∧ K a w) a w := by
  unfold Go.wpOp
  simp only [ho]
  unfold wpList at h
  split
  · rename_i hw
    rw [if_pos hw] at h
    rcases h with h | ⟨h1, h2⟩
    · refine .inl ?_
      unfold Oper.wp at *
      generalize (execOp a.eval o).run P w = r at *
      cases r with
      | ok n w' =>
        cases n <;> simp only [Oper.upon] at h ⊢
        case value u => exact h
        case skip => exact h
        case defer d => exact h
        case enter f args =>
          refine Calls.mono h fun e w'' he => ?_
          cases e with
          | returned u => exact he
          | panicked c => exact he
          | outgrown => exact he
        case row row args => exact Rows.mono h fun u w'' he => he
      | halt x w' =>
        cases x <;> simp only [Oper.upon] at h ⊢
        case panic u => exact h
    · exact .inr ⟨h1, h2⟩
  · rename_i hw
    rw [if_neg hw] at h
    exact h

def takeB (md : Region.Mode) (ops : Array Oper) (listed : Array Bool) : List Nat → Bool
  | [] => true
  | i :: is => Region.free md ops listed i && (Region.ready md ops listed).contains i && takeB md ops (listed.setIfInBounds i true) is

def lastB (md : Region.Mode) (ops : Array Oper) (listed : Array Bool) : List Nat → Bool
  | [] => Region.ready md ops listed == []
  | i :: is => (Region.ready md ops listed == [i]) && lastB md ops (listed.setIfInBounds i true) is

theorem wpAnyH_last : ∀ (tail : List Nat) (tl : List Oper) (listed : Array Bool) (a : Act) (w : World), lastB md ops listed tail = true → tl = tail.filterMap (fun i => ops[i]?) → tl.length = tail.length → tailS P ops Q S tl a w →
    wpAnyH P md ops Q S tail.length listed a w
  | [], tl, listed, a, w, hb, hl, _, h => by
    have : tl = [] := by rw [hl]; rfl
    subst this
    exact wpAnyH_done (by simpa [lastB] using hb) h 0
  | i :: is, tl, listed, a, w, hb, hl, hlen, h => by
    unfold lastB at hb
    simp only [Bool.and_eq_true] at hb
    have h1 : Region.ready md ops listed = [i] := by simpa using hb.1
    cases ho : ops[i]? with
    | none =>
      exfalso
      rw [hl, List.filterMap_cons, ho] at hlen
      have := List.length_filterMap_le (fun i => ops[i]?) is
      simp only [List.length_cons] at hlen
      omega
    | some o =>
      rw [List.filterMap_cons, ho] at hl
      subst hl
      refine wpAnyH_all h1 (by simp) fun j hj => ?_
      rw [List.mem_singleton] at hj
      subst hj
      exact wpOp_mono (fun a' w' h' => ⟨h'.1, wpAnyH_last is _ _ a' w' hb.2 rfl (by simpa using hlen) h'.2⟩) (wpOp_of_list ho h)

theorem wpAnyH_order (hns : Region.noSelect ops = true) (hQ : ∀ d v c a w, Q (.panic c) (Act.put a d v) w → Q (.panic c) a w) (tail : List Nat) (tl : List Oper) (w : World) (hS : S w) (htl : tl = tail.filterMap (fun i => ops[i]?)) (htll : tl.length = tail.length) :
    ∀ (path : List Nat) (l : List Oper) (listed : Array Bool) (a : Act), takeB md ops listed path = true → lastB md ops (listedOf listed path) tail = true → l = path.filterMap (fun i => ops[i]?) → l.length = path.length →
      YieldList P ops S (fun a => tailS P ops Q S tl a w) l a → wpAnyH P md ops Q S (tail.length + path.length) listed a w
  | [], l, listed, a, _, hb, hl, _, h => by
    have : l = [] := by rw [hl]; rfl
    subst this
    exact wpAnyH_last tail tl listed a w hb htl htll h
  | i :: is, l, listed, a, ht, hb, hl, hlen, h => by
    unfold takeB at ht
    simp only [Bool.and_eq_true] at ht
    cases ho : ops[i]? with
    | none =>
      exfalso
      rw [hl, List.filterMap_cons, ho] at hlen
      have := List.length_filterMap_le (fun i => ops[i]?) is
      simp only [List.length_cons] at hlen
      omega
    | some o =>
      rw [List.filterMap_cons, ho] at hl
      subst hl
      obtain ⟨v, hv, hr⟩ := h
      rw [List.length_cons, ← Nat.add_assoc]
      exact wpAnyH_take ho hns ht.1.1 ht.1.2 (hQ o.dst v) hv hS (wpAnyH_order hns hQ tail tl w hS htl htll is _ _ _ ht.2 hb rfl (by simpa using hlen) hr)

/-- THE LAW, of the orders alone. -/
theorem wpAny_order {a : Act} {w : World} (path tail : List Nat) {l tl : List Oper} (hns : Region.noSelect ops = true) (ht : takeB .any ops (Array.replicate ops.size false) path = true) (hb : lastB .any ops (listedOf (Array.replicate ops.size false) path) tail = true)
    (hl : l = path.filterMap (fun i => ops[i]?)) (hll : l.length = path.length) (htl : tl = tail.filterMap (fun i => ops[i]?)) (htll : tl.length = tail.length) (hsz : tail.length + path.length = ops.size)
    (hQ : ∀ d v c a w, Q (.panic c) (Act.put a d v) w → Q (.panic c) a w) (hS : S w) (h : YieldList P ops S (fun a => tailS P ops Q S tl a w) l a) : wpAny P .any ops Q ops.size (Array.replicate ops.size false) a w := by
  rw [← hsz]
  refine wpAny_of_held _ _ _ _ (wpAnyH_order hns hQ tail tl w hS htl htll path l _ a ?_ ?_ hl hll h)
  · rw [hsz]; exact ht
  · rw [hsz]; exact hb

/-- THE LAW, in a function. -/
theorem wp_region_order {id : Nat} {a : Act} {w : World} (path tail : List Nat) {l tl : List Oper} (hm : P.follows .mixedOrders = true) (hns : Region.noSelect ops = true) (ht : takeB .any ops (Array.replicate ops.size false) path = true) (hb : lastB .any ops (listedOf (Array.replicate ops.size false) path) tail = true)
    (hl : l = path.filterMap (fun i => ops[i]?)) (hll : l.length = path.length) (htl : tl = tail.filterMap (fun i => ops[i]?)) (htll : tl.length = tail.length) (hsz : tail.length + path.length = ops.size)
    (hQ : ∀ d v c a w, Q (.panic c) (Act.put a d v) w → Q (.panic c) a w) (hS : S w.drew) (h : YieldList P ops S (fun a => tailS P ops Q S tl a w.drew) l a) : (Code.region id ops true).wp P Q a w :=
  wp_region_any hm (wpAny_order path tail hns ht hb hl hll htl htll hsz hQ hS h)

theorem YieldList.cons {E : Act → Prop} {o : Oper} {rest : List Oper} {a : Act} (v : Value) (h : YieldsIf P ops S o v a) (hr : YieldList P ops S E rest (a.put o.dst v)) : YieldList P ops S E (o :: rest) a := ⟨v, h, hr⟩
theorem YieldList.done {E : Act → Prop} {a : Act} (h : E a) : YieldList P ops S E [] a := h
theorem YieldsIf.val {o : Oper} {v : Value} {a : Act} (hw : Region.wanted o (yielded ops a.tmps) = true) (h : ∀ w, S w → (execOp a.eval o).run P w = .ok (.value v) w) : YieldsIf P ops S o v a := .inl ⟨hw, h⟩
theorem YieldsIf.load {o : Oper} {v : Value} {a : Act} (hw : Region.wanted o (yielded ops a.tmps) = true) (ty : TypeId) (x : Operand) (ho : o.op = .load ty x) (ad : Addr) (hx : a.eval x = .pointer (some ad)) (h : ∀ w, S w → (loadVar ty ad).run P w = .ok v w) : YieldsIf P ops S o v a :=
  YieldsIf.val hw fun w hS => by
    unfold execOp
    simp only [ho, hx, Instr.loadAt, Instr.sureAddr, Sem.run_bind, Sem.run_pure, Result.andThen_ok, h w hS]
end
end Go.Proofs.Ytlfkodlnhfdgjaa

namespace Go.Proofs.Ytlfkodlnhfdgjaa
open Go.RowKit

/-- What With and Without leave: the inode with these entries, which lie in a new block. -/
def EditPost (w : World) (n : Ino) (L : List (ByteArray × Int)) (e : Ending) (w' : World) : Prop := ∃ u g, e = .returned (.agg (inoC (setE n L) u)) ∧ EReads w' u g L ∧ w.heap.size ≤ g ∧ Keeps [] w w'

theorem eone (w : World) (x : ByteArray) (i : Int) (g T : Nat) (hb : Blk w g #[.string x, .int .i64 i] T) : EReads w (.slice (some ⟨g, 0, none⟩) 1 1) g [(x, i)] :=
  ⟨_, 1, rfl, Nat.le_refl _, by unfold maxLen; omega, fun _ => ⟨hb.lt, 0, rfl, fun j hj => by
    obtain rfl : j = 0 := by simpa using hj
    exact ⟨by rw [hb.cell]; rfl, by rw [hb.cell]; rfl⟩⟩⟩

theorem list3 {P : Nat → Prop} (h0 : P 0) (h1 : P 1) (h2 : P 2) : ∀ j, j < 3 → P j := fun j hj => by
  rcases (show j = 0 ∨ j = 1 ∨ j = 2 by omega) with rfl | rfl | rfl
  · exact h0
  · exact h1
  · exact h2

theorem list2 {P : Nat → Prop} (h0 : P 0) (h1 : P 1) : ∀ j, j < 2 → P j := fun j hj => by
  rcases (show j = 0 ∨ j = 1 by omega) with rfl | rfl
  · exact h0
  · exact h1

theorem SplitE.newLen {E A M B : List (ByteArray × Int)} {nm : ByteArray} (h : SplitE E A M B nm) (i : Int) : (A ++ ([(nm, i)] ++ B)).length ≤ E.length + 1 ∧ (A ++ B).length ≤ E.length := by
  rw [h.eq]
  simp only [List.length_append, List.length_cons, List.length_nil]
  omega

set_option maxRecDepth 100000 in
set_option maxHeartbeats 4000000 in
theorem with_at9 {w : World} (n : Ino) {v : Value} {g : Nat} {A M B : List (ByteArray × Int)} {nm : ByteArray} (i : Int) (hB : n.B.length = 13) (hE : EReads w v g n.E) (hs : SplitE n.E A M B nm) (hE1 : n.E.length ≤ 500) :
    Calls Try.prog 9 #[.agg (inoC n v), .agg #[.string nm, .int .i64 i]] w (EditPost w n (A ++ ([(nm, i)] ++ B))) := by
  have hln := hs.newLen i
  obtain ⟨L, hL⟩ : ∃ L, A ++ ([(nm, i)] ++ B) = L := ⟨_, rfl⟩
  rw [hL] at hln ⊢
  have HL := Lib.hid hL
  have hl0 : (inoC inoZ (.slice none 0 0)).size = 18 := rfl
  have hzv := zero_ino
  have hb0 := ((Blk.new w (inoC n v) 25).alloc (.cells #[.string nm, .int .i64 i] 27)).alloc (.cells (inoC inoZ (.slice none 0 0)) 25)
  have hb1 := (Blk.new (w.alloc (.cells (inoC n v) 25)) #[.string nm, .int .i64 i] 27).alloc (.cells (inoC inoZ (.slice none 0 0)) 25)
  have hb2 := Blk.new ((w.alloc (.cells (inoC n v) 25)).alloc (.cells #[.string nm, .int .i64 i] 27)) (inoC inoZ (.slice none 0 0)) 25
  rw [show (w.alloc (.cells (inoC n v) 25)).heap.size = w.heap.size + 1 by simp] at hb1
  rw [show ((w.alloc (.cells (inoC n v) 25)).alloc (.cells #[.string nm, .int .i64 i] 27)).heap.size = w.heap.size + 2 by simp] at hb2
  have hk2 : Keeps [] w (((w.alloc (.cells (inoC n v) 25)).alloc (.cells #[.string nm, .int .i64 i] 27)).alloc (.cells (inoC inoZ (.slice none 0 0)) 25)) := (((Keeps.refl [] w).alloc _).alloc _).alloc _
  have har := around_at (hE.keep hk2 (by simp)) hs (by omega)
  have HLN : Hid (L.length ≤ 1000) := by show _ ≤ _; omega
  have hat := inoAt v hB
  have hone : ∀ u : Value, u.oneCell' = true → ∀ x ∈ inoL (setE n L) u, x.oneCell' = true := fun u hu => inoL_one hu
  have HONE := Lib.hid hone
  have HHV : Hid (∀ wx a c, Calls Try.prog 15 #[.agg (inoC n v), .slice a L.length c] wx fun e w' => e = .returned (.agg (inoC (setE n L) (.slice a L.length c))) ∧ Keeps [] wx w') := fun wx a c => having_at n v hB L _ rfl
  have hll : ∀ u, (inoL (setE n L) u).length = 18 := fun u => by rw [inoL_len]; show n.B.length + 5 = 18; omega
  have HLL := Lib.hid hll
  obtain ⟨a, cap, rfl, hcap, hmax, -⟩ := hE.open
  have h17 := hat.f5
  have HLDN : Hid (∀ wx, Blk wx w.heap.size (inoC n (.slice a n.E.length cap)) 25 → (loadVar 25 ⟨w.heap.size, 0, none⟩).run Try.prog wx = .ok (.agg (inoC n (.slice a n.E.length cap))) wx) := fun wx hb => load_ino hb hB
  generalize inoC inoZ (.slice none 0 0) = Z0 at *
  generalize inoC n (.slice a n.E.length cap) = Z at *
  have c17 : (((w.alloc (.cells Z 25)).alloc (.cells #[.string nm, .int .i64 i] 27)).alloc (.cells Z0 25)).cell? ⟨w.heap.size, 17, none⟩ = some (.slice a n.E.length cap) := by rw [hb0.cell]; exact h17
  have HAR := Lib.hid har
  have HB0 := Lib.hid hb0
  have HB1 := Lib.hid hb1
  have HB2 := Lib.hid hb2
  have HK2 := Lib.hid hk2
  have H0 := Lib.hid hl0
  clear har hb0 hb1 hb2 hk2 hat hone hll hl0 hE hs hln hE1 h17 hB hcap hmax hL
  go_enter Try.func9, Try.ntmps9
  go_wp2_with fail
  refine HAR.out.mono ?_; rintro e w3 ⟨x, y, rfl, hx, hy, hk3⟩
  obtain ⟨a1, c1, hxv, -, -, -⟩ := hx.open
  obtain ⟨a2, c2, hyv, -, -, -⟩ := hy.open
  subst hxv hyv
  have hz3 : w.heap.size + 3 ≤ w3.heap.size := by have := hk3.size; simp at this; omega
  have HZ3 := Lib.hid hz3
  have HB0 := Lib.hid (HB0.out.keep hk3 (by simp))
  have HB1 := Lib.hid (HB1.out.keep hk3 (by simp))
  have HB2 := Lib.hid (HB2.out.keep hk3 (by simp))
  have HK3 := Lib.hid (HK2.out.trans' hk3)
  have HX := Lib.hid (hx.keep hk3 (by simp))
  have HY := Lib.hid (hy.keep hk3 (by simp))
  clear hx hy hk3 HAR hz3 c17
  go_wp2_with fail
  refine wp_region_order (S := fun wx => Keeps [w.heap.size + 2] w3 wx) [0, 1, 2, 4] [3, 5, 6, 7, 8] (l := [_, _, _, _]) (tl := [_, _, _, _, _]) (by kernel_rfl) (by kernel_rfl) (by kernel_rfl) (by kernel_rfl) rfl rfl rfl rfl rfl (fun d _ _ _ _ h => by cases d <;> exact h) (Keeps.refl _ _).drew ?_
  refine YieldList.cons _ (YieldsIf.load rfl 25 (.tmp 2) rfl _ rfl fun wx hx => HLDN.out wx (HB0.out.keep hx (by simp))) ?_
  simp only [Act.put, List.setIfInBounds_toArray, List.set_cons_zero, List.set_cons_succ]
  refine YieldList.cons ?_ (YieldsIf.val rfl ?h) ?_; (case h => (intro wx hx; clear hx; go_simp; rfl)); simp only [Act.put, List.setIfInBounds_toArray, List.set_cons_zero, List.set_cons_succ]
  refine YieldList.cons _ (YieldsIf.load rfl 27 (.tmp 3) rfl _ rfl fun wx hx => load_entry (by rw [(HB1.out.keep hx (by simp)).cell]; rfl) (by rw [(HB1.out.keep hx (by simp)).cell]; rfl)) ?_
  simp only [Act.put, List.setIfInBounds_toArray, List.set_cons_zero, List.set_cons_succ]
  refine YieldList.cons ?_ (YieldsIf.val rfl ?h) ?_; (case h => (intro wx hx; clear hx; go_simp; rfl)); simp only [Act.put, List.setIfInBounds_toArray, List.set_cons_zero, List.set_cons_succ]
  refine YieldList.done ?_
  unfold tailS
  go_wp2_with fail
  refine ⟨((Keeps.refl _ _).drew).alloc _, ?_⟩
  unfold tailS
  go_wp2_with fail
  refine ⟨(((Keeps.refl _ _).drew).alloc _).alloc _, ?_⟩
  unfold tailS
  have hk5 : Keeps [] w3 (((w3.alloc (.cells #[.string nm, .int .i64 i] 27)).alloc (.cells #[.slice a1 A.length c1, .slice (some ⟨w3.heap.size, 0, none⟩) 1 1, .slice a2 B.length c2] 23)).drew) := (((Keeps.refl _ _).alloc _).alloc _).drew
  have hb5 : Blk (((w3.alloc (.cells #[.string nm, .int .i64 i] 27)).alloc (.cells #[.slice a1 A.length c1, .slice (some ⟨w3.heap.size, 0, none⟩) 1 1, .slice a2 B.length c2] 23)).drew) w3.heap.size #[.string nm, .int .i64 i] 27 := ((Blk.new w3 _ _).alloc _).drew
  have hb6 : Blk (((w3.alloc (.cells #[.string nm, .int .i64 i] 27)).alloc (.cells #[.slice a1 A.length c1, .slice (some ⟨w3.heap.size, 0, none⟩) 1 1, .slice a2 B.length c2] 23)).drew) (w3.heap.size + 1) ([.slice a1 A.length c1, .slice (some ⟨w3.heap.size, 0, none⟩) 1 1, .slice a2 B.length c2] : List Value).toArray 23 := by
    have := (Blk.new (w3.alloc (.cells #[.string nm, .int .i64 i] 27)) #[.slice a1 A.length c1, .slice (some ⟨w3.heap.size, 0, none⟩) 1 1, .slice a2 B.length c2] 23).drew
    rwa [show (w3.alloc (.cells #[.string nm, .int .i64 i] 27)).heap.size = w3.heap.size + 1 by simp] at this
  have hfl : [A, [(nm, i)], B].flatten = L := by rw [← HL.out]; simp
  have hx5 := HX.out.keep hk5 (by simp)
  have hy5 := HY.out.keep hk5 (by simp)
  have he5 := eone _ nm i _ _ hb5
  have hcon := concatE_at (Ls := [A, [(nm, i)], B]) hb6 rfl (by simp)
    (list3 (P := fun j => ∃ g, EReads (((w3.alloc (.cells #[.string nm, .int .i64 i] 27)).alloc (.cells #[.slice a1 A.length c1, .slice (some ⟨w3.heap.size, 0, none⟩) 1 1, .slice a2 B.length c2] 23)).drew) (([.slice a1 A.length c1, .slice (some ⟨w3.heap.size, 0, none⟩) 1 1, .slice a2 B.length c2] : List Value).getD j (.slice none 0 0)) g ([A, [(nm, i)], B].getD j [])) ⟨g, hx5⟩ ⟨_, he5⟩ ⟨g, hy5⟩)
    (by rw [hfl]; exact HLN.out)
  rw [hfl] at hcon
  have HCON := Lib.hid hcon
  have HK5 := Lib.hid hk5
  clear hcon hk5 hb5 hb6 hfl hx5 hy5 he5
  go_wp2_with fail
  refine HCON.out.mono ?_; rintro e w6 ⟨u, gu, rfl, hu, hgu, hk6⟩
  obtain ⟨a6, c6, huv, -, -, -⟩ := hu.open
  subst huv
  have HK6 := Lib.hid (HK5.out.trans' hk6)
  have HU := Lib.hid hu
  have HGU : Hid (w3.heap.size ≤ gu) := Nat.le_trans HK5.out.size hgu
  clear hu hgu hk6 HCON HK5
  have HV := Lib.hid (HHV.out w6 a6 c6)
  have HONE6 := Lib.hid (HONE.out (.slice a6 L.length c6) rfl)
  have HLL6 := Lib.hid (HLL.out (.slice a6 L.length c6))
  have HZL : Hid (inoC (setE n L) (.slice a6 L.length c6) = (inoL (setE n L) (.slice a6 L.length c6)).toArray) := rfl
  have HEP : Hid (∀ w', EReads w' (.slice a6 L.length c6) gu L → Keeps [] w w' → EditPost w n L (.returned (.agg (inoC (setE n L) (.slice a6 L.length c6)))) w') := fun w' h1 h2 => ⟨_, gu, rfl, h1, by have := HGU.out; have := HZ3.out; omega, h2⟩
  clear HONE HLL HHV
  generalize inoC (setE n L) (.slice a6 L.length c6) = Z6 at *
  generalize inoL (setE n L) (.slice a6 L.length c6) = ZL at *
  generalize L.length = m at *
  go_wp2_with fail
  refine ⟨HK6.out.mono (by simp), ?_⟩
  unfold tailS
  go_wp2_with fail
  refine HV.out.mono ?_; rintro e w7 ⟨rfl, hk7⟩
  have HK7 := Lib.hid (HK6.out.trans' hk7)
  have HU7 := Lib.hid (HU.out.keep hk7 (by simp))
  obtain ⟨w8, q1, q2, q3⟩ := store_whole (P := Try.prog) (ty := 25) (cs := ZL) (by rw [HLL6.out]; exact size_ino) (HB2.out.keep HK7.out (by simp)) (by rw [HLL6.out]; exact H0.out) HONE6.out
  rw [← HZL.out] at q1
  have HS := Lib.hid q1
  have HL8 : Hid ((loadVar 25 ⟨w.heap.size + 2, 0, none⟩).run Try.prog w8 = .ok (.agg Z6) w8) := by
    rw [HZL.out]
    exact run_loadVar_cells _ 0 ZL Try.underlying25 rfl (by rw [HLL6.out]; exact size_ino) fun j _ => by rw [q2.cell, Nat.zero_add, List.getElem?_toArray]
  have HK8 := Lib.hid ((HK7.out.mono (l' := [w.heap.size + 2]) (by simp)).trans' q3)
  have HF := Lib.hid (HEP.out w8 (HU7.out.keep q3 (by have := HGU.out; have := HZ3.out; intro _ h; rw [List.mem_singleton] at h; omega)) (HK3.out.trans HK8.out (by intro z hz; rw [List.mem_singleton] at hz; omega)))
  clear q1 q2 q3 hk7 HV HEP
  go_wp2_with fail
  refine ⟨HK7.out.mono (by simp), ?_⟩
  unfold tailS
  refine wpList_store_any rfl 25 (.tmp 4) (.tmp 22) rfl ⟨w.heap.size + 2, 0, none⟩ rfl (.agg Z6) rfl w8 HS.out ?_
  go_wp2_with fail
  refine ⟨HK8.out, ?_⟩
  unfold tailS
  go_wp2_with fail
  exact bodyPost_ret (results_cell Try.results9 rfl HL8.out) rfl HF.out

end Go.Proofs.Ytlfkodlnhfdgjaa
