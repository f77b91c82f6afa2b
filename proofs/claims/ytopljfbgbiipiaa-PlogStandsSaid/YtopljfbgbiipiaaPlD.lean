/-
  Layer 3 (plog): inLog, pairsOf, load.
-/
import Derived.Test.YtopljfbgbiipiaaPlC
import Derived.RegionTactic
namespace Go.Proofs.Ytopljfbgbiipiaa
open Go.RowKit

def MadePairs (w : World) (ps : List (Int × Int)) (e : Ending) (w' : World) : Prop :=
  ∃ v g, e = .returned v ∧ PReads w' v g ps ∧ w.heap.size ≤ g ∧ Keeps [] w w'

theorem Try.info_pair : (Try.prog.info? 43).map (fun i => (i.zero, i.size, i.bytes)) = some (some (.agg #[.int .i64 0, .int .u64 0]), 2, 16) := by kernel_rfl

theorem make_pairs (n : Nat) (hn : n ≤ 100000) (m : Int) (hm : m = (n : Int)) (w : World) : (Instr.makeSlice 22 (.int .i64 m) (.int .i64 m)).run Try.prog w =
    .ok (.slice (some ⟨w.heap.size, 0, none⟩) n n) (w.alloc (.cells (madeCells #[.int .i64 0, .int .u64 0] (n * 2)) 43)) := by
  subst hm
  obtain ⟨i0, hi, hz0, hz1, hz2⟩ := info_parts Try.info_pair
  have := run_make (P := Try.prog) w 22 43 i0 _ Try.underlying22 hi hz0 .i64 .i64 (n : Int) (n : Int) (by omega) (by omega) (by rw [hz2]; omega) (by omega)
  rw [hz1, Int.toNat_natCast] at this
  exact this

theorem made_pcells (n : Nat) : (madeCells #[Value.int .i64 0, Value.int .u64 0] (n * 2)).toList = pcells (List.replicate n (0, 0)) := by
  apply List.ext_getElem?
  intro j
  simp only [madeCells, Array.toList_map, Array.toList_range, List.getElem?_map]
  by_cases hj : j < n * 2
  · rw [List.getElem?_range hj]
    have hp := pcells_get (List.replicate n ((0 : Int), (0 : Int))) (j / 2) (by simp; omega)
    have e0 : patN (List.replicate n ((0 : Int), (0 : Int))) (j / 2) = 0 := by
      simp [patN, List.getD_eq_getElem?_getD, List.getElem?_replicate]; split <;> rfl
    have e1 : pwdN (List.replicate n ((0 : Int), (0 : Int))) (j / 2) = 0 := by
      simp [pwdN, List.getD_eq_getElem?_getD, List.getElem?_replicate]; split <;> rfl
    rw [e0, e1] at hp
    rcases (show j % 2 = 0 ∨ j % 2 = 1 by omega) with h | h
    · rw [show j / 2 * 2 = j by omega] at hp
      rw [hp.1]
      simp [h]
    · rw [show j / 2 * 2 + 1 = j by omega] at hp
      rw [hp.2]
      simp [h]
  · rw [List.getElem?_eq_none (by simpa using hj), List.getElem?_eq_none (by rw [pcells_len, List.length_replicate]; omega)]; rfl

theorem owns_pairs (w : World) (n : Nat) (hn : n ≤ 100000) : Owns (w.alloc (.cells (madeCells #[.int .i64 0, .int .u64 0] (n * 2)) 43)) (.slice (some ⟨w.heap.size, 0, none⟩) n n) w.heap.size 43 2 n (pcells (List.replicate n (0, 0))) := by
  have hs : (madeCells #[Value.int .i64 0, Value.int .u64 0] (n * 2)).size = n * 2 := by rw [← Array.length_toList, made_pcells, pcells_len, List.length_replicate]
  refine ⟨by rw [pcells_len, List.length_replicate], _, n, rfl, Nat.le_refl _, by unfold maxLen; omega, fun _ => ⟨rfl, _, Blk.new _ _ _, hs, ?_⟩⟩
  rw [← made_pcells, List.take_of_length_le (by rw [Array.length_toList]; omega)]

theorem pcells_set (l : List (Int × Int)) (a x : Int) : ∀ k, ((pcells l).set (k * 2) (.int .i64 a)).set (k * 2 + 1) (.int .u64 x) = pcells (l.set k (a, x)) := by
  induction l with
  | nil => intro k; rfl
  | cons p l ih =>
    intro k
    have hc : ∀ (p : Int × Int) l, pcells (p :: l) = .int .i64 p.1 :: .int .u64 p.2 :: pcells l := fun _ _ => rfl
    cases k with
    | zero => rfl
    | succ k => rw [hc, List.set_cons_succ, hc, ← ih k, show (k + 1) * 2 = k * 2 + 1 + 1 by omega]; rfl

/-- The first k are laid, the others are noughts. -/
def fillTo {α : Type} (z : α) (l : List α) (k : Nat) : List α := l.take k ++ List.replicate (l.length - k) z

theorem fillTo_zero {α : Type} (z : α) (l : List α) : fillTo z l 0 = List.replicate l.length z := by simp [fillTo]
theorem fillTo_all {α : Type} (z : α) (l : List α) : fillTo z l l.length = l := by simp [fillTo]
theorem fillTo_len {α : Type} (z : α) (l : List α) (k : Nat) (h : k ≤ l.length) : (fillTo z l k).length = l.length := by simp [fillTo]; omega
theorem fillTo_succ {α : Type} (z : α) (l : List α) (k : Nat) (h : k < l.length) (x : α) (hx : l[k] = x) : (fillTo z l k).set k x = fillTo z l (k + 1) := by
  subst hx
  unfold fillTo
  rw [List.take_succ_eq_append_getElem h, show l.length - k = (l.length - (k + 1)) + 1 by omega, List.replicate_succ, List.append_assoc]
  rw [List.set_append_right _ _ (by simp; omega)]
  congr 1
  rw [List.length_take, Nat.min_eq_left (by omega), Nat.sub_self]
  rfl

/-- Two cells of an owned row of pairs are written. -/
theorem Owns.pair {w : World} {v : Value} {g T n : Nat} {l : List (Int × Int)} (h : Owns w v g T 2 n (pcells l)) (k : Nat) (a x : Int) :
    Owns ((w.setCell ⟨g, k * 2, none⟩ (.int .i64 a)).setCell ⟨g, k * 2 + 1, none⟩ (.int .u64 x)) v g T 2 n (pcells (l.set k (a, x))) := by
  have := (h.set (k * 2) (.int .i64 a)).set (k * 2 + 1) (.int .u64 x)
  rw [pcells_set] at this
  exact this

theorem MadePairs.mk {w w' : World} {v : Value} {g T n : Nat} {ps : List (Int × Int)} (h : Owns w' v g T 2 n (pcells ps)) (hn : n = ps.length) (hg : w.heap.size ≤ g) (hk : Keeps [] w w') : MadePairs w ps (.returned v) w' := by
  subst hn
  exact ⟨v, g, rfl, h.preads, hg, hk⟩

theorem logN_getElem (ws : List Int) (k : Nat) (h : k < ws.length) : (logN ws)[k]'(by rw [logN_len]; exact h) = (9 + (k : Int), ws.getD k 0) := by
  simp [logN, List.getD_eq_getElem?_getD, h]

set_option maxHeartbeats 1000000 in
theorem inLog_at {w : World} {v : Value} {g : Nat} {ws : List Int} (h : Reads w v g (u64s ws)) (hn : ws.length ≤ 800) :
    Calls Try.prog 28 #[v] w (MadePairs w (logN ws)) := by
  have H := Lib.hid h
  obtain ⟨a, cap, rfl, h1, h2, -⟩ := u64s_cell h
  unfold maxLen at h2
  have hmk := make_pairs ws.length (by omega) (ws.length : Int) rfl w
  have HO := owns_pairs w ws.length (by omega)
  rw [show List.replicate ws.length ((0 : Int), (0 : Int)) = fillTo (0, 0) (logN ws) 0 by rw [fillTo_zero, logN_len]] at HO
  have HO := Lib.hid HO
  generalize madeCells #[Value.int .i64 0, Value.int .u64 0] (ws.length * 2) = mc at *
  clear h
  go_enter Try.func28, Try.ntmps28
  go_wp2_with fail
  go_loopg [11] ws.length (fun gh s11 wx => ∃ k : Nat, k + gh = ws.length ∧ s11 = .int .i64 (k : Int) ∧
    Hid (Owns wx (.slice (some ⟨w.heap.size, 0, none⟩) ws.length ws.length) w.heap.size 43 2 ws.length (pcells (fillTo (0, 0) (logN ws) k)) ∧ Keeps [] w wx))
  case atStart => exact ⟨0, by omega, rfl, HO.out, (Keeps.refl _ _).alloc _⟩
  case round =>
    obtain ⟨k, hk, rfl, HR⟩ := hrel
    cases gk with
    | zero =>
      obtain rfl : k = ws.length := by omega
      have hlt : ¬ (ws.length : Int) < (ws.length : Int) := by omega
      have HM : Hid (MadePairs w (logN ws) (.returned (.slice (some ⟨w.heap.size, 0, none⟩) ws.length ws.length)) wr) := by
        obtain ⟨ho, hkp⟩ := HR.out
        have e : fillTo (0, 0) (logN ws) ws.length = logN ws := by
          have := fillTo_all ((0 : Int), (0 : Int)) (logN ws)
          rw [logN_len] at this
          exact this
        rw [e] at ho
        exact MadePairs.mk ho (logN_len ws).symm (Nat.le_refl _) hkp
      go_wp2_with fail
      go_ret
      exact HM.out
    | succ gg =>
      have hlt : (k : Int) < (ws.length : Int) := by omega
      obtain ⟨_, _, hv, -, -, HC⟩ := u64s_cell (H.out.keep HR.out.2 (by simp))
      cases hv
      obtain ⟨hg, off, rfl, c0⟩ := HC.out k (by omega)
      have hl := fillTo_len ((0 : Int), (0 : Int)) (logN ws) k (by rw [logN_len]; omega)
      rw [logN_len] at hl
      obtain ⟨-, -, hc, hf⟩ := HR.out.1.cell (by omega)
      have d0 := (hc (k * 2) (by omega)).trans (pcells_get (fillTo (0, 0) (logN ws) k) k (by omega)).1
      have d1 := (hc (k * 2 + 1) (by omega)).trans (pcells_get (fillTo (0, 0) (logN ws) k) k (by omega)).2
      have f0 := hf (k * 2)
      have f1 := hf (k * 2 + 1)
      have HE := Lib.hid (fillTo_succ ((0 : Int), (0 : Int)) (logN ws) k (by rw [logN_len]; omega) _ (logN_getElem ws k (by omega)))
      generalize patN (fillTo (0, 0) (logN ws) k) k = o1 at *
      generalize pwdN (fillTo (0, 0) (logN ws) k) k = o2 at *
      have HP := Lib.hid (HR.out.1.pair k (9 + (k : Int)) (ws.getD k 0))
      have HKP := Lib.hid HR.out.2
      generalize ws.getD k 0 = x at *
      clear hc hf hl HC HR
      go_wp2_with fail
      go_roundg gg
      case measure => omega
      case rel =>
        refine ⟨k + 1, by omega, by go_num, ?_, (HKP.out.setCell (.inr (Nat.le_refl _)) _).setCell (.inr (Nat.le_refl _)) _⟩
        rw [← HE.out]
        exact HP.out

/-- Words as pairs. -/
def pairsN (ws : List Int) (m : Nat) : List (Int × Int) := (List.range m).map fun k => (ws.getD (2 * k) 0, ws.getD (2 * k + 1) 0)

theorem pairsN_len (ws : List Int) (m : Nat) : (pairsN ws m).length = m := by simp [pairsN]
theorem pairsN_getElem (ws : List Int) (m k : Nat) (h : k < m) : (pairsN ws m)[k]'(by rw [pairsN_len]; exact h) = (ws.getD (2 * k) 0, ws.getD (2 * k + 1) 0) := by simp [pairsN]

set_option maxHeartbeats 1000000 in
theorem pairsOf_at {w : World} {v : Value} {g : Nat} {ws : List Int} (h : Reads w v g (u64s ws)) (m : Nat) (hm : ws.length = 2 * m) (hn : m ≤ 400) (hp : placesB ws m = true) :
    Calls Try.prog 33 #[v] w (MadePairs w (pairsN ws m)) := by
  have H := Lib.hid h
  obtain ⟨a, cap, rfl, h1, h2, -⟩ := u64s_cell h
  unfold maxLen at h2
  have HM := Lib.hid hm
  have HP := Lib.hid hp
  rw [hm] at h1 ⊢
  have hmk := make_pairs m (by omega) (m : Int) rfl w
  have HO := owns_pairs w m (by omega)
  rw [show List.replicate m ((0 : Int), (0 : Int)) = fillTo (0, 0) (pairsN ws m) 0 by rw [fillTo_zero, pairsN_len]] at HO
  have HO := Lib.hid HO
  generalize madeCells #[Value.int .i64 0, Value.int .u64 0] (m * 2) = mc at *
  clear h hm hp
  go_enter Try.func33, Try.ntmps33
  go_wp2_with fail
  go_loopg [11] m (fun gh s11 wx => ∃ k : Nat, k + gh = m ∧ s11 = .int .i64 (k : Int) ∧
    Hid (Owns wx (.slice (some ⟨w.heap.size, 0, none⟩) m m) w.heap.size 43 2 m (pcells (fillTo (0, 0) (pairsN ws m) k)) ∧ Keeps [] w wx))
  case atStart => exact ⟨0, by omega, rfl, HO.out, (Keeps.refl _ _).alloc _⟩
  case round =>
    obtain ⟨k, hk, rfl, HR⟩ := hrel
    cases gk with
    | zero =>
      obtain rfl : k = m := by omega
      have hlt : ¬ (k : Int) < (k : Int) := by omega
      have HMP : Hid (MadePairs w (pairsN ws k) (.returned (.slice (some ⟨w.heap.size, 0, none⟩) k k)) wr) := by
        obtain ⟨ho, hkp⟩ := HR.out
        have e : fillTo (0, 0) (pairsN ws k) k = pairsN ws k := by
          have := fillTo_all ((0 : Int), (0 : Int)) (pairsN ws k)
          rw [pairsN_len] at this
          exact this
        rw [e] at ho
        exact MadePairs.mk ho (pairsN_len ws k).symm (Nat.le_refl _) hkp
      go_wp2_with fail
      go_ret
      exact HMP.out
    | succ gg =>
      have hlt : (k : Int) < (m : Int) := by omega
      obtain ⟨_, _, hv, -, -, HC⟩ := u64s_cell (H.out.keep HR.out.2 (by simp))
      rw [HM.out] at hv
      cases hv
      obtain ⟨hg, off, rfl, c0⟩ := HC.out (2 * k) (by rw [HM.out]; omega)
      obtain ⟨-, off', ho', c1⟩ := HC.out (2 * k + 1) (by rw [HM.out]; omega)
      cases ho'
      have hx : 0 ≤ ws.getD (2 * k) 0 ∧ ws.getD (2 * k) 0 < 3128 := by
        have := placeB_iff.1 (List.all_eq_true.1 HP.out k (by rw [List.mem_range]; omega))
        omega
      obtain ⟨x0, x1⟩ := hx
      have hl := fillTo_len ((0 : Int), (0 : Int)) (pairsN ws m) k (by rw [pairsN_len]; omega)
      rw [pairsN_len] at hl
      obtain ⟨-, -, hc, hf⟩ := HR.out.1.cell (by omega)
      have d0 := (hc (k * 2) (by omega)).trans (pcells_get (fillTo (0, 0) (pairsN ws m) k) k (by omega)).1
      have d1 := (hc (k * 2 + 1) (by omega)).trans (pcells_get (fillTo (0, 0) (pairsN ws m) k) k (by omega)).2
      have f0 := hf (k * 2)
      have f1 := hf (k * 2 + 1)
      have HE := Lib.hid (fillTo_succ ((0 : Int), (0 : Int)) (pairsN ws m) k (by rw [pairsN_len]; omega) _ (pairsN_getElem ws m k (by omega)))
      generalize patN (fillTo (0, 0) (pairsN ws m) k) k = o1 at *
      generalize pwdN (fillTo (0, 0) (pairsN ws m) k) k = o2 at *
      have HPA := Lib.hid (HR.out.1.drew.pair k (ws.getD (2 * k) 0) (ws.getD (2 * k + 1) 0))
      have HKP := Lib.hid HR.out.2
      generalize ws.getD (2 * k) 0 = x at *
      generalize ws.getD (2 * k + 1) 0 = y at *
      clear hc hf hl HC HR
      go_wp2_with fail
      go_region
      go_wp2_with fail
      go_roundg gg
      case measure => omega
      case rel =>
        refine ⟨k + 1, by omega, by go_num, ?_, (HKP.out.drew.setCell (.inr (Nat.le_refl _)) _).setCell (.inr (Nat.le_refl _)) _⟩
        rw [← HE.out]
        exact HPA.out

/-- The words behind the commit word. -/
def segN (xs : List Int) (m : Nat) : List Int := (List.range m).map fun k => xs.getD (9 + k) 0

theorem segN_len (xs : List Int) (m : Nat) : (segN xs m).length = m := by simp [segN]
theorem segN_getElem (xs : List Int) (m k : Nat) (h : k < m) : (segN xs m)[k]'(by rw [segN_len]; exact h) = xs.getD (9 + k) 0 := by simp [segN]
theorem segN_get (xs : List Int) (m k : Nat) (h : k < m) : (segN xs m).getD k 0 = xs.getD (9 + k) 0 := by simp [segN, List.getD_eq_getElem?_getD, h]
theorem segN_u64 {xs : List Int} (h : u64P xs) (m : Nat) : u64P (segN xs m) := by
  intro x hx
  simp only [segN, List.mem_map] at hx
  obtain ⟨k, -, rfl⟩ := hx
  exact u64P_get h _

theorem owns_words (w : World) (n : Nat) (hn : n ≤ 100000) : Owns (w.alloc (.cells (madeCells #[.int .u64 0] n) 40)) (.slice (some ⟨w.heap.size, 0, none⟩) n n) w.heap.size 40 1 n (u64s (List.replicate n 0)) := by
  refine ⟨by simp [u64s], _, n, rfl, Nat.le_refl _, by unfold maxLen; omega, fun _ => ⟨rfl, _, Blk.new _ _ _, by simp [size_madeCells], ?_⟩⟩
  rw [toList_madeCells_one, u64s_zero, List.take_of_length_le (by simp [u64s])]

def LoadedWords (w : World) (ws : List Int) (e : Ending) (w' : World) : Prop :=
  ∃ v g, e = .returned (.tuple #[v, .int .i64 0]) ∧ Reads w' v g (u64s ws) ∧ w.heap.size ≤ g ∧ Keeps [] w w'

set_option maxHeartbeats 1000000 in
theorem pload_at {w : World} {b gn gl gf : Nat} {xs : List Int} {d : Int} (h : PmAt w b gn gl gf (calm xs d)) (m : Nat) (hm : m ≤ 800) (hx : xs.length = 3128) :
    Calls Try.prog 32 #[.pointer (some ⟨b, 0, none⟩), .int .i64 9, .int .i64 (m : Int)] w (LoadedWords w (segN xs m)) := by
  have H := Lib.hid h
  have HX := Lib.hid hx
  have hmk := make_u64 m (by omega) (m : Int) rfl m (.inr rfl) w
  have HO := owns_words w m (by omega)
  rw [show List.replicate m (0 : Int) = fillTo 0 (segN xs m) 0 by rw [fillTo_zero, segN_len]] at HO
  have HO := Lib.hid HO
  generalize madeCells #[Value.int .u64 0] m = mc at *
  clear h hx
  go_enter Try.func32, Try.ntmps32
  go_wp2_with fail
  go_loopg [16] m (fun gh s16 wx => ∃ k : Nat, k + gh = m ∧ s16 = .int .i64 (k : Int) ∧
    Hid (Owns wx (.slice (some ⟨w.heap.size, 0, none⟩) m m) w.heap.size 40 1 m (u64s (fillTo 0 (segN xs m) k)) ∧ Keeps [] w wx))
  case atStart => exact ⟨0, by omega, rfl, HO.out, (Keeps.refl _ _).alloc _⟩
  case round =>
    obtain ⟨k, hk, rfl, HR⟩ := hrel
    cases gk with
    | zero =>
      obtain rfl : k = m := by omega
      have hlt : ¬ (k : Int) < (k : Int) := by omega
      have HMP : Hid (LoadedWords w (segN xs k) (.returned (.tuple #[.slice (some ⟨w.heap.size, 0, none⟩) k k, .int .i64 0])) wr) := by
        obtain ⟨ho, hkp⟩ := HR.out
        have e : fillTo 0 (segN xs k) k = segN xs k := by
          have := fillTo_all (0 : Int) (segN xs k)
          rw [segN_len] at this
          exact this
        rw [e] at ho
        exact ⟨_, _, rfl, ho.reads, Nat.le_refl _, hkp⟩
      go_wp2_with fail
      go_ret2
      exact HMP.out
    | succ gg =>
      have hlt : (k : Int) < (m : Int) := by omega
      have HL := Lib.hid (load_calm (H.out.keep HR.out.2 (by simp) (by simp)) (9 + (k : Int)) (by omega) (by rw [HX.out]; omega))
      rw [show (9 + (k : Int)).toNat = 9 + k by omega] at HL
      have hl := fillTo_len (0 : Int) (segN xs m) k (by rw [segN_len]; omega)
      rw [segN_len] at hl
      obtain ⟨-, -, hc, hf⟩ := HR.out.1.cell (by omega)
      have d0 := (hc k (by omega)).trans (u64s_get (l := fillTo 0 (segN xs m) k) (by omega))
      have f0 := hf k
      have HE := Lib.hid (fillTo_succ (0 : Int) (segN xs m) k (by rw [segN_len]; omega) _ (segN_getElem xs m k (by omega)))
      generalize (fillTo 0 (segN xs m) k).getD k 0 = o1 at *
      have HP := HR.out.1.set k (.int .u64 (xs.getD (9 + k) 0))
      rw [u64s_set] at HP
      have HP := Lib.hid HP
      have HKP := Lib.hid HR.out.2
      generalize xs.getD (9 + k) 0 = x at *
      clear hc hf hl HR
      go_wp2_with (go_at_call 23; refine HL.out.mono ?_; rintro e w' ⟨rfl, rfl⟩)
      go_roundg gg
      case measure => omega
      case rel =>
        refine ⟨k + 1, by omega, by go_num, ?_, HKP.out.setCell (.inr (Nat.le_refl _)) _⟩
        rw [← HE.out]
        exact HP.out

end Go.Proofs.Ytopljfbgbiipiaa
