/-
  Layer 5: the laws' sheet.
-/
import Derived.Test.YtpndogcdmoeemaaDoorPaF
namespace Go.Proofs.YtpndogcdmoeemaaDoor
open Go.RowKit

/-- The words under the laws' sheet, as they are laid: p words of the bits, ones up to q. -/
def laidX (ws : List Nat) (p q : Nat) : List Int := (List.range 3128).map fun j => if 816 ≤ j ∧ j < 816 + p then ((ws.getD (j - 816) 0 : Nat) : Int) else if 1080 ≤ j ∧ j < q then 1 else 0

theorem laidX_len (ws : List Nat) (p q : Nat) : (laidX ws p q).length = 3128 := by simp [laidX]

theorem laidX_get (ws : List Nat) (p q j : Nat) (hj : j < 3128) : (laidX ws p q).getD j 0 = if 816 ≤ j ∧ j < 816 + p then ((ws.getD (j - 816) 0 : Nat) : Int) else if 1080 ≤ j ∧ j < q then 1 else 0 := by
  rw [laidX, List.getD_eq_getElem?_getD, List.getElem?_map, List.getElem?_range hj]
  rfl

theorem ext_getD {l m : List Int} (hl : l.length = 3128) (hm : m.length = 3128) (h : ∀ j, j < 3128 → l.getD j 0 = m.getD j 0) : l = m := by
  apply List.ext_getElem (by rw [hl, hm])
  intro j h1 h2
  have := h j (by omega)
  simpa [List.getD_eq_getElem?_getD, h1, h2] using this

def zerosM : List Int := List.replicate 3128 0

theorem laidX_zero (ws : List Nat) : zerosM = laidX ws 0 1080 := by
  refine ext_getD List.length_replicate (laidX_len _ _ _) fun j hj => ?_
  rw [laidX_get _ _ _ _ hj, if_neg (by omega), if_neg (by omega), zerosM, List.getD_eq_getElem?_getD, List.getElem?_replicate, if_pos hj]
  rfl

theorem laidX_word (ws : List Nat) (p : Nat) (hp : p < 4) : (laidX ws p 1080).set (816 + p) ((ws.getD p 0 : Nat) : Int) = laidX ws (p + 1) 1080 := by
  refine ext_getD (by rw [List.length_set, laidX_len]) (laidX_len _ _ _) fun j hj => ?_
  rw [getD_setI _ _ _ _ (by rw [laidX_len]; omega), laidX_get _ _ _ _ hj, laidX_get _ _ _ _ hj]
  by_cases e : 816 + p = j
  · subst e
    rw [if_pos rfl, if_pos (by omega), Nat.add_sub_cancel_left]
  · rw [if_neg e]
    by_cases e2 : 816 ≤ j ∧ j < 816 + p
    · rw [if_pos e2, if_pos (by omega)]
    · rw [if_neg e2, if_neg (by omega), if_neg (by omega)]

theorem laidX_one (ws : List Nat) (q : Nat) (h0 : 1080 ≤ q) (hq : q < 3128) : (laidX ws 4 q).set q 1 = laidX ws 4 (q + 1) := by
  refine ext_getD (by rw [List.length_set, laidX_len]) (laidX_len _ _ _) fun j hj => ?_
  rw [getD_setI _ _ _ _ (by rw [laidX_len]; omega), laidX_get _ _ _ _ hj, laidX_get _ _ _ _ hj]
  by_cases e : q = j
  · subst e
    rw [if_pos rfl, if_neg (by omega), if_pos (by omega)]
  · rw [if_neg e]
    by_cases e2 : 816 ≤ j ∧ j < 816 + 4
    · rw [if_pos e2, if_pos e2]
    · rw [if_neg e2, if_neg e2]
      by_cases e3 : 1080 ≤ j ∧ j < q
      · rw [if_pos e3, if_pos (by omega)]
      · rw [if_neg e3, if_neg (by omega)]

/-- The words under the laws' sheet. -/
def sheetW (ws : List Nat) : List Int := laidX ws 4 3128

theorem sheetW_pad (ws : List Nat) : padW (sheetW ws) = sheetW ws := by
  unfold padW sheetW
  rw [laidX_len, List.take_of_length_le (by rw [laidX_len]; omega), Nat.sub_self, List.replicate_zero, List.append_nil]

theorem sheetW_64 (ws : List Nat) (h : ∀ i, ws.getD i 0 < 18446744073709551616) : In64 (sheetW ws) := by
  intro j
  by_cases hj : j < 3128
  · unfold sheetW
    rw [laidX_get _ _ _ _ hj]
    split
    · have := h (j - 816); omega
    · split <;> omega
  · rw [List.getD_eq_getElem?_getD, List.getElem?_eq_none (by rw [sheetW, laidX_len]; omega)]
    simp

theorem sheetW_bits (ws : List Nat) (k : Nat) (hk : k < 4) : bw (sheetW ws) k = ws.getD k 0 := by
  unfold bw sheetW
  rw [laidX_get _ _ _ _ (by omega), if_pos (by omega), Nat.add_sub_cancel_left, Int.toNat_natCast]

theorem owns_wordsM (w : World) (n : Nat) (hn : n ≤ 100000) : Owns (w.alloc (.cells (madeCells #[.int .u64 0] n) 22)) (.slice (some ⟨w.heap.size, 0, none⟩) n n) w.heap.size 22 1 n (u64s (List.replicate n 0)) := by
  refine ⟨by simp [u64s], _, n, rfl, Nat.le_refl _, by unfold maxLen; omega, fun _ => ⟨rfl, _, Blk.new _ _ _, by simp [size_madeCells], ?_⟩⟩
  rw [toList_madeCells_one, u64s_zero, List.take_of_length_le (by simp [u64s])]

theorem make_zeroW (w : World) : ∃ mc, (Instr.makeSlice 41 (.int .i64 3128) (.int .i64 3128)).run Tryd.prog w = .ok (.slice (some ⟨w.heap.size, 0, none⟩) 3128 3128) (w.alloc (.cells mc 22)) ∧
    Owns (w.alloc (.cells mc 22)) (.slice (some ⟨w.heap.size, 0, none⟩) 3128 3128) w.heap.size 22 1 3128 (u64s zerosM) :=
  ⟨_, make_u64 3128 (by omega) 3128 rfl 3128 (.inr rfl) w, owns_wordsM w 3128 (by omega)⟩

/-- Four words, as an array has them. -/
def w4 (ws : List Nat) : Array Value := #[.int .u64 ((ws.getD 0 0 : Nat) : Int), .int .u64 ((ws.getD 1 0 : Nat) : Int), .int .u64 ((ws.getD 2 0 : Nat) : Int), .int .u64 ((ws.getD 3 0 : Nat) : Int)]

theorem w4_get (ws : List Nat) (k : Nat) (hk : k < 4) : (w4 ws)[k]? = some (.int .u64 ((ws.getD k 0 : Nat) : Int)) := by
  rcases (show k = 0 ∨ k = 1 ∨ k = 2 ∨ k = 3 by omega) with rfl | rfl | rfl | rfl <;> rfl

set_option maxRecDepth 100000 in
set_option maxHeartbeats 4000000 in
theorem sheet_at (ws : List Nat) (w : World) : Calls Tryd.prog 6 #[.agg (w4 ws)] w (MadeSheet w (sheetW ws)) := by
  have hcell := fun k hk => w4_get ws k hk
  have HC := Lib.hid hcell
  clear hcell
  generalize w4 ws = Z at *
  obtain ⟨mc, hmk, hoz⟩ := make_zeroW (w.alloc (.cells Z 23))
  have hz : (w.alloc (.cells Z 23)).heap.size = w.heap.size + 1 := by simp
  rw [hz] at hmk hoz
  have HO := Lib.hid hoz
  have HB : Hid (Blk ((w.alloc (.cells Z 23)).alloc (.cells mc 22)) w.heap.size Z 23) := (Blk.new w Z _).alloc _
  have HK : Hid (Keeps [] w ((w.alloc (.cells Z 23)).alloc (.cells mc 22))) := ((Keeps.refl [] w).alloc _).alloc _
  clear hoz hz
  go_enter Tryd.func6, Tryd.ntmps6
  go_wp2_with fail
  clear hmk
  go_loopg [4] 4 (fun gh s4 wx => ∃ k : Nat, k + gh = 4 ∧ s4 = .int .i64 (k : Int) ∧ Hid (Owns wx (.slice (some ⟨w.heap.size + 1, 0, none⟩) 3128 3128) (w.heap.size + 1) 22 1 3128 (u64s (laidX ws k 1080)) ∧ Blk wx w.heap.size Z 23 ∧ Keeps [] w wx))
  case atStart => exact ⟨0, by omega, rfl, by rw [← laidX_zero]; exact HO.out, HB.out, HK.out⟩
  case round =>
    clear HO HB HK
    obtain ⟨k, hk, rfl, HR⟩ := hrel
    cases gk with
    | zero =>
      obtain rfl : k = 4 := by omega
      clear hk
      go_wp2_with fail
      go_loopg [5] 2048 (fun gh s5 wx => ∃ k : Nat, k + gh = 3128 ∧ 1080 ≤ k ∧ s5 = .int .i64 (k : Int) ∧ Hid (Owns wx (.slice (some ⟨w.heap.size + 1, 0, none⟩) 3128 3128) (w.heap.size + 1) 22 1 3128 (u64s (laidX ws 4 k)) ∧ Keeps [] w wx))
      case atStart => exact ⟨1080, by omega, by omega, rfl, HR.out.1, HR.out.2.2⟩
      case round =>
        clear HR
        obtain ⟨k, hk, hk7, rfl, HR⟩ := hrel
        cases gk with
        | zero =>
          obtain rfl : k = 3128 := by omega
          have HN := Lib.hid (txNew_at (HR.out.1.reads))
          have HKP := Lib.hid HR.out.2
          clear hk HR
          go_wp2_with fail
          refine HN.out.mono ?_; rintro e w1 ⟨b, rfl, h1, h2, h3⟩
          have HM : Hid (MadeSheet w (sheetW ws) (.returned (.pointer (some ⟨b, 0, none⟩))) w1) := by
            have h2' : ShAt w1 b b (padW (sheetW ws)) [] := h2
            rw [sheetW_pad] at h2'
            exact ⟨b, rfl, Nat.le_trans HKP.out.size h1, h2', HKP.out.trans h3 (by simp)⟩
          clear h1 h2 h3
          go_wp2_with fail
          go_ret
          exact HM.out
        | succ gg =>
          have hk1 : k < 3128 := by omega
          have hlt : (k : Int) < 3128 := by omega
          have hk0 : (0 : Int) ≤ (k : Int) := by omega
          obtain ⟨ho, hkp⟩ := HR.out
          obtain ⟨-, hc, hf⟩ := u64s_getO ho (laidX_len _ _ _) hk1
          have HS : Hid (Owns (wr.setCell ⟨w.heap.size + 1, k, none⟩ (.int .u64 1)) (.slice (some ⟨w.heap.size + 1, 0, none⟩) 3128 3128) (w.heap.size + 1) 22 1 3128 (u64s (laidX ws 4 (k + 1)))) := by
            show Owns _ _ _ _ _ _ _
            rw [← laidX_one ws k hk7 hk1]
            exact ho.set64 k 1
          have HKP := Lib.hid hkp
          clear ho hkp HR
          go_wp2_with fail
          go_roundg gg
          case measure => omega
          case rel => exact ⟨k + 1, by omega, by omega, by go_num, HS.out, HKP.out.setCell (by simp) _⟩
    | succ gg =>
      have hk4 : k < 4 := by omega
      have hlt : (k : Int) < 4 := by omega
      have hk0 : (0 : Int) ≤ (k : Int) := by omega
      obtain ⟨ho, hb, hkp⟩ := HR.out
      obtain ⟨-, hc, hf⟩ := u64s_getO ho (laidX_len _ _ _) (show 816 + k < 3128 by omega)
      have c0 : wr.cell? ⟨w.heap.size, k, none⟩ = some (.int .u64 ((ws.getD k 0 : Nat) : Int)) := by rw [hb.cell, HC.out k hk4]
      have HS : Hid (Owns (wr.setCell ⟨w.heap.size + 1, 816 + k, none⟩ (.int .u64 ((ws.getD k 0 : Nat) : Int))) (.slice (some ⟨w.heap.size + 1, 0, none⟩) 3128 3128) (w.heap.size + 1) 22 1 3128 (u64s (laidX ws (k + 1) 1080))) := by
        show Owns _ _ _ _ _ _ _
        rw [← laidX_word ws k hk4]
        exact ho.set64 _ _
      have HBN : Hid (Blk (wr.setCell ⟨w.heap.size + 1, 816 + k, none⟩ (.int .u64 ((ws.getD k 0 : Nat) : Int))) w.heap.size Z 23) := hb.other (by simp) _
      have HKP := Lib.hid hkp
      clear ho hb hkp HR
      generalize (laidX ws k 1080).getD (816 + k) 0 = old at *
      generalize ws.getD k 0 = x at *
      go_wp2_with fail
      go_roundg gg
      case measure => omega
      case rel => exact ⟨k + 1, by omega, by go_num, HS.out, HBN.out, HKP.out.setCell (by simp) _⟩

end Go.Proofs.YtpndogcdmoeemaaDoor
