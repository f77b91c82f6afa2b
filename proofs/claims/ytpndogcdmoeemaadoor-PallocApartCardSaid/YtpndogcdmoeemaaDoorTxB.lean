/-
  Layer 4 (tx): New, Words.
-/
import Derived.Test.YtpndogcdmoeemaaDoorTxA
import Derived.Laws.CopyRow
import Derived.Laws.IdiomCopy
import Derived.Laws.Tables
namespace Go.Proofs.YtpndogcdmoeemaaDoor
open Go.RowKit

/-- What a new sheet is made of. -/
def zcSheet : Array Value := shCells (padW []) (padW []) (.slice none 0 0)

theorem zero_sheet (w : World) : (zeroValue 53).run Tryd.prog w = .ok (.agg zcSheet) w := by kernel_rfl
theorem size_words : (Tryd.prog.info? 50).map (·.size) = some 3128 := by kernel_rfl
theorem size_u64 : (Tryd.prog.info? 22).map (·.size) = some 1 := by kernel_rfl

theorem shCells_toList (B X : List Int) (vp : Value) : (shCells B X vp).toList = u64s B ++ (u64s X ++ [vp]) := rfl

theorem load_beneath {w : World} {b : Nat} {B X : List Int} {vp : Value} (hb : Blk w b (shCells B X vp) 53) (lb : B.length = 3128) :
    (loadVar 50 ⟨b, 0, none⟩).run Tryd.prog w = .ok (.agg (u64s B).toArray) w := by
  refine run_loadVar_cells b 0 (u64s B) Tryd.underlying50 rfl (by rw [u64s_len, lb]; exact size_words) fun j hj => ?_
  rw [u64s_len] at hj
  rw [Nat.zero_add, hb.cell, shCells_0 _ _ hj, u64s_get hj]

theorem load_words {w : World} {b : Nat} {B X : List Int} {vp : Value} (hb : Blk w b (shCells B X vp) 53) (lb : B.length = 3128) (lx : X.length = 3128) :
    (loadVar 50 ⟨b, 3128, none⟩).run Tryd.prog w = .ok (.agg (u64s X).toArray) w := by
  refine run_loadVar_cells b 3128 (u64s X) Tryd.underlying50 rfl (by rw [u64s_len, lx]; exact size_words) fun j hj => ?_
  rw [u64s_len] at hj
  rw [hb.cell, shCells_1 _ lb hj, u64s_get hj]

theorem setRow_blk {w : World} {b T : Nat} {c c' : Array Value} (h : Blk w b c T) : Blk (w.setRow b c') b c' T := setRow_heap w b c c' T _ h

theorem store_words {w : World} {b : Nat} {B X : List Int} {vp : Value} (hb : Blk w b (shCells B X vp) 53) (lb : B.length = 3128) (lx : X.length = 3128) (Y : List Int) (ly : Y.length = 3128) :
    ∃ w', (storeVar 50 ⟨b, 3128, none⟩ (.agg (u64s Y).toArray)).run Tryd.prog w = .ok () w' ∧ Blk w' b (shCells B Y vp) 53 ∧ Keeps [b] w w' := by
  refine ⟨_, run_storeVar_cells b 3128 (u64s Y) _ (by rw [u64s_len, ly]; exact size_words) hb (by rw [shCells_size, u64s_len]; omega) (u64s_one Y), ?_, (Keeps.refl _ _).setRow (by simp) _⟩
  have e : ((shCells B X vp).toList.take 3128 ++ u64s Y ++ (shCells B X vp).toList.drop (3128 + (u64s Y).length)).toArray = shCells B Y vp := by
    rw [shCells_toList, List.take_left' (by rw [u64s_len, lb]), ← List.drop_drop, List.drop_left' (by rw [u64s_len, lb]), List.drop_left' (by rw [u64s_len, u64s_len, lx, ly]), List.append_assoc]
    rfl
  rw [e]
  exact setRow_blk hb

theorem padW_cells (ws : List Int) : u64s (padW ws) = (u64s ws).take 3128 ++ (u64s (padW [])).drop ((u64s ws).take 3128).length := by
  apply List.ext_getElem?
  intro j
  have hl : ((u64s ws).take 3128).length = min 3128 ws.length := by rw [List.length_take, u64s_len]
  by_cases hj : j < 3128
  · rw [u64s_get (by rw [padW_len]; exact hj), padW_get, if_pos hj]
    by_cases h2 : j < ws.length
    · rw [List.getElem?_append_left (by rw [hl]; omega), List.getElem?_take, if_pos hj, u64s_get h2]
    · rw [List.getElem?_append_right (by rw [hl]; omega), List.getElem?_drop, hl, u64s_get (by rw [padW_len]; omega), padW_get]
      have : ws.getD j 0 = 0 := by rw [List.getD_eq_getElem?_getD, List.getElem?_eq_none (by omega)]; rfl
      rw [this, if_pos (by omega)]
      rfl
  · rw [List.getElem?_eq_none (by rw [u64s_len, padW_len]; omega), List.getElem?_eq_none]
    rw [List.length_append, List.length_drop, hl, u64s_len, padW_len]
    omega

/-- copy(s.beneath[:], words), of a sheet of noughts. -/
theorem copy_beneath {w : World} {b : Nat} {v : Value} {g : Nat} {ws : List Int} (hb : Blk w b zcSheet 53) (h : Reads w v g (u64s ws)) :
    ∃ n w', (∀ ty, (Builtin.copy_ #[41, 41] ty #[.slice (some ⟨b, 0, none⟩) 3128 3128, v]).run Tryd.prog w = .ok n w') ∧ Blk w' b (shCells (padW ws) (padW []) (.slice none 0 0)) 53 ∧ Keeps [b] w w' := by
  obtain ⟨a, cap, rfl, h1, h2, h3⟩ := h
  rw [u64s_len] at *
  by_cases h0 : ws.length = 0
  · obtain rfl : ws = [] := List.eq_nil_of_length_eq_zero h0
    exact ⟨_, w, fun ty => run_copy_none (P := Tryd.prog) w 41 41 ty 22 _ a 3128 3128 0 cap Tryd.underlying41 size_u64 (by simp), hb, Keeps.refl _ _⟩
  · obtain ⟨hg, off, rfl, hc⟩ := h3 (by intro e; have := congrArg List.length e; rw [u64s_len, List.length_nil] at this; omega)
    have hl : ((u64s ws).take 3128).length = min ws.length 3128 := by rw [List.length_take, u64s_len, Nat.min_comm]
    have hs : zcSheet.size = 6257 := by rw [zcSheet, shCells_size, padW_len]
    refine ⟨_, _, fun ty => run_copy_row (P := Tryd.prog) w 41 41 ty 22 b 0 3128 3128 ⟨g, off, none⟩ ws.length cap zcSheet 53 ((u64s ws).take 3128) Tryd.underlying41 size_u64 hb hl ?_ ?_ ?_, ?_, (Keeps.refl _ _).setRow (by simp) _⟩
    · intro j u hu
      rw [List.getElem?_take] at hu
      split at hu
      · have hj : j < (u64s ws).length := (List.getElem?_eq_some_iff.1 hu).1
        rw [u64s_len] at hj
        rw [add_plain, hc j hj, hu]
      · cases hu
    · rw [hl, hs]; omega
    · exact fun u hu => u64s_one ws u (List.mem_of_mem_take hu)
    · have e : (zcSheet.toList.take 0 ++ (u64s ws).take 3128 ++ zcSheet.toList.drop (0 + ((u64s ws).take 3128).length)).toArray = shCells (padW ws) (padW []) (.slice none 0 0) := by
        rw [zcSheet, shCells_toList, List.take_zero, List.nil_append, Nat.zero_add, List.drop_append_of_le_length (by rw [hl, u64s_len, padW_len]; omega), ← List.append_assoc, ← padW_cells]
        rfl
      rw [e]
      exact setRow_blk hb

def MadeSheet (w : World) (B : List Int) (e : Ending) (w' : World) : Prop :=
  ∃ b, e = .returned (.pointer (some ⟨b, 0, none⟩)) ∧ w.heap.size ≤ b ∧ ShAt w' b b B [] ∧ Keeps [] w w'

set_option maxHeartbeats 1000000 in
theorem txNew_at {w : World} {v : Value} {g : Nat} {ws : List Int} (h : Reads w v g (u64s ws)) :
    Calls Tryd.prog 13 #[v] w (MadeSheet w (padW ws)) := by
  have hnew : Blk (w.alloc (.cells zcSheet 53)) w.heap.size zcSheet 53 := Blk.new w _ _
  have hk0 : Keeps [] w (w.alloc (.cells zcSheet 53)) := (Keeps.refl _ _).alloc _
  obtain ⟨n, w1, hr1, hb1, hk1⟩ := copy_beneath hnew (h.keep hk0 (by simp))
  have hl1 := load_beneath hb1 (padW_len ws)
  obtain ⟨w2, hr2, hb2, hk2⟩ := store_words hb1 (padW_len ws) (padW_len []) (padW ws) (padW_len ws)
  have HM : Hid (MadeSheet w (padW ws) (.returned (.pointer (some ⟨w.heap.size, 0, none⟩))) w2) := by
    refine ⟨_, rfl, Nat.le_refl _, ⟨⟨padW_len ws, padW_len ws, _, hb2, ⟨rfl, .inl ⟨rfl, rfl⟩⟩, by intro k hk; cases hk⟩, inP_nil _⟩, ?_⟩
    exact (hk0.trans hk1 (by simp)).trans hk2 (by simp)
  have HR1 := Lib.hid hr1
  have HR2 := Lib.hid hr2
  have HL1 := Lib.hid hl1
  obtain ⟨a, cap, rfl, -, -, -⟩ := h
  clear hnew hk0 hr1 hb1 hk1 hl1 hr2 hb2 hk2
  generalize (u64s (padW ws)).toArray = Y at *
  have hbu := zero_sheet
  generalize zcSheet = Z at *
  go_enter Tryd.func13, Tryd.ntmps13
  go_wp2_with (first | ((with_reducible show wpList _ _ _ (⟨some 11, _, _, _, _, _⟩ :: _) _ _); refine wpList_copy_any rfl (.tmp 9) (.tmp 10) 41 41 rfl _ _ rfl rfl (HR1.out _) ?_) | ((with_reducible show wpList _ _ _ (⟨_, .load 50 (.tmp 15), _, _, _, _⟩ :: _) _ _); refine wpList_load_any rfl 50 (.tmp 15) rfl _ rfl _ HL1.out ?_) | ((with_reducible show wpList _ _ _ (⟨_, .store 50 (.tmp 18) (.tmp 16), _, _, _, _⟩ :: _) _ _); refine wpList_store_any rfl 50 (.tmp 18) (.tmp 16) rfl _ rfl _ rfl _ HR2.out ?_))
  go_ret
  exact HM.out

end Go.Proofs.YtpndogcdmoeemaaDoor
