/-
  Layer 4 (tx): where a sheet lies; isPlace, Get.
-/
import Derived.Test.YtpndogcdmoeemaaDoorCelQ
import Derived.Test.YtpndogcdmoeemaaDoorTxM
import Derived.Test.YtpndogcdmoeemaaDoorLaw
import Derived.BigQuiet
namespace Go.Proofs.YtpndogcdmoeemaaDoor
open Go.RowKit

/-- The cells of a sheet: the words beneath, the words, the notes. -/
def shCells (B X : List Int) (vp : Value) : Array Value := (u64s B ++ (u64s X ++ [vp])).toArray

theorem shCells_size (B X : List Int) (vp : Value) : (shCells B X vp).size = B.length + (X.length + 1) := by simp [shCells, u64s_len]

theorem shCells_0 {B : List Int} (X : List Int) (vp : Value) {i : Nat} (h : i < B.length) : (shCells B X vp)[i]? = some (.int .u64 (B.getD i 0)) := by
  rw [shCells, List.getElem?_toArray, List.getElem?_append_left (by rw [u64s_len]; exact h), u64s_get h]

theorem shCells_1 {B X : List Int} (vp : Value) (hb : B.length = 3128) {i : Nat} (h : i < X.length) : (shCells B X vp)[3128 + i]? = some (.int .u64 (X.getD i 0)) := by
  rw [shCells, List.getElem?_toArray, List.getElem?_append_right (by rw [u64s_len]; omega), u64s_len, hb, Nat.add_sub_cancel_left, List.getElem?_append_left (by rw [u64s_len]; exact h), u64s_get h]

theorem shCells_2 {B X : List Int} (vp : Value) (hb : B.length = 3128) (hx : X.length = 3128) : (shCells B X vp)[6256]? = some vp := by
  rw [shCells, List.getElem?_toArray, List.getElem?_append_right (by rw [u64s_len]; omega), u64s_len, hb, List.getElem?_append_right (by rw [u64s_len]; omega), u64s_len, hx]
  rfl

theorem shCells_set1 {B X : List Int} (vp : Value) (hb : B.length = 3128) {i : Nat} (h : i < X.length) (x : Int) : (shCells B X vp).setIfInBounds (3128 + i) (.int .u64 x) = shCells B (X.set i x) vp := by
  unfold shCells
  rw [List.setIfInBounds_toArray, List.set_append_right _ _ (by rw [u64s_len]; omega), u64s_len, hb, Nat.add_sub_cancel_left, List.set_append_left _ _ (by rw [u64s_len]; exact h), u64s_set]

theorem shCells_set2 {B X : List Int} (vp : Value) (hb : B.length = 3128) (hx : X.length = 3128) (v : Value) : (shCells B X vp).setIfInBounds 6256 v = shCells B X v := by
  unfold shCells
  rw [List.setIfInBounds_toArray, List.set_append_right _ _ (by rw [u64s_len]; omega), u64s_len, hb, List.set_append_right _ _ (by rw [u64s_len]; omega), u64s_len, hx]
  rfl

/-- A sheet at block b, its notes in block gp (whatever gp, if there is no list). -/
structure ShRaw (w : World) (b gp : Nat) (B X : List Int) (us : List (Int × Int)) : Prop where
  lb : B.length = 3128
  lx : X.length = 3128
  at_ : ∃ vp, Blk w b (shCells B X vp) 53 ∧ w.ownsRow (b + 1) 58 2 vp us.length (pcells us) ∧ ∀ k, vp.ownBlock = some k → k = gp

/-- A sheet over the words B, on which these puts are left. -/
structure ShAt (w : World) (b gp : Nat) (B : List Int) (ps : List (Int × Int)) : Prop where
  raw : ShRaw w b gp B (putAll B ps) (notesN B ps)
  inp : inP ps 3128

theorem ownsRow_keep {w w' : World} {base T sz n : Nat} {v : Value} {xs : List Value} (h : w.ownsRow base T sz v n xs) {l : List Nat} (hk : Keeps l w w') (hn : ∀ k, v.ownBlock = some k → k ∉ l) : w'.ownsRow base T sz v n xs := by
  obtain ⟨h0, h1⟩ := h
  refine ⟨h0, ?_⟩
  rcases h1 with ⟨rfl, rfl⟩ | ⟨g, cap, cur, rfl, hg, hh, h2, h3, h4, h5⟩
  · exact .inl ⟨rfl, rfl⟩
  · refine .inr ⟨g, cap, cur, rfl, hg, ?_, h2, h3, h4, h5⟩
    rw [← hh]
    exact hk.block g (Array.getElem?_eq_some_iff.1 hh).1 (hn g rfl)

theorem ownsRow_val {w : World} {base T sz n : Nat} {v : Value} {xs : List Value} (h : w.ownsRow base T sz v n xs) : ∃ a cap, v = .slice a n cap ∧ n ≤ cap ∧ cap ≤ maxLen := by
  obtain ⟨g, ho, -⟩ := Owns.of_row h
  exact ho.val

theorem ShRaw.keep {w w' : World} {b gp : Nat} {B X : List Int} {us : List (Int × Int)} (h : ShRaw w b gp B X us) {l : List Nat} (hk : Keeps l w w') (hb : b ∉ l) (hg : gp ∉ l) : ShRaw w' b gp B X us := by
  obtain ⟨lb, lx, vp, h1, h2, h3⟩ := h
  exact ⟨lb, lx, vp, h1.keep hk hb, ownsRow_keep h2 hk fun k e => by rw [h3 k e]; exact hg, h3⟩

theorem ShAt.keep {w w' : World} {b gp : Nat} {B : List Int} {ps : List (Int × Int)} (h : ShAt w b gp B ps) {l : List Nat} (hk : Keeps l w w') (hb : b ∉ l) (hg : gp ∉ l) : ShAt w' b gp B ps :=
  ⟨h.raw.keep hk hb hg, h.inp⟩

theorem ShRaw.lt {w : World} {b gp : Nat} {B X : List Int} {us : List (Int × Int)} (h : ShRaw w b gp B X us) : b < w.heap.size := by
  obtain ⟨lb, lx, vp, h1, h2, h3⟩ := h
  exact h1.lt

theorem ShRaw.cell0 {w : World} {b gp : Nat} {B X : List Int} {us : List (Int × Int)} (h : ShRaw w b gp B X us) {i : Nat} (hi : i < 3128) : w.cell? ⟨b, i, none⟩ = some (.int .u64 (B.getD i 0)) := by
  obtain ⟨lb, lx, vp, h1, h2, h3⟩ := h
  rw [h1.cell, shCells_0 _ _ (by omega)]

theorem ShRaw.cell1 {w : World} {b gp : Nat} {B X : List Int} {us : List (Int × Int)} (h : ShRaw w b gp B X us) {i : Nat} (hi : i < 3128) : w.cell? ⟨b, 3128 + i, none⟩ = some (.int .u64 (X.getD i 0)) := by
  obtain ⟨lb, lx, vp, h1, h2, h3⟩ := h
  rw [h1.cell, shCells_1 _ lb (by omega)]

set_option maxHeartbeats 400000 in
theorem txIsPlace_at (i : Int) (w : World) : Calls Tryd.prog 25 #[.int .i64 i] w fun e w' => e = .returned (.bool (inB i)) ∧ w = w' := by
  by_cases h0 : 0 ≤ i
  · by_cases h1 : i < 3128
    · rw [inB_iff.2 ⟨h0, h1⟩]
      go_enter Tryd.func25, Tryd.ntmps25
      go_wp2
      go_ret
      exact ⟨rfl, rfl⟩
    · rw [show inB i = false by simp [inB]; omega]
      go_enter Tryd.func25, Tryd.ntmps25
      go_wp2
      go_ret
      exact ⟨rfl, rfl⟩
  · rw [show inB i = false by simp [inB]; omega]
    go_enter Tryd.func25, Tryd.ntmps25
    go_wp2
    go_ret
    exact ⟨rfl, rfl⟩

set_option maxHeartbeats 400000 in
theorem txGet_raw {w : World} {b gp : Nat} {B X : List Int} {us : List (Int × Int)} (h : ShRaw w b gp B X us) (i : Int) :
    Calls Tryd.prog 19 #[.pointer (some ⟨b, 0, none⟩), .int .i64 i] w fun e w' => e = .returned (.int .u64 (if inB i = true then X.getD i.toNat 0 else 0)) ∧ w = w' := by
  have HI := Lib.hid (txIsPlace_at i w)
  cases hi : inB i
  · rw [hi] at HI
    rw [if_neg (by simp)]
    clear hi h
    go_enter Tryd.func19, Tryd.ntmps19
    go_wp2_with (go_at_call 25; refine HI.out.mono ?_; rintro e w' ⟨rfl, rfl⟩)
    go_ret
    exact ⟨rfl, rfl⟩
  · rw [hi] at HI
    rw [if_pos rfl]
    obtain ⟨h0, h1⟩ := inB_iff.1 hi
    clear hi
    obtain ⟨i, rfl⟩ := Int.eq_ofNat_of_zero_le h0
    have hc := h.cell1 (i := i) (by omega)
    rw [Int.toNat_natCast]
    generalize X.getD i 0 = x at *
    clear h
    go_enter Tryd.func19, Tryd.ntmps19
    go_wp2_with (go_at_call 25; refine HI.out.mono ?_; rintro e w' ⟨rfl, rfl⟩)
    go_ret
    exact ⟨rfl, rfl⟩

theorem txGet_at {w : World} {b gp : Nat} {B : List Int} {ps : List (Int × Int)} (h : ShAt w b gp B ps) (i : Int) :
    Calls Tryd.prog 19 #[.pointer (some ⟨b, 0, none⟩), .int .i64 i] w fun e w' => e = .returned (.int .u64 (getN B ps i)) ∧ w = w' := by
  have := txGet_raw h.raw i
  rw [show (if inB i = true then (putAll B ps).getD i.toNat 0 else 0) = getN B ps i by unfold getN; simp only [inB_iff]] at this
  exact this

end Go.Proofs.YtpndogcdmoeemaaDoor
