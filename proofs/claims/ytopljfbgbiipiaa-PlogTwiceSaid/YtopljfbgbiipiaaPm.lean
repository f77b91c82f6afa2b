/-
  Layer 1 (pmem): the memory as plain lists ('PmS'), where it lies ('PmAt'), and what the small calls do to it.
-/
import Derived.Test.YtopljfbgbiipiaaRows
import Derived.Test.YtopljfbgbiipiaaHeap
import Derived.WalkLawsBesides
import Derived.BigQuiet
namespace Go.Proofs.Ytopljfbgbiipiaa
open Go.RowKit

structure PmS where
  now : List Int
  last : List Int
  fl : List Bool
  deeds : Int
  fused : Bool
  left : Int

def u64s (l : List Int) : List Value := l.map (Value.int .u64)
def bools (l : List Bool) : List Value := l.map Value.bool

theorem u64s_get {l : List Int} {j : Nat} (h : j < l.length) : (u64s l)[j]? = some (.int .u64 (l.getD j 0)) := by simp [u64s, h]
theorem bools_get {l : List Bool} {j : Nat} (h : j < l.length) : (bools l)[j]? = some (.bool (l.getD j false)) := by simp [bools, h]
theorem u64s_set (l : List Int) (j : Nat) (x : Int) : (u64s l).set j (.int .u64 x) = u64s (l.set j x) := by simp [u64s, List.map_set]
theorem bools_set (l : List Bool) (j : Nat) (x : Bool) : (bools l).set j (.bool x) = bools (l.set j x) := by simp [bools, List.map_set]
theorem u64s_len (l : List Int) : (u64s l).length = l.length := by simp [u64s]
theorem bools_len (l : List Bool) : (bools l).length = l.length := by simp [bools]

/-- The memory s lies at block b, its words in gn, what lasts in gl, its marks in gf. -/
structure PmAt (w : World) (b gn gl gf : Nat) (s : PmS) : Prop where
  n9 : s.now.length ≤ 10000
  ll : s.last.length = s.now.length
  fll : s.fl.length = (s.now.length + 7) / 8 * 8
  apart : s.now.length ≠ 0 → (gn ≠ b ∧ gl ≠ b ∧ gf ≠ b) ∧ gn ≠ gl ∧ gn ≠ gf ∧ gl ≠ gf
  at_ : ∃ vn vl vf, Blk w b #[vn, vl, vf, .int .i64 s.deeds, .bool s.fused, .int .i64 s.left] 63 ∧
    Owns w vn gn 40 1 s.now.length (u64s s.now) ∧ Owns w vl gl 40 1 s.now.length (u64s s.last) ∧
    Owns w vf gf 75 8 ((s.now.length + 7) / 8) (bools s.fl)

theorem PmAt.keep {w w' : World} {b gn gl gf : Nat} {s : PmS} (h : PmAt w b gn gl gf s) {l : List Nat} (hk : Keeps l w w') (hb : b ∉ l) (hn : s.now.length ≠ 0 → gn ∉ l ∧ gl ∉ l ∧ gf ∉ l) : PmAt w' b gn gl gf s := by
  obtain ⟨n9, ll, fll, ap, vn, vl, vf, a, c, d, e⟩ := h
  exact ⟨n9, ll, fll, ap, vn, vl, vf, a.keep hk hb, c.keepIf hk fun h => (hn h).1, d.keepIf hk fun h => (hn h).2.1, e.keepIf hk fun h => (hn (by omega)).2.2⟩

def PmS.gone (s : PmS) : Bool := s.fused && s.left == 0
def PmS.refusal (s : PmS) (i : Int) : Int := if s.gone = true then 9 else if i < 0 ∨ (s.now.length : Int) ≤ i then 1 else 0
def PmS.count (s : PmS) : PmS := { s with deeds := s.deeds + 1, left := if s.fused = true then s.left - 1 else s.left }

/-- No counter is about to wrap. -/
def PmS.fit (s : PmS) : Prop := 0 ≤ s.deeds ∧ s.deeds < 4611686018427387904 ∧ 0 ≤ s.left ∧ s.left ≤ 9223372036854775807

set_option maxHeartbeats 400000 in
theorem gone_any (b : Nat) (fused : Bool) (left : Int) (w : World)
    (h4 : w.cell? ⟨b, 4, none⟩ = some (.bool fused)) (h5 : w.cell? ⟨b, 5, none⟩ = some (.int .i64 left)) :
    Calls Try.prog 45 #[.pointer (some ⟨b, 0, none⟩)] w fun e w' => e = .returned (.bool (fused && left == 0)) ∧ w = w' := by
  cases fused
  · go_enter Try.func45, Try.ntmps45
    go_wp2
    go_ret
    exact ⟨rfl, rfl⟩
  · go_enter Try.func45, Try.ntmps45
    go_wp2
    go_ret
    exact ⟨rfl, rfl⟩

theorem gone_at {w : World} {b gn gl gf : Nat} {s : PmS} (h : PmAt w b gn gl gf s) :
    Calls Try.prog 45 #[.pointer (some ⟨b, 0, none⟩)] w fun e w' => e = .returned (.bool s.gone) ∧ w = w' := by
  obtain ⟨vn, vl, vf, a, c, d, e⟩ := h.at_
  exact gone_any b s.fused s.left w (by rw [a.cell]; rfl) (by rw [a.cell]; rfl)

set_option maxHeartbeats 400000 in
theorem refusal_at {w : World} {b gn gl gf : Nat} {s : PmS} (h : PmAt w b gn gl gf s) (i : Int) :
    Calls Try.prog 39 #[.pointer (some ⟨b, 0, none⟩), .int .i64 i] w fun e w' => e = .returned (.int .i64 (s.refusal i)) ∧ w = w' := by
  have hg := gone_at h
  have hn9 := h.n9
  obtain ⟨vn, vl, vf, a, c, d, e⟩ := h.at_
  obtain ⟨an, cn, rfl, _, _⟩ := c.val
  have h0 : w.cell? ⟨b, 0, none⟩ = some (.slice an s.now.length cn) := by rw [a.cell]; rfl
  clear a c d e h
  unfold PmS.refusal
  generalize s.gone = g at *
  generalize s.now.length = n at *
  have HG := Lib.hid hg
  clear hg
  cases g
  · by_cases h1 : i < 0
    · rw [if_neg (by simp), if_pos (.inl h1)]
      go_enter Try.func39, Try.ntmps39
      go_wp2_with (go_at_call 45; refine HG.out.mono ?_; rintro e w' ⟨rfl, rfl⟩)
      go_ret
      exact ⟨rfl, rfl⟩
    · by_cases h2 : (n : Int) ≤ i
      · rw [if_neg (by simp), if_pos (.inr h2)]
        have d1 : decide (i < 0) = false := by simpa using h1
        go_enter Try.func39, Try.ntmps39
        go_wp2_with (go_at_call 45; refine HG.out.mono ?_; rintro e w' ⟨rfl, rfl⟩)
        go_ret
        exact ⟨rfl, rfl⟩
      · rw [if_neg (by simp), if_neg (by omega)]
        have d1 : decide (i < 0) = false := by simpa using h1
        go_enter Try.func39, Try.ntmps39
        go_wp2_with (go_at_call 45; refine HG.out.mono ?_; rintro e w' ⟨rfl, rfl⟩)
        go_ret
        exact ⟨rfl, rfl⟩
  · rw [if_pos rfl]
    go_enter Try.func39, Try.ntmps39
    go_wp2_with (go_at_call 45; refine HG.out.mono ?_; rintro e w' ⟨rfl, rfl⟩)
    go_ret
    exact ⟨rfl, rfl⟩

set_option maxHeartbeats 400000 in
theorem len_at {w : World} {b gn gl gf : Nat} {s : PmS} (h : PmAt w b gn gl gf s) :
    Calls Try.prog 24 #[.pointer (some ⟨b, 0, none⟩)] w fun e w' => e = .returned (.int .i64 (s.now.length : Int)) ∧ w = w' := by
  obtain ⟨vn, vl, vf, a, c, d, e⟩ := h.at_
  obtain ⟨an, cn, rfl, _, _⟩ := c.val
  have h0 : w.cell? ⟨b, 0, none⟩ = some (.slice an s.now.length cn) := by rw [a.cell]; rfl
  clear a c d e h
  generalize s.now.length = n at *
  go_enter Try.func24, Try.ntmps24
  go_wp2
  go_ret
  exact ⟨rfl, rfl⟩

set_option maxHeartbeats 400000 in
theorem deeds_at {w : World} {b gn gl gf : Nat} {s : PmS} (h : PmAt w b gn gl gf s) :
    Calls Try.prog 16 #[.pointer (some ⟨b, 0, none⟩)] w fun e w' => e = .returned (.int .i64 s.deeds) ∧ w = w' := by
  obtain ⟨vn, vl, vf, a, c, d, e⟩ := h.at_
  have h0 : w.cell? ⟨b, 3, none⟩ = some (.int .i64 s.deeds) := by rw [a.cell]; rfl
  clear a c d e h
  go_enter Try.func16, Try.ntmps16
  go_wp2
  go_ret
  exact ⟨rfl, rfl⟩

/-- The six cells of the struct, some of them written. -/
theorem PmAt.six {w w' : World} {b gn gl gf : Nat} {s s' : PmS} (h : PmAt w b gn gl gf s) (hk : Keeps [b] w w')
    (hs : s'.now = s.now ∧ s'.last = s.last ∧ s'.fl = s.fl)
    (hb : ∀ vn vl vf, Blk w b #[vn, vl, vf, .int .i64 s.deeds, .bool s.fused, .int .i64 s.left] 63 → Blk w' b #[vn, vl, vf, .int .i64 s'.deeds, .bool s'.fused, .int .i64 s'.left] 63) : PmAt w' b gn gl gf s' := by
  obtain ⟨n9, ll, fll, ap, vn, vl, vf, a, c, d, e⟩ := h
  obtain ⟨e1, e2, e3⟩ := hs
  refine ⟨by rw [e1]; exact n9, by rw [e1, e2]; exact ll, by rw [e1, e3]; exact fll, by rw [e1]; exact ap, vn, vl, vf, hb _ _ _ a, ?_, ?_, ?_⟩
  · rw [e1]; exact c.keepIf hk fun h => by simpa using (ap h).1.1
  · rw [e1, e2]; exact d.keepIf hk fun h => by simpa using (ap h).1.2.1
  · rw [e1, e3]; exact e.keepIf hk fun h => by simpa using (ap (by omega)).1.2.2

set_option maxHeartbeats 400000 in
theorem count_at {w : World} {b gn gl gf : Nat} {s : PmS} (h : PmAt w b gn gl gf s) (hf : s.fit) (hg : s.gone = false) :
    Calls Try.prog 46 #[.pointer (some ⟨b, 0, none⟩)] w fun e w' => e = .returned (.tuple #[]) ∧ PmAt w' b gn gl gf s.count ∧ Keeps [b] w w' := by
  obtain ⟨f1, f2, f3, f4⟩ := hf
  obtain ⟨vn, vl, vf, a, -, -, -⟩ := h.at_
  have h3 : w.cell? ⟨b, 3, none⟩ = some (.int .i64 s.deeds) := by rw [a.cell]; rfl
  have h4 : w.cell? ⟨b, 4, none⟩ = some (.bool s.fused) := by rw [a.cell]; rfl
  have h5 : w.cell? ⟨b, 5, none⟩ = some (.int .i64 s.left) := by rw [a.cell]; rfl
  have g3 : w.frozen? ⟨b, 3, none⟩ = false := a.frozen 3
  have g5 : w.frozen? ⟨b, 5, none⟩ = false := a.frozen 5
  clear a vn vl vf
  have H := Lib.hid h
  clear h
  have HG := Lib.hid hg
  clear hg
  cases hfu : s.fused
  · rw [hfu] at h4
    have HF := Lib.hid hfu
    clear hfu
    go_enter Try.func46, Try.ntmps46
    go_wp2
    go_end0
    have hk : Keeps [b] w (w.setCell ⟨b, 3, none⟩ (.int .i64 (s.deeds + 1))) := (Keeps.refl _ _).setCell (by simp) _
    refine ⟨rfl, H.out.six hk ⟨rfl, rfl, rfl⟩ fun vn vl vf a => ?_, hk⟩
    simpa [PmS.count, HF.out] using a.set 3 (.int .i64 (s.deeds + 1))
  · rw [hfu] at h4
    have hl : s.left ≠ 0 := by
      intro e
      have := HG.out
      simp [PmS.gone, hfu, e] at this
    have HF := Lib.hid hfu
    clear hfu
    go_enter Try.func46, Try.ntmps46
    go_wp2
    go_end0
    have hk : Keeps [b] w ((w.setCell ⟨b, 3, none⟩ (.int .i64 (s.deeds + 1))).setCell ⟨b, 5, none⟩ (.int .i64 (s.left - 1))) := ((Keeps.refl _ _).setCell (by simp) _).setCell (by simp) _
    refine ⟨rfl, H.out.six hk ⟨rfl, rfl, rfl⟩ fun vn vl vf a => ?_, hk⟩
    simpa [PmS.count, HF.out] using (a.set 3 (.int .i64 (s.deeds + 1))).set 5 (.int .i64 (s.left - 1))

set_option maxHeartbeats 400000 in
theorem dirty_at {w : World} {b gn gl gf : Nat} {s : PmS} (h : PmAt w b gn gl gf s) (i : Nat) (hi : i < s.now.length) :
    Calls Try.prog 34 #[.pointer (some ⟨b, 0, none⟩), .int .i64 (i : Int)] w fun e w' => e = .returned (.bool (s.now.getD i 0 != s.last.getD i 0)) ∧ ∃ n, w' = w.drewN n := by
  have hn9 := h.n9
  have hll := h.ll
  obtain ⟨vn, vl, vf, a, c, d, -⟩ := h.at_
  obtain ⟨-, ⟨cn, rfl, q1, q2⟩, q3, -⟩ := c.cell (by omega)
  obtain ⟨-, ⟨cl, rfl, q4, q5⟩, q6, -⟩ := d.cell (by omega)
  have h0 : w.cell? ⟨b, 0, none⟩ = some (.slice (some ⟨gn, 0, none⟩) s.now.length cn) := by rw [a.cell]; rfl
  have h1 : w.cell? ⟨b, 1, none⟩ = some (.slice (some ⟨gl, 0, none⟩) s.now.length cl) := by rw [a.cell]; rfl
  have k0 : w.cell? ⟨gn, i, none⟩ = some (.int .u64 (s.now.getD i 0)) := by rw [q3 i (by omega), u64s_get hi]
  have k1 : w.cell? ⟨gl, i, none⟩ = some (.int .u64 (s.last.getD i 0)) := by rw [q6 i (by omega), u64s_get (by omega)]
  clear a c d q3 q6 h hll
  generalize s.now.getD i 0 = x at *
  generalize s.last.getD i 0 = y at *
  generalize s.now.length = n at *
  have b1 : (0 : Int) ≤ (i : Int) := by omega
  have b2 : (i : Int) < (n : Int) := by omega
  go_enter Try.func34, Try.ntmps34
  go_wp2
  go_quiet (fail)
  go_wp2
  go_ret
  exact ⟨rfl, _, rfl⟩

end Go.Proofs.Ytopljfbgbiipiaa
