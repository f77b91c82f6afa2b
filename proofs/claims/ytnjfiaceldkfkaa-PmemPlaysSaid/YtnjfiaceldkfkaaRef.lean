/-
  Layer 1's reference: imagoref01.PM as plain lists, where it lies; Dirty, crash.
-/
import Derived.Test.YtnjfiaceldkfkaaPmL2
import Derived.StillTailTactics
namespace Go.Proofs.Ytnjfiaceldkfkaa
open Go.RowKit

structure RefS where
  now : List Int
  last : List Int
  fl : List Bool
  deeds : Int
  fuse : Int

structure RefAt (w : World) (b gn gl gf : Nat) (s : RefS) : Prop where
  n9 : s.now.length ≤ 10000
  ll : s.last.length = s.now.length
  fll : s.fl.length = s.now.length
  apart : s.now.length ≠ 0 → (gn ≠ b ∧ gl ≠ b ∧ gf ≠ b) ∧ gn ≠ gl ∧ gn ≠ gf ∧ gl ≠ gf
  at_ : ∃ vn vl vf, Blk w b #[vn, vl, vf, .int .i64 s.deeds, .int .i64 s.fuse] 48 ∧
    Owns w vn gn 31 1 s.now.length (u64s s.now) ∧ Owns w vl gl 31 1 s.now.length (u64s s.last) ∧
    Owns w vf gf 4 1 s.now.length (bools s.fl)

theorem RefAt.keep {w w' : World} {b gn gl gf : Nat} {s : RefS} (h : RefAt w b gn gl gf s) {l : List Nat} (hk : Keeps l w w') (hb : b ∉ l) (hn : s.now.length ≠ 0 → gn ∉ l ∧ gl ∉ l ∧ gf ∉ l) : RefAt w' b gn gl gf s := by
  obtain ⟨n9, ll, fll, ap, vn, vl, vf, a, c, d, e⟩ := h
  exact ⟨n9, ll, fll, ap, vn, vl, vf, a.keep hk hb, c.keepIf hk fun h => (hn h).1, d.keepIf hk fun h => (hn h).2.1, e.keepIf hk fun h => (hn h).2.2⟩

theorem RefAt.drew {w : World} {b gn gl gf : Nat} {s : RefS} (h : RefAt w b gn gl gf s) : RefAt w.drew b gn gl gf s := h.keep ((Keeps.refl [] w).drew) (by simp) (by simp)
theorem RefAt.drewN {w : World} {b gn gl gf : Nat} {s : RefS} (h : RefAt w b gn gl gf s) (n : Nat) : RefAt (w.drewN n) b gn gl gf s := h.keep ((Keeps.refl [] w).drewN n) (by simp) (by simp)

theorem RefAt.five {w w' : World} {b gn gl gf : Nat} {s s' : RefS} (h : RefAt w b gn gl gf s) (hk : Keeps [b] w w') (hs : s'.now = s.now ∧ s'.last = s.last ∧ s'.fl = s.fl)
    (hb : ∀ vn vl vf, Blk w b #[vn, vl, vf, .int .i64 s.deeds, .int .i64 s.fuse] 48 → Blk w' b #[vn, vl, vf, .int .i64 s'.deeds, .int .i64 s'.fuse] 48) : RefAt w' b gn gl gf s' := by
  obtain ⟨n9, ll, fll, ap, vn, vl, vf, a, c, d, e⟩ := h
  obtain ⟨e1, e2, e3⟩ := hs
  refine ⟨by rw [e1]; exact n9, by rw [e1, e2]; exact ll, by rw [e1, e3]; exact fll, by rw [e1]; exact ap, vn, vl, vf, hb _ _ _ a, ?_, ?_, ?_⟩
  · rw [e1]; exact c.keepIf hk fun h => by simpa using (ap h).1.1
  · rw [e1, e2]; exact d.keepIf hk fun h => by simpa using (ap h).1.2.1
  · rw [e1, e3]; exact e.keepIf hk fun h => by simpa using (ap h).1.2.2

theorem RefAt.setNow {w : World} {b gn gl gf : Nat} {s : RefS} (h : RefAt w b gn gl gf s) (hn : s.now.length ≠ 0) (j : Nat) (x : Int) :
    RefAt (w.setCell ⟨gn, j, none⟩ (.int .u64 x)) b gn gl gf { s with now := s.now.set j x } := by
  obtain ⟨n9, ll, fll, ap, vn, vl, vf, a, c, d, e⟩ := h
  obtain ⟨⟨p1, p2, p3⟩, p4, p5, p6⟩ := ap hn
  have hk : Keeps [gn] w (w.setCell ⟨gn, j, none⟩ (.int .u64 x)) := (Keeps.refl _ _).setCell (by simp) _
  refine ⟨by simpa using n9, by simpa using ll, by simpa using fll, by simpa using ap, vn, vl, vf, a.keep hk (by simpa using Ne.symm p1), ?_, ?_, ?_⟩
  · simpa [u64s_set] using c.set j (.int .u64 x)
  · simpa using d.keep hk (by simpa using Ne.symm p4)
  · simpa using e.keep hk (by simpa using Ne.symm p5)

theorem RefAt.setLast {w : World} {b gn gl gf : Nat} {s : RefS} (h : RefAt w b gn gl gf s) (hn : s.now.length ≠ 0) (j : Nat) (x : Int) :
    RefAt (w.setCell ⟨gl, j, none⟩ (.int .u64 x)) b gn gl gf { s with last := s.last.set j x } := by
  obtain ⟨n9, ll, fll, ap, vn, vl, vf, a, c, d, e⟩ := h
  obtain ⟨⟨p1, p2, p3⟩, p4, p5, p6⟩ := ap hn
  have hk : Keeps [gl] w (w.setCell ⟨gl, j, none⟩ (.int .u64 x)) := (Keeps.refl _ _).setCell (by simp) _
  refine ⟨n9, by simpa using ll, fll, ap, vn, vl, vf, a.keep hk (by simpa using Ne.symm p2), c.keep hk (by simpa using p4), ?_, e.keep hk (by simpa using Ne.symm p6)⟩
  simpa [u64s_set] using d.set j (.int .u64 x)

theorem RefAt.setFl {w : World} {b gn gl gf : Nat} {s : RefS} (h : RefAt w b gn gl gf s) (hn : s.now.length ≠ 0) (j : Nat) (x : Bool) :
    RefAt (w.setCell ⟨gf, j, none⟩ (.bool x)) b gn gl gf { s with fl := s.fl.set j x } := by
  obtain ⟨n9, ll, fll, ap, vn, vl, vf, a, c, d, e⟩ := h
  obtain ⟨⟨p1, p2, p3⟩, p4, p5, p6⟩ := ap hn
  have hk : Keeps [gf] w (w.setCell ⟨gf, j, none⟩ (.bool x)) := (Keeps.refl _ _).setCell (by simp) _
  refine ⟨n9, ll, by simpa using fll, ap, vn, vl, vf, a.keep hk (by simpa using Ne.symm p3), c.keep hk (by simpa using p5), d.keep hk (by simpa using p6), ?_⟩
  simpa [bools_set] using e.set j (.bool x)

/-- The cells of the reference's struct and, at k, of its rows. -/
theorem RefAt.cells {w : World} {b gn gl gf : Nat} {s : RefS} (h : RefAt w b gn gl gf s) : ∃ an cn al cl af cf,
    w.cell? ⟨b, 0, none⟩ = some (.slice an s.now.length cn) ∧ w.cell? ⟨b, 1, none⟩ = some (.slice al s.now.length cl) ∧ w.cell? ⟨b, 2, none⟩ = some (.slice af s.now.length cf) ∧
    w.cell? ⟨b, 3, none⟩ = some (.int .i64 s.deeds) ∧ w.cell? ⟨b, 4, none⟩ = some (.int .i64 s.fuse) ∧ (∀ o, w.frozen? ⟨b, o, none⟩ = false) ∧
    (∀ k, k < s.now.length → an = some ⟨gn, 0, none⟩ ∧ al = some ⟨gl, 0, none⟩ ∧ af = some ⟨gf, 0, none⟩ ∧
      w.cell? ⟨gn, k, none⟩ = some (.int .u64 (s.now.getD k 0)) ∧ w.cell? ⟨gl, k, none⟩ = some (.int .u64 (s.last.getD k 0)) ∧ w.cell? ⟨gf, k, none⟩ = some (.bool (s.fl.getD k false)) ∧
      w.frozen? ⟨gn, k, none⟩ = false ∧ w.frozen? ⟨gl, k, none⟩ = false ∧ w.frozen? ⟨gf, k, none⟩ = false) := by
  obtain ⟨n9, ll, fll, ap, vn, vl, vf, a, c, d, e⟩ := h
  obtain ⟨an, cn, rfl, -, -⟩ := c.val
  obtain ⟨al, cl, rfl, -, -⟩ := d.val
  obtain ⟨af, cf, rfl, -, -⟩ := e.val
  refine ⟨an, cn, al, cl, af, cf, by rw [a.cell]; rfl, by rw [a.cell]; rfl, by rw [a.cell]; rfl, by rw [a.cell]; rfl, by rw [a.cell]; rfl, a.frozen, fun k hk => ?_⟩
  obtain ⟨-, ⟨c1, h1, -, -⟩, c3, c4⟩ := c.cell (by omega)
  obtain ⟨-, ⟨d1, h2, -, -⟩, d3, d4⟩ := d.cell (by omega)
  obtain ⟨-, ⟨e1, h3, -, -⟩, e3, e4⟩ := e.cell (by omega)
  refine ⟨(Value.slice.inj h1).1, (Value.slice.inj h2).1, (Value.slice.inj h3).1, ?_, ?_, ?_, c4 k, d4 k, e4 k⟩
  · rw [c3 k (by omega), u64s_get hk]
  · rw [d3 k (by omega), u64s_get (by omega)]
  · rw [e3 k (by omega), bools_get (by omega)]

set_option maxHeartbeats 1000000 in
theorem refDirty_at {w : World} {b gn gl gf : Nat} {s : RefS} (h : RefAt w b gn gl gf s) :
    Calls Try.prog 21 #[.pointer (some ⟨b, 0, none⟩)] w fun e w' => e = .returned (.int .i64 (dirtyN s.now s.last : Int)) ∧ ∃ n, w' = w.drewN n := by
  have hn9 := h.n9
  have HLL := Lib.hid h.ll
  obtain ⟨an, cn, al, cl, af, cf, c0, c1, -, -, -, -, hk⟩ := h.cells
  have HK := Lib.hid hk
  clear hk h
  go_enter Try.func21, Try.ntmps21
  go_wp2
  go_loopg [3, 4] s.now.length (fun g c i wr => ∃ k m : Nat, k + g = s.now.length ∧ i = .int .i64 (k : Int) ∧ c = .int .i64 (dirtyN (s.now.take k) (s.last.take k) : Int) ∧ wr = w.drewN m)
  case atStart => exact ⟨0, 0, by omega, rfl, by simp [dirtyN], rfl⟩
  case round =>
    obtain ⟨k, m, hkg, rfl, rfl, rfl⟩ := hrel
    have hd := dirtyN_le (s.now.take k) (s.last.take k)
    have hl : (s.now.take k).length ≤ k := List.length_take_le _ _
    cases gk with
    | zero =>
      obtain rfl : k = s.now.length := by omega
      have HL := Lib.hid (show dirtyN (s.now.take s.now.length) (s.last.take s.now.length) = dirtyN s.now s.last by rw [List.take_of_length_le (by omega), List.take_of_length_le (by rw [HLL.out]; omega)])
      have hlt : ¬ (s.now.length : Int) < (s.now.length : Int) := by omega
      rw [HL.out]
      clear HL hd
      go_wp2
      go_ret
      exact ⟨rfl, m, rfl⟩
    | succ g =>
      obtain ⟨rfl, rfl, -, k1, k2, -, -, -, -⟩ := HK.out k (by omega)
      have hlt : (k : Int) < (s.now.length : Int) := by omega
      have HT := Lib.hid (dirtyN_take s.now s.last k (by omega) HLL.out.symm)
      generalize s.now.getD k 0 = x at *
      generalize s.last.getD k 0 = y at *
      generalize dirtyN (s.now.take k) (s.last.take k) = dk at *
      by_cases hx : x = y
      · have e1 : (x != y) = false := by simpa using hx
        rw [if_pos hx] at HT
        clear hx
        go_wp2_with fail
        go_quiet (fail)
        go_wp2_with fail
        go_roundg g
        case measure => omega
        case rel => exact ⟨k + 1, _, by omega, by go_num, by rw [HT.out]; go_num, rfl⟩
      · have e1 : (x != y) = true := by simpa using hx
        rw [if_neg hx] at HT
        clear hx
        go_wp2_with fail
        go_quiet (fail)
        go_wp2_with fail
        go_roundg g
        case measure => omega
        case rel => exact ⟨k + 1, _, by omega, by go_num, by rw [HT.out]; go_num, rfl⟩

end Go.Proofs.Ytnjfiaceldkfkaa
