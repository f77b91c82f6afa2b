/-
  Layer 1 (pmem): Load, Store, kept, Dirty.
-/
import Derived.Test.YtopljfbgbiipiaaPm
namespace Go.Proofs.Ytopljfbgbiipiaa
open Go.RowKit

def PmS.load (s : PmS) (i : Int) : Int := if s.refusal i = 0 then s.now.getD i.toNat 0 else 0
def PmS.store (s : PmS) (i x : Int) : PmS := if s.refusal i = 0 then { s.count with now := s.now.set i.toNat x, fl := s.fl.set i.toNat false } else s

theorem PmS.refusal_ok {s : PmS} {i : Int} (h : s.refusal i = 0) : s.gone = false ∧ 0 ≤ i ∧ i < s.now.length := by
  unfold PmS.refusal at h
  cases hg : s.gone <;> simp [hg] at h
  exact ⟨rfl, by omega, by omega⟩

theorem PmS.refusal_no {s : PmS} {i : Int} (h : s.refusal i ≠ 0) : s.refusal i = 1 ∨ s.refusal i = 9 := by
  unfold PmS.refusal at *
  split <;> simp_all

set_option maxHeartbeats 400000 in
theorem load_at {w : World} {b gn gl gf : Nat} {s : PmS} (h : PmAt w b gn gl gf s) (i : Int) :
    Calls Try.prog 23 #[.pointer (some ⟨b, 0, none⟩), .int .i64 i] w fun e w' => e = .returned (.tuple #[.int .u64 (s.load i), .int .i64 (s.refusal i)]) ∧ w = w' := by
  have hr := Lib.hid (refusal_at h i)
  by_cases h0 : s.refusal i = 0
  · obtain ⟨-, i0, i1⟩ := PmS.refusal_ok h0
    obtain ⟨i, rfl⟩ := Int.eq_ofNat_of_zero_le i0
    have hn9 := h.n9
    obtain ⟨vn, vl, vf, a, c, -, -⟩ := h.at_
    obtain ⟨-, ⟨cn, rfl, q1, q2⟩, q3, -⟩ := c.cell (by omega)
    have k0 : w.cell? ⟨b, 0, none⟩ = some (.slice (some ⟨gn, 0, none⟩) s.now.length cn) := by rw [a.cell]; rfl
    have k1 : w.cell? ⟨gn, i, none⟩ = some (.int .u64 (s.load (i : Int))) := by rw [q3 i (by omega), u64s_get (by omega), PmS.load, if_pos h0]; rfl
    clear a c q3 h
    rw [h0] at hr ⊢
    clear h0
    generalize s.load i = x at *
    generalize s.now.length = n at *
    go_enter Try.func23, Try.ntmps23
    go_wp2_with (go_at_call 39; refine hr.out.mono ?_; rintro e w' ⟨rfl, rfl⟩)
    go_ret2
    exact ⟨rfl, rfl⟩
  · have hx : s.load i = 0 := by rw [PmS.load, if_neg h0]
    rw [hx]
    have h1 : (s.refusal i != 0) = true := by simpa using h0
    generalize s.refusal i = r at *
    clear h hx h0
    go_enter Try.func23, Try.ntmps23
    go_wp2_with (go_at_call 39; refine hr.out.mono ?_; rintro e w' ⟨rfl, rfl⟩)
    go_ret2
    exact ⟨rfl, rfl⟩

theorem PmAt.store {w : World} {b gn gl gf : Nat} {s : PmS} (h : PmAt w b gn gl gf s) (hn : s.now.length ≠ 0) (i : Nat) (x : Int) :
    PmAt ((w.setCell ⟨gn, i, none⟩ (.int .u64 x)).setCell ⟨gf, i, none⟩ (.bool false)) b gn gl gf { s with now := s.now.set i x, fl := s.fl.set i false } := by
  obtain ⟨n9, ll, fll, ap, vn, vl, vf, a, c, d, e⟩ := h
  obtain ⟨⟨p1, p2, p3⟩, p4, p5, p6⟩ := ap hn
  refine ⟨by simpa using n9, by simpa using ll, by simpa using fll, by simpa using ap, vn, vl, vf, ?_, ?_, ?_, ?_⟩
  · exact (a.other (a := ⟨gn, i, none⟩) (Ne.symm p1) _).other (a := ⟨gf, i, none⟩) (Ne.symm p3) _
  · have := (c.set i (.int .u64 x)).keep (((Keeps.refl [gf] _).setCell (p := ⟨gf, i, none⟩) (by simp) (.bool false))) (by simpa using p5)
    simpa [u64s_set] using this
  · have := (d.keep ((Keeps.refl [gn] _).setCell (p := ⟨gn, i, none⟩) (by simp) (.int .u64 x)) (by simpa using Ne.symm p4)).keep (((Keeps.refl [gf] _).setCell (p := ⟨gf, i, none⟩) (by simp) (.bool false))) (by simpa using p6)
    simpa using this
  · have := (e.keep ((Keeps.refl [gn] _).setCell (p := ⟨gn, i, none⟩) (by simp) (.int .u64 x)) (by simpa using Ne.symm p5)).set i (.bool false)
    simpa [bools_set] using this

set_option maxHeartbeats 400000 in
theorem store_at {w : World} {b gn gl gf : Nat} {s : PmS} (h : PmAt w b gn gl gf s) (hf : s.fit) (i x : Int) :
    Calls Try.prog 41 #[.pointer (some ⟨b, 0, none⟩), .int .i64 i, .int .u64 x] w fun e w' => e = .returned (.int .i64 (s.refusal i)) ∧ PmAt w' b gn gl gf (s.store i x) ∧ Keeps [b, gn, gl, gf] w w' := by
  have hr := Lib.hid (refusal_at h i)
  by_cases h0 : s.refusal i = 0
  · obtain ⟨hg, i0, i1⟩ := PmS.refusal_ok h0
    rw [PmS.store, if_pos h0]
    obtain ⟨i, rfl⟩ := Int.eq_ofNat_of_zero_le i0
    rw [h0] at hr ⊢
    have hn9 := h.n9
    have hc := Lib.hid (count_at h hf hg)
    clear h0 h hf
    go_enter Try.func41, Try.ntmps41
    go_wp2_with fail
    refine hr.out.mono ?_; rintro e w' ⟨rfl, rfl⟩
    go_wp2_with fail
    refine hc.out.mono ?_; rintro e w1 ⟨rfl, h, hk⟩
    obtain ⟨vn, vl, vf, a, c, d, e⟩ := h.at_
    have ec : s.count.now.length = s.now.length := rfl
    obtain ⟨-, ⟨cn, rfl, q1, q2⟩, q3, q4⟩ := c.cell (by omega)
    obtain ⟨-, ⟨cf, rfl, r1, r2⟩, r3, r4⟩ := e.cell (by omega)
    have ap := (h.apart (by omega)).2.2.1
    have k0 : w1.cell? ⟨b, 0, none⟩ = some (.slice (some ⟨gn, 0, none⟩) s.now.length cn) := by rw [a.cell]; rfl
    have k1 : w1.cell? ⟨gn, i, none⟩ = some (.int .u64 (s.now.getD i 0)) := by rw [q3 i (by omega), u64s_get (by omega)]; rfl
    have k2 : w1.frozen? ⟨gn, i, none⟩ = false := q4 i
    have k3 : (w1.setCell ⟨gn, i, none⟩ (.int .u64 x)).cell? ⟨b, 2, none⟩ = some (.slice (some ⟨gf, 0, none⟩) ((s.now.length + 7) / 8) cf) := by
      rw [(a.other (a := ⟨gn, i, none⟩) (Ne.symm (h.apart (by omega)).1.1) _).cell]; rfl
    have e8 : i / 8 * 8 + i % 8 = i := by omega
    have k4 : w1.cell? ⟨gf, i / 8 * 8 + i % 8, none⟩ = some (.bool (s.fl.getD i false)) := by
      have := h.fll
      rw [e8, r3 i (by omega), bools_get (by omega)]; rfl
    have k5 : w1.frozen? ⟨gf, i / 8 * 8 + i % 8, none⟩ = false := r4 _
    have hs := h.store (by omega) i x
    have HE := Lib.hid e8
    have HS := Lib.hid hs
    clear a c d e q3 r3 q4 r4 e8 hs
    go_wp2_with fail
    go_ret
    refine ⟨rfl, ?_, ((hk.mono (by simp)).setCell (by simp) _).setCell (by simp) _⟩
    rw [HE.out]
    exact HS.out
  · rw [PmS.store, if_neg h0]
    have h1 : (s.refusal i != 0) = true := by simpa using h0
    have H := Lib.hid h
    generalize s.refusal i = r at *
    clear h h0
    go_enter Try.func41, Try.ntmps41
    go_wp2_with (go_at_call 39; refine hr.out.mono ?_; rintro e w' ⟨rfl, rfl⟩)
    go_ret
    exact ⟨rfl, H.out, Keeps.refl _ _⟩

def u8s (l : List Int) : List Value := l.map (Value.int .u8)
theorem u8s_get {l : List Int} {j : Nat} (h : j < l.length) : (u8s l)[j]? = some (.int .u8 (l.getD j 0)) := by simp [u8s, h]
theorem u8s_len (l : List Int) : (u8s l).length = l.length := by simp [u8s]

def keptB (ks : List Int) (n : Nat) : Bool := decide (0 < ks.length) && (ks.getD (n % ks.length) 0 % 2 == 1)

set_option maxHeartbeats 400000 in
theorem kept_at {w : World} {v : Value} {g : Nat} {ks : List Int} (h : Reads w v g (u8s ks)) (hb : ∀ j, 0 ≤ ks.getD j 0 ∧ ks.getD j 0 ≤ 255) (n : Nat) (hn : n ≤ 10000) :
    Calls Try.prog 35 #[v, .int .i64 (n : Int)] w fun e w' => e = .returned (.bool (keptB ks n)) ∧ w = w' := by
  obtain ⟨a, cap, rfl, h1, h2, h3⟩ := h
  rw [u8s_len] at *
  unfold maxLen at h2
  by_cases h0 : ks.length = 0
  · have e : keptB ks n = false := by simp [keptB, h0]
    rw [e, h0]
    clear h3 hb h1 e h0
    go_enter Try.func35, Try.ntmps35
    go_wp2
    go_ret
    exact ⟨rfl, rfl⟩
  · obtain ⟨hg, off, rfl, hc⟩ := h3 (by intro e; exact h0 (by rw [← u8s_len, e]; rfl))
    have hm : n % ks.length < ks.length := Nat.mod_lt _ (by omega)
    have k1 : w.cell? ⟨g, off + n % ks.length, none⟩ = some (.int .u8 (ks.getD (n % ks.length) 0)) := by rw [hc _ hm, u8s_get hm]
    obtain ⟨b1, b2⟩ := hb (n % ks.length)
    have e : keptB ks n = (ks.getD (n % ks.length) 0 % 2 == 1) := by simp [keptB]; omega
    rw [e]
    clear hc e h3
    generalize ks.getD (n % ks.length) 0 = x at *
    have p1 : 0 < ks.length := by omega
    generalize ks.length = m at *
    clear h0
    go_enter Try.func35, Try.ntmps35
    go_wp2
    go_ret
    exact ⟨rfl, rfl⟩

/-- How many of the words differ from what lasts. -/
def dirtyN : List Int → List Int → Nat
  | a :: l, b :: m => (if a = b then 0 else 1) + dirtyN l m
  | _, _ => 0

theorem dirtyN_le : ∀ (l m : List Int), dirtyN l m ≤ l.length
  | [], _ => by simp [dirtyN]
  | _ :: _, [] => by simp [dirtyN]
  | a :: l, b :: m => by
    have := dirtyN_le l m
    simp only [dirtyN, List.length_cons]
    split <;> omega

theorem dirtyN_take : ∀ (l m : List Int) (k : Nat), k < l.length → l.length = m.length → dirtyN (l.take (k + 1)) (m.take (k + 1)) = dirtyN (l.take k) (m.take k) + if l.getD k 0 = m.getD k 0 then 0 else 1
  | [], _, k, h, _ => by simp at h
  | a :: l, [], k, _, h => by simp at h
  | a :: l, b :: m, 0, _, _ => by simp [dirtyN]
  | a :: l, b :: m, k + 1, h, e => by
    have := dirtyN_take l m k (by simpa using h) (by simpa using e)
    simp only [List.take_succ_cons, dirtyN] at *
    simp only [List.getD_cons_succ]
    omega

theorem PmAt.drewN {w : World} {b gn gl gf : Nat} {s : PmS} (h : PmAt w b gn gl gf s) (n : Nat) : PmAt (w.drewN n) b gn gl gf s :=
  h.keep ((Keeps.refl [] w).drewN n) (by simp) (by simp)

def PmS.dirtyN (s : PmS) : Nat := Go.Proofs.Ytopljfbgbiipiaa.dirtyN s.now s.last

theorem drewN_drewN (w : World) (m n : Nat) : (w.drewN m).drewN n = w.drewN (m + n) := by simp [World.drewN, Nat.add_assoc]

set_option maxHeartbeats 1000000 in
theorem Dirty_at {w : World} {b gn gl gf : Nat} {s : PmS} (h : PmAt w b gn gl gf s) :
    Calls Try.prog 14 #[.pointer (some ⟨b, 0, none⟩)] w fun e w' => e = .returned (.int .i64 (s.dirtyN : Int)) ∧ ∃ n, w' = w.drewN n := by
  have hn9 := h.n9
  have hll := Lib.hid h.ll
  obtain ⟨vn, vl, vf, a, c, -, -⟩ := h.at_
  obtain ⟨an, cn, rfl, _, _⟩ := c.val
  have h0 : w.cell? ⟨b, 0, none⟩ = some (.slice an s.now.length cn) := by rw [a.cell]; rfl
  have H := Lib.hid h
  clear a c h
  go_enter Try.func14, Try.ntmps14
  go_wp2
  go_loopw [3, 10] (fun c i wr => ∃ k m : Nat, k ≤ s.now.length ∧ i = .int .i64 (k : Int) ∧ c = .int .i64 (dirtyN (s.now.take k) (s.last.take k) : Int) ∧ wr = w.drewN m) (fun _ i _ => s.now.length - (intOf i).toNat)
  case atStart => exact ⟨0, 0, Nat.zero_le _, rfl, by simp [dirtyN], rfl⟩
  case round =>
    obtain ⟨k, m, hk, rfl, rfl, rfl⟩ := hrel
    have hd := dirtyN_le (s.now.take k) (s.last.take k)
    have hl : (s.now.take k).length ≤ k := List.length_take_le _ _
    by_cases hlt : k < s.now.length
    · have HD := Lib.hid (dirty_at (H.out.drewN m) k hlt)
      have HT := Lib.hid (dirtyN_take s.now s.last k hlt hll.out.symm)
      by_cases hx : s.now.getD k 0 = s.last.getD k 0
      · have e1 : (s.now.getD k 0 != s.last.getD k 0) = false := by simpa using hx
        rw [e1] at HD
        rw [if_pos hx] at HT
        clear hx e1
        go_wp2_with (go_at_call 34; refine HD.out.mono ?_; rintro e w' ⟨rfl, m', rfl⟩)
        go_roundw
        case rel => exact ⟨k + 1, m + m', by omega, by go_num, by rw [HT.out]; go_num, rfl⟩
        case measure => simp [intOf]; omega
      · have e1 : (s.now.getD k 0 != s.last.getD k 0) = true := by simpa using hx
        rw [e1] at HD
        rw [if_neg hx] at HT
        clear hx e1
        go_wp2_with (go_at_call 34; refine HD.out.mono ?_; rintro e w' ⟨rfl, m', rfl⟩)
        go_roundw
        case rel => exact ⟨k + 1, m + m', by omega, by go_num, by rw [HT.out]; go_num, rfl⟩
        case measure => simp [intOf]; omega
    · have hke : k = s.now.length := by omega
      have HL := Lib.hid (show dirtyN (s.now.take k) (s.last.take k) = s.dirtyN by rw [PmS.dirtyN, List.take_of_length_le (by omega), List.take_of_length_le (by rw [hll.out]; omega)])
      clear hke
      go_wp2
      go_ret
      exact ⟨by rw [HL.out]; rfl, m, rfl⟩

end Go.Proofs.Ytopljfbgbiipiaa
