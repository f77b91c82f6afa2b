/-
  Layer 1 (pmem): Flush, Crash.
-/
import Derived.Test.YtopljfbgbiipiaaPmB
import Derived.RegionTactic
namespace Go.Proofs.Ytopljfbgbiipiaa
open Go.RowKit

theorem PmAt.mark {w : World} {b gn gl gf : Nat} {s : PmS} (h : PmAt w b gn gl gf s) (hn : s.now.length ≠ 0) (j : Nat) (x : Bool) :
    PmAt (w.setCell ⟨gf, j, none⟩ (.bool x)) b gn gl gf { s with fl := s.fl.set j x } := by
  obtain ⟨n9, ll, fll, ap, vn, vl, vf, a, c, d, e⟩ := h
  obtain ⟨⟨p1, p2, p3⟩, p4, p5, p6⟩ := ap hn
  have hk : Keeps [gf] w (w.setCell ⟨gf, j, none⟩ (.bool x)) := (Keeps.refl _ _).setCell (by simp) _
  refine ⟨n9, ll, by simpa using fll, ap, vn, vl, vf, a.keep hk (by simpa using Ne.symm p3), c.keep hk (by simpa using p5), d.keep hk (by simpa using p6), ?_⟩
  simpa [bools_set] using e.set j (.bool x)

def flTo (fl : List Bool) (q k : Nat) : List Bool := fl.mapIdx fun j x => if q * 8 ≤ j ∧ j < q * 8 + k then true else x

theorem flTo_zero (fl : List Bool) (q : Nat) : flTo fl q 0 = fl := by
  apply List.ext_getElem?
  intro j
  simp only [flTo, List.getElem?_mapIdx]
  cases fl[j]? <;> simp
  omega

theorem flTo_succ (fl : List Bool) (q k : Nat) : (flTo fl q k).set (q * 8 + k) true = flTo fl q (k + 1) := by
  apply List.ext_getElem?
  intro j
  simp only [flTo, List.getElem?_set, List.getElem?_mapIdx, List.length_mapIdx]
  by_cases hj : q * 8 + k = j
  · subst hj
    by_cases hl : q * 8 + k < fl.length
    · simp [hl]
    · simp [hl]
  · rw [if_neg hj]
    cases fl[j]? with
    | none => simp
    | some x =>
      simp only [Option.map_some, Option.some.injEq]
      by_cases h1 : q * 8 ≤ j ∧ j < q * 8 + k
      · rw [if_pos h1, if_pos ⟨h1.1, by omega⟩]
      · rw [if_neg h1, if_neg (by omega)]

theorem flTo_len (fl : List Bool) (q k : Nat) : (flTo fl q k).length = fl.length := by simp [flTo]

def PmS.flush (s : PmS) (i : Int) : PmS := if s.refusal i = 0 then { s.count with fl := flTo s.fl (i.toNat / 8) 8 } else s

set_option maxHeartbeats 1000000 in
theorem flush_at {w : World} {b gn gl gf : Nat} {s : PmS} (h : PmAt w b gn gl gf s) (hf : s.fit) (i : Int) :
    Calls Try.prog 47 #[.pointer (some ⟨b, 0, none⟩), .int .i64 i] w fun e w' => e = .returned (.int .i64 (s.refusal i)) ∧ PmAt w' b gn gl gf (s.flush i) ∧ Keeps [b, gn, gl, gf] w w' := by
  have hr := Lib.hid (refusal_at h i)
  by_cases h0 : s.refusal i = 0
  · obtain ⟨hg, i0, i1⟩ := PmS.refusal_ok h0
    rw [PmS.flush, if_pos h0]
    obtain ⟨i, rfl⟩ := Int.eq_ofNat_of_zero_le i0
    rw [h0] at hr ⊢
    have hn9 := h.n9
    have hc := Lib.hid (count_at h hf hg)
    clear h0 h hf
    go_enter Try.func47, Try.ntmps47
    go_wp2_with fail
    refine hr.out.mono ?_; rintro e w' ⟨rfl, rfl⟩
    go_wp2_with fail
    refine hc.out.mono ?_; rintro e w1 ⟨rfl, h, hk⟩
    obtain ⟨vn, vl, vf, a, c, d, e⟩ := h.at_
    have ec : s.count.now.length = s.now.length := rfl
    obtain ⟨-, ⟨cf, rfl, r1, r2⟩, -, -⟩ := e.cell (by omega)
    have k0 : w1.cell? ⟨b, 2, none⟩ = some (.slice (some ⟨gf, 0, none⟩) ((s.now.length + 7) / 8) cf) := by rw [a.cell]; rfl
    have H := Lib.hid h
    have HK := Lib.hid hk
    clear a c d e h hk ec
    go_wp2_with fail
    go_loopw [23] (fun c wr => ∃ k : Nat, k ≤ 8 ∧ c = .int .i64 (k : Int) ∧ PmAt wr b gn gl gf { s.count with fl := flTo s.fl (i / 8) k } ∧ Keeps [b, gn, gl, gf] w wr) (fun c _ => 8 - (intOf c).toNat)
    case atStart => exact ⟨0, by omega, rfl, by rw [flTo_zero]; exact H.out, HK.out.mono (by simp)⟩
    case round =>
      obtain ⟨k, hk8, rfl, hp, hkp⟩ := hrel
      by_cases hlt : k < 8
      · have hs := Lib.hid (hp.mark (show s.now.length ≠ 0 by omega) (i / 8 * 8 + k) true)
        obtain ⟨vn', vl', vf', a, c, d, e⟩ := hp.at_
        have ec : ({ s.count with fl := flTo s.fl (i / 8) k } : PmS).now.length = s.now.length := rfl
        obtain ⟨-, -, r3, r4⟩ := e.cell (by omega)
        have k1 : wr.cell? ⟨gf, i / 8 * 8 + k, none⟩ = some (.bool ((flTo s.fl (i / 8) k).getD (i / 8 * 8 + k) false)) := by
          have := hp.fll
          rw [r3 _ (by omega), bools_get (by rw [this]; omega)]
        have k2 : wr.frozen? ⟨gf, i / 8 * 8 + k, none⟩ = false := r4 _
        have HKP := Lib.hid hkp
        clear a c d e r3 r4 hp hkp ec k0
        generalize (flTo s.fl (i / 8) k).getD (i / 8 * 8 + k) false = y at *
        go_wp2
        go_roundw
        case rel =>
          refine ⟨k + 1, by omega, by go_num, ?_, HKP.out.setCell (by simp) _⟩
          rw [← flTo_succ]
          exact hs.out
        case measure => simp [intOf]; omega
      · obtain rfl : k = 8 := by omega
        have HP := Lib.hid hp
        have HKP := Lib.hid hkp
        clear hp hkp
        go_wp2
        go_ret
        exact ⟨rfl, HP.out, HKP.out⟩
  · rw [PmS.flush, if_neg h0]
    have h1 : (s.refusal i != 0) = true := by simpa using h0
    have H := Lib.hid h
    generalize s.refusal i = r at *
    clear h h0
    go_enter Try.func47, Try.ntmps47
    go_wp2_with (go_at_call 39; refine hr.out.mono ?_; rintro e w' ⟨rfl, rfl⟩)
    go_ret
    exact ⟨rfl, H.out, Keeps.refl _ _⟩

/-- What a crash leaves, word by word; k dirty words lie ahead. -/
def crashM (ks : List Int) : List Int → List Int → Nat → List Int
  | a :: l, b :: m, k => if a = b then a :: crashM ks l m k else (if keptB ks k = true then a else b) :: crashM ks l m (k + 1)
  | _, _, _ => []

theorem crashM_len (ks : List Int) : ∀ (l m : List Int) (k : Nat), l.length = m.length → (crashM ks l m k).length = l.length
  | [], _, k, _ => by simp [crashM]
  | a :: l, [], k, h => by simp at h
  | a :: l, b :: m, k, h => by
    simp only [crashM]
    split
    · simp [crashM_len ks l m k (by simpa using h)]
    · simp [crashM_len ks l m (k + 1) (by simpa using h)]

theorem crashM_get (ks : List Int) : ∀ (l m : List Int) (k i : Nat), l.length = m.length → i < l.length →
    (crashM ks l m k).getD i 0 = if l.getD i 0 = m.getD i 0 then l.getD i 0 else if keptB ks (k + dirtyN (l.take i) (m.take i)) = true then l.getD i 0 else m.getD i 0
  | [], _, k, i, _, h => by simp at h
  | a :: l, [], k, i, h, _ => by simp at h
  | a :: l, b :: m, k, 0, h, _ => by
    simp only [crashM, List.take_zero, dirtyN, List.getD_cons_zero, Nat.add_zero]
    split <;> simp
  | a :: l, b :: m, k, i + 1, h, hi => by
    simp only [crashM, List.take_succ_cons, dirtyN, List.getD_cons_succ]
    split
    · rw [List.getD_cons_succ, crashM_get ks l m k i (by simpa using h) (by simpa using hi)]
      simp
    · rw [List.getD_cons_succ, crashM_get ks l m (k + 1) i (by simpa using h) (by simpa using hi)]
      rw [show k + 1 + dirtyN (l.take i) (m.take i) = k + (1 + dirtyN (l.take i) (m.take i)) by omega]

/-- The first i words by c, the others by l. -/
def mix (c l : List Int) (i : Nat) : List Int := c.take i ++ l.drop i

theorem mix_zero (c l : List Int) : mix c l 0 = l := by simp [mix]
theorem mix_all (c l : List Int) (i : Nat) (h1 : c.length ≤ i) (h2 : l.length ≤ i) : mix c l i = c := by simp [mix, List.take_of_length_le h1, List.drop_of_length_le h2]
theorem mix_len (c l : List Int) (i : Nat) (h : c.length = l.length) : (mix c l i).length = l.length := by
  simp [mix]; omega
theorem mix_get (c l : List Int) (i j : Nat) (h : c.length = l.length) (hi : i ≤ l.length) : (mix c l i).getD j 0 = if j < i then c.getD j 0 else l.getD j 0 := by
  simp only [mix, List.getD_eq_getElem?_getD, List.getElem?_append, List.length_take, List.getElem?_take, List.getElem?_drop]
  by_cases hj : j < i
  · rw [if_pos (by omega), if_pos hj, if_pos hj]
  · rw [if_neg (by omega), if_neg hj, show i + (j - min i c.length) = j by omega]
theorem mix_succ (c l : List Int) (i : Nat) (h : c.length = l.length) (hi : i < l.length) : mix c l (i + 1) = (mix c l i).set i (c.getD i 0) := by
  apply List.ext_getElem?
  intro j
  simp only [mix, List.getElem?_set, List.getElem?_append, List.length_take, List.getElem?_take, List.getElem?_drop, List.length_append, List.length_drop, List.getD_eq_getElem?_getD]
  by_cases hj : i = j
  · subst hj
    have hc : i < c.length := by omega
    simp [hc]
    rw [if_pos (by omega), if_pos (by omega)]
  · rw [if_neg hj]
    by_cases h1 : j < i
    · rw [if_pos (by omega), if_pos (by omega), if_pos (by omega), if_pos (by omega)]
    · rw [if_neg (by omega), if_neg (by omega)]
      congr 1; omega

theorem PmAt.setNow {w : World} {b gn gl gf : Nat} {s : PmS} (h : PmAt w b gn gl gf s) (hn : s.now.length ≠ 0) (j : Nat) (x : Int) :
    PmAt (w.setCell ⟨gn, j, none⟩ (.int .u64 x)) b gn gl gf { s with now := s.now.set j x } := by
  obtain ⟨n9, ll, fll, ap, vn, vl, vf, a, c, d, e⟩ := h
  obtain ⟨⟨p1, p2, p3⟩, p4, p5, p6⟩ := ap hn
  have hk : Keeps [gn] w (w.setCell ⟨gn, j, none⟩ (.int .u64 x)) := (Keeps.refl _ _).setCell (by simp) _
  refine ⟨by simpa using n9, by simpa using ll, by simpa using fll, by simpa using ap, vn, vl, vf, a.keep hk (by simpa using Ne.symm p1), ?_, ?_, ?_⟩
  · simpa [u64s_set] using c.set j (.int .u64 x)
  · simpa using d.keep hk (by simpa using Ne.symm p4)
  · simpa using e.keep hk (by simpa using Ne.symm p5)

theorem PmAt.setLast {w : World} {b gn gl gf : Nat} {s : PmS} (h : PmAt w b gn gl gf s) (hn : s.now.length ≠ 0) (j : Nat) (x : Int) :
    PmAt (w.setCell ⟨gl, j, none⟩ (.int .u64 x)) b gn gl gf { s with last := s.last.set j x } := by
  obtain ⟨n9, ll, fll, ap, vn, vl, vf, a, c, d, e⟩ := h
  obtain ⟨⟨p1, p2, p3⟩, p4, p5, p6⟩ := ap hn
  have hk : Keeps [gl] w (w.setCell ⟨gl, j, none⟩ (.int .u64 x)) := (Keeps.refl _ _).setCell (by simp) _
  refine ⟨n9, by simpa using ll, fll, ap, vn, vl, vf, a.keep hk (by simpa using Ne.symm p2), c.keep hk (by simpa using p4), ?_, e.keep hk (by simpa using Ne.symm p6)⟩
  simpa [u64s_set] using d.set j (.int .u64 x)

theorem PmAt.drew {w : World} {b gn gl gf : Nat} {s : PmS} (h : PmAt w b gn gl gf s) : PmAt w.drew b gn gl gf s :=
  h.keep ((Keeps.refl [] w).drew) (by simp) (by simp)


theorem zero_marks (w : World) : (zeroValue 75).run Try.prog w = .ok (.agg (Array.replicate 8 (.bool false))) w := by kernel_rfl

theorem zeroCells_bools (n : Nat) : (Builtin.zeroCells (Value.agg (Array.replicate 8 (.bool false))).cells n).toList = bools (List.replicate (n * 8) false) := by
  apply List.ext_getElem?
  intro j
  simp only [Builtin.zeroCells, Value.cells, bools, List.map_replicate, Array.size_replicate, Array.toList_map, Array.toList_range, List.getElem?_map, List.getElem?_replicate]
  by_cases hj : j < n * 8
  · have h8 : j % 8 < 8 := Nat.mod_lt _ (by omega)
    rw [List.getElem?_range hj]
    simp [hj, h8]
  · rw [List.getElem?_eq_none (by simpa using hj)]
    simp [hj]

theorem bools_one (l : List Bool) : ∀ u ∈ bools l, u.oneCell' = true := by
  intro u hu
  simp only [bools, List.mem_map] at hu
  obtain ⟨x, -, rfl⟩ := hu
  rfl

/-- clear(p.flushed): all marks go. -/
theorem PmAt.clear {w : World} {b gn gl gf : Nat} {s : PmS} (h : PmAt w b gn gl gf s) :
    ∃ vf w', w.cell? ⟨b, 2, none⟩ = some vf ∧ (∀ ty, (Builtin.clear_ #[61] ty #[vf]).run Try.prog w = .ok (.tuple #[]) w') ∧
      PmAt w' b gn gl gf { s with fl := List.replicate s.fl.length false } ∧ Keeps [b, gn, gl, gf] w w' := by
  obtain ⟨n9, ll, fll, ap, vn, vl, vf, a, c, d, e⟩ := h
  obtain ⟨w', h1, h2, h3⟩ := run_clear_owns (P := Try.prog) (ty := 0) Try.underlying61 zero_marks rfl (by rw [zeroCells_bools]; exact bools_one _) e
  rw [zeroCells_bools, ← fll] at h2
  refine ⟨vf, w', by rw [a.cell]; rfl, fun ty => ?_, ⟨n9, ll, by simpa using fll, ap, vn, vl, vf, ?_, ?_, ?_, ?_⟩, h3.mono (by simp)⟩
  · exact h1
  · by_cases hn : s.now.length = 0
    · obtain ⟨a1, c1, e1, _, _⟩ := e.val
      have : w' = w := by
        have hz : (s.now.length + 7) / 8 = 0 := by omega
        rw [e1, hz] at h1
        have h4 : (Builtin.clear_ #[61] 0 #[.slice a1 0 c1]).run Try.prog w = .ok (.tuple #[]) w := by
          cases a1 <;> simp [Builtin.clear_, run_underlying Try.underlying61]
        rw [h4] at h1
        exact (Result.ok.inj h1).2.symm
      rw [this]; exact a
    · exact a.keep h3 (by simpa using Ne.symm (ap hn).1.2.2)
  · exact c.keepIf h3 fun h => by simpa using (ap h).2.2.1
  · exact d.keepIf h3 fun h => by simpa using (ap h).2.2.2
  · exact h2

end Go.Proofs.Ytopljfbgbiipiaa
