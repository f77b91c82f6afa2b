/-
  Layer 1 (pmem): Fence.
-/
import Derived.Test.YtopljfbgbiipiaaPmD
import Derived.Test.YtopljfbgbiipiaaLaw
namespace Go.Proofs.Ytopljfbgbiipiaa
open Go.RowKit

set_option maxHeartbeats 2000000 in
theorem eq_marks8 (x0 x1 x2 x3 x4 x5 x6 x7 : Bool) (w : World) : (Op.equalIn 10000 75 (.agg (bools [x0, x1, x2, x3, x4, x5, x6, x7]).toArray) (.agg #[.bool false, .bool false, .bool false, .bool false, .bool false, .bool false, .bool false, .bool false])).run Try.prog w =
    .ok (!(x0 || x1 || x2 || x3 || x4 || x5 || x6 || x7)) w := by
  cases x0 <;> cases x1 <;> cases x2 <;> cases x3 <;> cases x4 <;> cases x5 <;> cases x6 <;> cases x7 <;> kernel_rfl

/-- Whether a line has no mark. -/
def noMark (l : List Bool) : Bool := !(l.any id)

theorem eight {l : List Bool} (h : l.length = 8) : ∃ x0 x1 x2 x3 x4 x5 x6 x7, l = [x0, x1, x2, x3, x4, x5, x6, x7] := by
  match l, h with
  | [x0, x1, x2, x3, x4, x5, x6, x7], _ => exact ⟨x0, x1, x2, x3, x4, x5, x6, x7, rfl⟩

theorem eq_marks (l : List Bool) (h : l.length = 8) (w : World) : (Op.equalIn 10000 75 (.agg (bools l).toArray) (.agg #[.bool false, .bool false, .bool false, .bool false, .bool false, .bool false, .bool false, .bool false])).run Try.prog w = .ok (noMark l) w := by
  obtain ⟨x0, x1, x2, x3, x4, x5, x6, x7, rfl⟩ := eight h
  rw [eq_marks8]
  simp [noMark, Bool.or_assoc]

theorem index_marks (l : List Bool) (h : l.length = 8) (k : Nat) (hk : k < 8) (w : World) : (Instr.index 75 (.agg (bools l).toArray) (.int .i64 (k : Int))).run Try.prog w = .ok (.bool (l.getD k false)) w := by
  obtain ⟨x0, x1, x2, x3, x4, x5, x6, x7, rfl⟩ := eight h
  have hc : k = 0 ∨ k = 1 ∨ k = 2 ∨ k = 3 ∨ k = 4 ∨ k = 5 ∨ k = 6 ∨ k = 7 := by omega
  rcases hc with rfl | rfl | rfl | rfl | rfl | rfl | rfl | rfl <;> (show Sem.run _ _ _ = _; kernel_rfl)

/-- What lasts once the first m words have been seen to by a fence. -/
def fenceTo (s : PmS) (m : Nat) : List Int := s.last.mapIdx fun j x => if j < m ∧ s.fl.getD j false = true then s.now.getD j 0 else x

theorem fenceTo_len (s : PmS) (m : Nat) : (fenceTo s m).length = s.last.length := by simp [fenceTo]

theorem fenceTo_zero (s : PmS) : fenceTo s 0 = s.last := by
  apply List.ext_getElem?
  intro j
  simp only [fenceTo, List.getElem?_mapIdx]
  cases s.last[j]? <;> simp

theorem fenceTo_same (s : PmS) (m m' : Nat) (h : ∀ j, j < s.last.length → s.fl.getD j false = true → (j < m ↔ j < m')) : fenceTo s m = fenceTo s m' := by
  apply List.ext_getElem?
  intro j
  simp only [fenceTo, List.getElem?_mapIdx]
  cases hj : s.last[j]? with
  | none => rfl
  | some x =>
    have hl := (List.getElem?_eq_some_iff.1 hj).1
    simp only [Option.map_some, Option.some.injEq]
    by_cases hf : s.fl.getD j false = true
    · simp only [hf, and_true, h j hl hf]
    · rw [if_neg (fun e => hf e.2), if_neg (fun e => hf e.2)]

theorem fenceTo_succ (s : PmS) (m : Nat) (hf : s.fl.getD m false = true) : fenceTo s (m + 1) = (fenceTo s m).set m (s.now.getD m 0) := by
  apply List.ext_getElem?
  intro j
  simp only [fenceTo, List.getElem?_set, List.getElem?_mapIdx, List.length_mapIdx]
  by_cases hj : m = j
  · subst hj
    by_cases hl : m < s.last.length
    · rw [if_pos rfl, if_pos hl, List.getElem?_eq_getElem hl, Option.map_some, if_pos ⟨by omega, hf⟩]
    · simp [hl]
  · rw [if_neg hj]
    cases s.last[j]? with
    | none => rfl
    | some x =>
      simp only [Option.map_some, Option.some.injEq]
      have : j < m + 1 ↔ j < m := by omega
      simp only [this]

def PmS.fence (s : PmS) : PmS := if s.gone = true then s else { s.count with last := fenceTo s s.now.length, fl := List.replicate s.fl.length false }
def PmS.fenceE (s : PmS) : Int := if s.gone = true then 9 else 0
def PmS.fmid (s : PmS) (m : Nat) : PmS := { s.count with last := fenceTo s m }

/-- The marks of a line. -/
def lineOf (fl : List Bool) (q : Nat) : List Bool := (fl.drop (q * 8)).take 8

theorem lineOf_get (fl : List Bool) (q k : Nat) (hk : k < 8) : (lineOf fl q).getD k false = fl.getD (q * 8 + k) false := by
  simp [lineOf, List.getD_eq_getElem?_getD, List.getElem?_drop, hk]

theorem lineOf_len (fl : List Bool) (q : Nat) (h : q * 8 + 8 ≤ fl.length) : (lineOf fl q).length = 8 := by simp [lineOf]; omega

theorem noMark_get {l : List Bool} (h : noMark l = true) (k : Nat) : l.getD k false = false := by
  simp only [noMark, Bool.not_eq_true', List.any_eq_false, id_eq] at h
  rw [List.getD_eq_getElem?_getD]
  cases hk : l[k]? with
  | none => rfl
  | some x =>
    have := h x (List.mem_of_getElem? hk)
    simpa using this

set_option maxHeartbeats 1000000 in
theorem fence_at {w : World} {b gn gl gf : Nat} {s : PmS} (h : PmAt w b gn gl gf s) (hf : s.fit) :
    Calls Try.prog 43 #[.pointer (some ⟨b, 0, none⟩)] w fun e w' => e = .returned (.int .i64 s.fenceE) ∧ PmAt w' b gn gl gf s.fence ∧ Keeps [b, gn, gl, gf] w w' := by
  have hg0 := Lib.hid (gone_at h)
  unfold PmS.fence PmS.fenceE
  cases hg : s.gone
  · rw [hg] at hg0
    have hn9 := h.n9
    have hll := Lib.hid h.ll
    have hfl := Lib.hid h.fll
    have hc := Lib.hid (count_at h hf hg)
    rw [if_neg (by simp), if_neg (by simp)]
    clear h hf hg
    go_enter Try.func43, Try.ntmps43
    go_wp2_with fail
    go_step3
    go_wp2_with fail
    refine hg0.out.mono ?_; rintro e w' ⟨rfl, rfl⟩
    go_wp2_with fail
    refine hc.out.mono ?_; rintro e w1 ⟨rfl, h, hk⟩
    obtain ⟨vn, vl, vf, a, c, d, e⟩ := h.at_
    have ec : s.count.now.length = s.now.length := rfl
    obtain ⟨af, cf, rfl, r1, r2⟩ := e.val
    have k0 : w1.cell? ⟨b, 2, none⟩ = some (.slice af ((s.now.length + 7) / 8) cf) := by rw [a.cell]; rfl
    have haf : Hid (s.now.length ≠ 0 → af = some ⟨gf, 0, none⟩) := fun hn => by
      obtain ⟨-, ⟨cf', h1, -, -⟩, -, -⟩ := e.cell (by omega)
      exact (Value.slice.inj h1).1
    have H := Lib.hid h
    have HK := Lib.hid hk
    have e8 : 0 ≤ ((s.now.length + 7) / 8 : Nat) := Nat.zero_le _
    clear a c d e h hk ec
    go_wp2_with fail
    go_step3
    go_wp2_with fail
    go_loopg [17] ((s.now.length + 7) / 8) (fun g s17 wx => ∃ L : Nat, L + g = (s.now.length + 7) / 8 ∧ s17 = .int .i64 (L : Int) ∧ Hid (PmAt wx b gn gl gf (s.fmid (L * 8)) ∧ Keeps [b, gn, gl, gf] w wx))
    case atStart => exact ⟨0, by omega, rfl, by unfold PmS.fmid; rw [Nat.zero_mul, fenceTo_zero]; exact H.out, HK.out.mono (by simp)⟩
    case round =>
      obtain ⟨L, hLg, rfl, HP⟩ := hrel
      cases gk with
      | zero =>
        have hz : ¬ ((L : Int) < ((s.now.length : Int) + 7) / 8) := by omega
        have el : fenceTo s (L * 8) = fenceTo s s.now.length := fenceTo_same s _ _ fun j hj _ => by rw [hll.out] at hj; omega
        obtain ⟨vf, w2, q0, q1, q2, q3⟩ := HP.out.1.clear
        have Q2 := Lib.hid q2
        have Q3 := Lib.hid (HP.out.2.trans' q3)
        have EL := Lib.hid el
        clear q2 q3 el k0
        go_wp2_with fail
        go_ret
        refine ⟨rfl, ?_, Q3.out⟩
        have := Q2.out
        unfold PmS.fmid at this
        rw [EL.out] at this
        exact this
      | succ g =>
        have hz : (L : Int) < ((s.now.length : Int) + 7) / 8 := by omega
        have hn0 : s.now.length ≠ 0 := by omega
        obtain ⟨vn', vl', vf', a, c, d, e⟩ := HP.out.1.at_
        have ec : (s.fmid (L * 8)).now.length = s.now.length := rfl
        obtain ⟨-, -, q3, -⟩ := e.cell (by omega)
        rw [ec] at q3
        have hl8 : (lineOf s.fl L).length = 8 := lineOf_len _ _ (by rw [hfl.out]; omega)
        have hld : (loadVar 75 ⟨gf, L * 8, none⟩).run Try.prog wr = .ok (.agg (bools (lineOf s.fl L)).toArray) wr := by
          refine run_loadVar_cells gf (L * 8) (bools (lineOf s.fl L)) Try.underlying75 rfl (by rw [bools_len, hl8]; kernel_rfl) fun j hj => ?_
          rw [bools_len, hl8] at hj
          rw [q3 _ (by omega), bools_get (by rw [show (s.fmid (L * 8)).fl = s.fl from rfl, hfl.out]; omega), bools_get (by omega), lineOf_get _ _ _ hj]
          rfl
        obtain rfl := haf.out hn0
        have HLD := Lib.hid hld
        clear a c d e q3 ec hld k0
        obtain ⟨w2, HST, HB2, HK2⟩ : ∃ w2, Hid ((storeVar 75 ⟨wr.heap.size, 0, none⟩ (.agg (bools (lineOf s.fl L)).toArray)).run Try.prog (wr.alloc (.cells #[.bool false, .bool false, .bool false, .bool false, .bool false, .bool false, .bool false, .bool false] 75)) = .ok () w2) ∧
            Hid (Blk w2 wr.heap.size (bools (lineOf s.fl L)).toArray 75) ∧ Hid (Keeps [] wr w2) := by
          have hb := Blk.new wr #[.bool false, .bool false, .bool false, .bool false, .bool false, .bool false, .bool false, .bool false] 75
          refine ⟨_, run_storeVar_cells wr.heap.size 0 (bools (lineOf s.fl L)) _ (by rw [bools_len, hl8]; kernel_rfl) hb (by rw [bools_len, hl8]; simp) (bools_one _), ?_, ?_⟩
          · have := setRow_heap _ wr.heap.size _ (List.take 0 (#[Value.bool false, .bool false, .bool false, .bool false, .bool false, .bool false, .bool false, .bool false] : Array Value).toList ++ bools (lineOf s.fl L) ++ List.drop (0 + (bools (lineOf s.fl L)).length) (#[Value.bool false, .bool false, .bool false, .bool false, .bool false, .bool false, .bool false, .bool false] : Array Value).toList).toArray _ _ hb
            rw [bools_len, hl8] at this
            show Blk _ _ _ _
            simpa [Blk, bools_len, hl8] using this
          · exact ((Keeps.refl _ _).alloc _).setRow (.inr (Nat.le_refl _)) _
        have hld2 : Hid ((loadVar 75 ⟨wr.heap.size, 0, none⟩).run Try.prog w2 = .ok (.agg (bools (lineOf s.fl L)).toArray) w2) := by
          refine run_loadVar_cells wr.heap.size 0 (bools (lineOf s.fl L)) Try.underlying75 rfl (by rw [bools_len, hl8]; kernel_rfl) fun j hj => ?_
          rw [HB2.out.cell]
          simp
        have hq := eq_marks (lineOf s.fl L) hl8
        have HP2 : Hid (PmAt w2 b gn gl gf (s.fmid (L * 8)) ∧ Keeps [b, gn, gl, gf] w w2) := ⟨HP.out.1.keep HK2.out (by simp) (by simp), HP.out.2.trans HK2.out (by simp)⟩
        clear HP
        cases hnm : noMark (lineOf s.fl L)
        · rw [hnm] at hq
          have HNM := Lib.hid hnm
          clear hnm
          go_wp2_with (first | ((with_reducible show wpList _ _ _ (⟨_, .load 75 (.tmp 20), _, _, _, _⟩ :: _) _ _); refine wpList_load_any rfl 75 (.tmp 20) rfl _ rfl _ HLD.out ?_) | ((with_reducible show wpList _ _ _ (⟨_, .store 75 (.tmp 4) (.tmp 21), _, _, _, _⟩ :: _) _ _); refine wpList_store_any rfl 75 (.tmp 4) (.tmp 21) rfl _ rfl _ rfl _ HST.out ?_) | ((with_reducible show wpList _ _ _ (⟨_, .load 75 (.tmp 4), _, _, _, _⟩ :: _) _ _); refine wpList_load_any rfl 75 (.tmp 4) rfl _ rfl _ hld2.out ?_))
          clear HLD HST HB2 HK2 hld2 hq
          obtain ⟨wo, rfl⟩ : ∃ wo : World, wo = wr := ⟨_, rfl⟩
          go_loopg [26] 8 (fun g2 s26 wx => ∃ k : Nat, k + g2 = 8 ∧ s26 = .int .i64 (k : Int) ∧ Hid (PmAt wx b gn gl gf (s.fmid (L * 8 + k)) ∧ Keeps [b, gn, gl, gf] w wx))
          case atStart => exact ⟨0, by omega, rfl, HP2.out⟩
          case round =>
            obtain ⟨k, hk8, rfl, HP3⟩ := hrel
            clear HP2
            cases gk with
            | zero =>
              obtain rfl : k = 8 := by omega
              go_wp2_with fail
              go_roundg g
              case measure => omega
              case rel => exact ⟨L + 1, by omega, by go_num, by rw [show (L + 1) * 8 = L * 8 + 8 by omega]; exact HP3.out⟩
            | succ g2 =>
              have hix := fun wz => index_marks (lineOf s.fl L) hl8 k (by omega) wz
              have hgl := lineOf_get s.fl L k (by omega)
              rw [hgl] at hix
              obtain ⟨vn', vl', vf', a, c, d, e⟩ := HP3.out.1.at_
              have ec : (s.fmid (L * 8 + k)).now.length = s.now.length := rfl
              obtain ⟨-, ⟨cn', rfl, q1, q2⟩, q3, q4⟩ := c.cell (by omega)
              obtain ⟨-, ⟨cl', rfl, q5, q6⟩, q7, q8⟩ := d.cell (by omega)
              have k0 : wr.cell? ⟨b, 0, none⟩ = some (.slice (some ⟨gn, 0, none⟩) s.now.length cn') := by rw [a.cell]; rfl
              have k1 : wr.cell? ⟨b, 1, none⟩ = some (.slice (some ⟨gl, 0, none⟩) s.now.length cl') := by rw [a.cell]; rfl
              by_cases hin : L * 8 + k < s.now.length
              · have k2 : wr.cell? ⟨gn, L * 8 + k, none⟩ = some (.int .u64 (s.now.getD (L * 8 + k) 0)) := (q3 _ (by omega)).trans (u64s_get hin)
                have k3 : wr.cell? ⟨gl, L * 8 + k, none⟩ = some (.int .u64 ((fenceTo s (L * 8 + k)).getD (L * 8 + k) 0)) := (q7 _ (by omega)).trans (u64s_get (by rw [show (s.fmid (L * 8 + k)).last = fenceTo s (L * 8 + k) from rfl, fenceTo_len, hll.out]; exact hin))
                have k5 : wr.frozen? ⟨gl, L * 8 + k, none⟩ = false := q8 _
                have S2 := Lib.hid (HP3.out.1.drew.setLast (by omega) (L * 8 + k) (s.now.getD (L * 8 + k) 0))
                clear a c d e q3 q4 q7 q8 hgl
                cases hm : s.fl.getD (L * 8 + k) false
                · rw [hm] at hix
                  have HM := Lib.hid hm
                  clear hm
                  go_wp2_with fail
                  go_roundg g2
                  case measure => omega
                  case rel =>
                    refine ⟨k + 1, by omega, by go_num, ?_, HP3.out.2⟩
                    have el : fenceTo s (L * 8 + (k + 1)) = fenceTo s (L * 8 + k) := fenceTo_same s _ _ fun j hj hm' => by
                      by_cases h1 : j = L * 8 + k
                      · subst h1; rw [HM.out] at hm'; cases hm'
                      · omega
                    have := HP3.out.1
                    unfold PmS.fmid at this ⊢
                    rw [el]
                    exact this
                · rw [hm] at hix
                  have HM := Lib.hid (fenceTo_succ s (L * 8 + k) hm)
                  clear hm
                  generalize s.now.getD (L * 8 + k) 0 = x at *
                  generalize (fenceTo s (L * 8 + k)).getD (L * 8 + k) 0 = y at *
                  go_wp2_with fail
                  go_region
                  go_wp2_with fail
                  go_roundg g2
                  case measure => omega
                  case rel =>
                    refine ⟨k + 1, by omega, by go_num, ?_, HP3.out.2.drew.setCell (by simp) _⟩
                    have := S2.out
                    unfold PmS.fmid at this ⊢
                    rw [show L * 8 + (k + 1) = L * 8 + k + 1 by omega, HM.out]
                    exact this
              · have el : fenceTo s (L * 8 + k) = fenceTo s s.now.length := fenceTo_same s _ _ fun j hj _ => by rw [hll.out] at hj; omega
                have EL := Lib.hid el
                obtain ⟨vf, w3, p0, p1, p2, p3⟩ := HP3.out.1.clear
                have P2 := Lib.hid p2
                have P3 := Lib.hid (HP3.out.2.trans' p3)
                clear a c d e q3 q4 q7 q8 hgl el p2 p3
                go_wp2_with fail
                rw [Exit.noGoto_ret]
                go_ret
                refine ⟨rfl, ?_, P3.out⟩
                have := P2.out
                unfold PmS.fmid at this
                rw [EL.out] at this
                exact this
        · rw [hnm] at hq
          have HNM := Lib.hid hnm
          clear hnm
          go_wp2_with (first | ((with_reducible show wpList _ _ _ (⟨_, .load 75 (.tmp 20), _, _, _, _⟩ :: _) _ _); refine wpList_load_any rfl 75 (.tmp 20) rfl _ rfl _ HLD.out ?_) | ((with_reducible show wpList _ _ _ (⟨_, .store 75 (.tmp 4) (.tmp 21), _, _, _, _⟩ :: _) _ _); refine wpList_store_any rfl 75 (.tmp 4) (.tmp 21) rfl _ rfl _ rfl _ HST.out ?_) | ((with_reducible show wpList _ _ _ (⟨_, .load 75 (.tmp 4), _, _, _, _⟩ :: _) _ _); refine wpList_load_any rfl 75 (.tmp 4) rfl _ rfl _ hld2.out ?_))
          go_roundg g
          case measure => omega
          case rel =>
            refine ⟨L + 1, by omega, by go_num, ?_, HP2.out.2⟩
            have el : fenceTo s ((L + 1) * 8) = fenceTo s (L * 8) := fenceTo_same s _ _ fun j hj hm => by
              by_cases h1 : L * 8 ≤ j ∧ j < L * 8 + 8
              · have := noMark_get HNM.out (j - L * 8)
                rw [lineOf_get _ _ _ (by omega), show L * 8 + (j - L * 8) = j by omega, hm] at this
                cases this
              · omega
            have := HP2.out.1
            unfold PmS.fmid at this ⊢
            rw [el]
            exact this
  · rw [hg] at hg0
    have H := Lib.hid h
    rw [if_pos rfl, if_pos rfl]
    clear hg h
    go_enter Try.func43, Try.ntmps43
    go_wp2_with fail
    go_step3
    go_wp2_with (go_at_call 45; refine hg0.out.mono ?_; rintro e w' ⟨rfl, rfl⟩)
    rw [Exit.noGoto_ret]
    go_ret
    exact ⟨rfl, H.out, Keeps.refl _ _⟩

end Go.Proofs.Ytopljfbgbiipiaa
