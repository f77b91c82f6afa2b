/-
  Layer 3's reference: After, Good, Lines, Deeds.
-/
import Derived.Test.YtopljfbgbiipiaaPlH
import Derived.StillTailTactics
namespace Go.Proofs.Ytopljfbgbiipiaa
open Go.RowKit

theorem u64s_getO {w : World} {v : Value} {g T n : Nat} {xs : List Int} (h : Owns w v g T 1 n (u64s xs)) (hn : xs.length = n) {j : Nat} (hj : j < n) :
    (∃ cap, v = .slice (some ⟨g, 0, none⟩) n cap ∧ n ≤ cap ∧ cap ≤ maxLen) ∧ w.cell? ⟨g, j, none⟩ = some (.int .u64 (xs.getD j 0)) ∧ w.frozen? ⟨g, j, none⟩ = false := by
  obtain ⟨-, h1, h2, h3⟩ := h.cell (by omega)
  exact ⟨h1, (h2 j (by omega)).trans (u64s_get (by omega)), h3 j⟩

theorem Owns.set64 {w : World} {v : Value} {g T n : Nat} {xs : List Int} (h : Owns w v g T 1 n (u64s xs)) (j : Nat) (x : Int) : Owns (w.setCell ⟨g, j, none⟩ (.int .u64 x)) v g T 1 n (u64s (xs.set j x)) := by
  have := h.set j (.int .u64 x)
  rwa [u64s_set] at this

set_option maxRecDepth 100000 in
set_option maxHeartbeats 2000000 in
theorem after_at {w : World} {v vp : Value} {g gp : Nat} {xs : List Int} {ps : List (Int × Int)} (h : Reads w v g (u64s xs)) (hx : xs.length = 3128) (hp : PReads w vp gp ps) (hq : inP ps 3128) (hn : ps.length ≤ 1000) :
    Calls Try.prog 13 #[v, vp] w (MadeWords w (putAll xs ps)) := by
  obtain ⟨i0, hi, hz0, hz1, hz2⟩ := info_parts Try.info_u64
  have HP := Lib.hid hp
  have HQ := Lib.hid hq
  obtain ⟨ap, cp, rfl, p1, p2⟩ := hp.val
  obtain ⟨a, cap, rfl, h1, h2, HC⟩ := u64s_cell h
  obtain ⟨hg, off, rfl, -⟩ := HC.out 0 (by omega)
  have hcell : ∀ j u, (u64s xs)[j]? = some u → (w.alloc (.cells #[] 40)).cell? ((⟨g, off, none⟩ : Addr).add j) = some u := by
    intro j u hu
    have hj : j < (u64s xs).length := (List.getElem?_eq_some_iff.1 hu).1
    rw [u64s_len] at hj
    obtain ⟨-, off', ho, hc⟩ := HC.out j hj
    cases ho
    rw [add_plain, World.cell?_of_block (w := w) (a := ⟨g, off + j, none⟩) (Below.heap_alloc _ _ _ hg), hc, ← hu, u64s_get hj]
  have hown : (w.alloc (.cells #[] 40)).ownsRow w.heap.size 40 1 (.slice (some ⟨w.heap.size, 0, none⟩) 0 0) 0 [] := World.ownsRow_made w #[] 0 (Nat.le_refl _) (by simp [maxLen]) (by simp)
  have HCE := Lib.hid hcell
  have HO := Lib.hid hown
  have HX := Lib.hid hx
  have HL : Hid ((u64s xs).length = 3128 * 1) := by show (u64s xs).length = 3128 * 1; rw [u64s_len, hx]
  unfold maxLen at h2 p2
  rw [hx] at h1 ⊢
  clear h hcell hown hx hp hq HC
  go_enter Try.func13, Try.ntmps13
  go_wp2_with (at_builtin; refine wpList_append_own _ rfl _ _ 32 rfl w.heap.size 40 i0 (.int .u64 0) 1 8 Try.underlying32 hi hz0 hz1 hz2 rfl (by decide) (.slice (some ⟨w.heap.size, 0, none⟩) 0 0) _ _ rfl HO.out ⟨g, off, none⟩ 3128 cap (u64s xs) rfl HL.out HCE.out (u64s_one xs) (by unfold maxLen; omega) (by omega) (by simp) ?_; intro v' w1 hown' hgrow _)
  obtain ⟨g', ho, hg'⟩ := Owns.of_row hown'
  have ho' : Owns w1 v' g' 40 1 3128 (u64s xs) := by simpa using ho
  have hgg := (hg' (by omega)).1
  have hk1 : Keeps [] w w1 := ((Keeps.refl [] w).alloc _).grown hgrow (by intro k hk; simp [Value.ownBlock] at hk; omega)
  obtain ⟨-, ⟨cap', rfl, q1, q2⟩, -, -⟩ := ho'.cell (by omega)
  unfold maxLen at q2
  have HO1 := Lib.hid ho'
  have HK1 := Lib.hid hk1
  clear hown' hgrow ho hg' ho' hk1 HCE HO
  go_wp2_with fail
  go_loopg [6] ps.length (fun gh s6 wx => ∃ k : Nat, k + gh = ps.length ∧ s6 = .int .i64 (k : Int) ∧
    Hid (Owns wx (.slice (some ⟨g', 0, none⟩) 3128 cap') g' 40 1 3128 (u64s (putAll xs (ps.take k))) ∧ Keeps [] w wx))
  case atStart => exact ⟨0, by omega, rfl, HO1.out, HK1.out⟩
  case round =>
    obtain ⟨k, hk, rfl, HR⟩ := hrel
    cases gk with
    | zero =>
      obtain rfl : k = ps.length := by omega
      have hlt : ¬ (ps.length : Int) < (ps.length : Int) := by omega
      have HM : Hid (MadeWords w (putAll xs ps) (.returned (.slice (some ⟨g', 0, none⟩) 3128 cap')) wr) := by
        obtain ⟨hr, hkp⟩ := HR.out
        rw [List.take_of_length_le (Nat.le_refl _)] at hr
        exact ⟨_, g', rfl, hr.reads, hgg, hkp⟩
      go_wp2_with fail
      go_ret
      exact HM.out
    | succ gg =>
      have hlt : (k : Int) < (ps.length : Int) := by omega
      obtain ⟨hown, hkp⟩ := HR.out
      obtain ⟨hgp, offp, rfl, c0, c1⟩ := (HP.out.keep hkp (by simp)).get (j := k) (by omega)
      obtain ⟨x0, x1⟩ := inP_get HQ.out (k := k) (by omega)
      have HW := Lib.hid (putAll_take_succ xs ps k (by omega))
      generalize patN ps k = x at *
      generalize pwdN ps k = y at *
      obtain ⟨m, rfl⟩ := Int.eq_ofNat_of_zero_le x0
      rw [Int.toNat_natCast] at HW
      have x2 : (m : Int) < 3128 := by omega
      have k0 : (0 : Int) ≤ (k : Int) := by omega
      clear x1
      have hl : (putAll xs (ps.take k)).length = 3128 := by rw [putAll_len, HX.out]
      obtain ⟨-, d0, f0⟩ := u64s_getO hown hl (j := m) (by omega)
      have HOW := Lib.hid (hown.drew.set64 m y)
      have HKP := Lib.hid hkp
      generalize (putAll xs (ps.take k)).getD m 0 = o1 at *
      clear hown hkp HR hl
      go_wp2_with fail
      go_still_tail 12, (by kernel_rfl)
      go_wp2_with fail
      go_roundg gg
      case measure => omega
      case rel =>
        refine ⟨k + 1, by omega, by go_num, ?_, HKP.out.drew.setCell (.inr hgg) _⟩
        rw [HW.out]
        exact HOW.out

theorem goodP_take_succ (ps : List (Int × Int)) (k : Nat) (h : k < ps.length) : goodP (ps.take (k + 1)) = (goodP (ps.take k) && placeB (patN ps k)) := by
  rw [take_snocP ps k h]; simp [goodP]

def goodB (ps : List (Int × Int)) : Bool := goodP ps && decide (ps.length ≤ 400)

theorem goodB_no {ps : List (Int × Int)} {k : Nat} (h : k < ps.length) (hb : placeB (patN ps k) = false) : goodB ps = false := by
  have : goodP ps = false := by
    cases hg : goodP ps
    · rfl
    · have := List.all_eq_true.1 hg _ (patN_mem ps k h)
      simp only at this
      rw [hb] at this
      cases this
  rw [goodB, this]; rfl

set_option maxHeartbeats 2000000 in
theorem refGood_at {w : World} {v : Value} {g : Nat} {ps : List (Int × Int)} (h : PReads w v g ps) (hn : ps.length ≤ 1000) :
    Calls Try.prog 15 #[v] w fun e w' => e = .returned (.bool (goodB ps)) ∧ w = w' := by
  have H := Lib.hid h
  obtain ⟨a, cap, rfl, h1, h2⟩ := h.val
  unfold maxLen at h2
  clear h
  go_enter Try.func15, Try.ntmps15
  go_wp2_with fail
  go_loopg [3] ps.length (fun gh s3 wx => ∃ k : Nat, k + gh = ps.length ∧ s3 = .int .i64 (k : Int) ∧ Hid (goodP (ps.take k) = true) ∧ wx = w)
  case atStart => exact ⟨0, by omega, rfl, rfl, rfl⟩
  case round =>
    obtain ⟨k, hk, rfl, HR, rfl⟩ := hrel
    cases gk with
    | zero =>
      obtain rfl : k = ps.length := by omega
      have hlt : ¬ (ps.length : Int) < (ps.length : Int) := by omega
      have HM : Hid (goodB ps = decide (ps.length ≤ 400)) := by
        have := HR.out
        rw [List.take_of_length_le (Nat.le_refl _)] at this
        show goodB ps = _
        rw [goodB, this]; rfl
      by_cases h4 : ps.length ≤ 400
      · rw [decide_eq_true h4] at HM
        have h5 : (ps.length : Int) ≤ 400 := by omega
        go_wp2_with fail
        go_ret
        exact ⟨by rw [HM.out]; rfl, rfl⟩
      · rw [decide_eq_false h4] at HM
        have h5 : ¬ (ps.length : Int) ≤ 400 := by omega
        go_wp2_with fail
        go_ret
        exact ⟨by rw [HM.out]; rfl, rfl⟩
    | succ gg =>
      have hlt : (k : Int) < (ps.length : Int) := by omega
      obtain ⟨hg, off, rfl, c0, -⟩ := H.out.get (j := k) (by omega)
      have HN := Lib.hid (goodB_no (ps := ps) (k := k) (by omega))
      have HS := Lib.hid (goodP_take_succ ps k (by omega))
      generalize patN ps k = x at *
      rcases (show x < 0 ∨ 3128 ≤ x ∨ (8 ≤ x ∧ x < 816) ∨ (0 ≤ x ∧ x < 8) ∨ (816 ≤ x ∧ x < 3128) by omega) with hc | hc | ⟨hc1, hc2⟩ | ⟨hc1, hc2⟩ | ⟨hc1, hc2⟩
      · have HF := HN.out (by rw [Bool.eq_false_iff, ne_eq, placeB_iff]; omega)
        have HF := Lib.hid HF
        go_wp2_with fail
        go_ret
        exact ⟨by rw [HF.out]; rfl, rfl⟩
      · have HF := HN.out (by rw [Bool.eq_false_iff, ne_eq, placeB_iff]; omega)
        have HF := Lib.hid HF
        go_wp2_with fail
        go_ret
        exact ⟨by rw [HF.out]; rfl, rfl⟩
      · have HF := HN.out (by rw [Bool.eq_false_iff, ne_eq, placeB_iff]; omega)
        have HF := Lib.hid HF
        go_wp2_with fail
        go_ret
        exact ⟨by rw [HF.out]; rfl, rfl⟩
      · have HP : Hid (placeB x = true) := placeB_iff.2 ⟨by omega, by omega, by omega⟩
        go_wp2_with fail
        go_roundg gg
        case measure => omega
        case rel => exact ⟨k + 1, by omega, by go_num, by show goodP (ps.take (k + 1)) = true; rw [HS.out, HR.out, HP.out]; rfl, rfl⟩
      · have HP : Hid (placeB x = true) := placeB_iff.2 ⟨by omega, by omega, by omega⟩
        go_wp2_with fail
        go_roundg gg
        case measure => omega
        case rel => exact ⟨k + 1, by omega, by go_num, by show goodP (ps.take (k + 1)) = true; rw [HS.out, HR.out, HP.out]; rfl, rfl⟩

/-- Is a line not among the first ones? -/
def freshB (f : List Int) (q : Int) (k : Nat) : Bool := !(f.take k).contains q

theorem freshB_succ (ps : List (Int × Int)) (q : Int) (k : Nat) (h : k < ps.length) : freshB (linesOf ps) q (k + 1) = (freshB (linesOf ps) q k && (patN ps k / 8 != q)) := by
  unfold freshB
  rw [linesOf_snoc ps k h, List.contains_append, Bool.not_or]
  have : [patN ps k / 8].contains q = (patN ps k / 8 == q) := by rw [Bool.eq_iff_iff, List.contains_iff_mem, List.mem_singleton, beq_iff_eq]; exact ⟨Eq.symm, Eq.symm⟩
  rw [this]
  rfl

theorem linesTo_fresh (ps : List (Int × Int)) (k : Nat) (h : k < ps.length) : linesTo (linesOf ps) (k + 1) = linesTo (linesOf ps) k + if freshB (linesOf ps) (patN ps k / 8) k = true then 1 else 0 := by
  rw [linesTo, linesOf_get ps k h]
  unfold freshB
  by_cases hm : patN ps k / 8 ∈ (linesOf ps).take k
  · rw [if_pos hm, if_neg]
    simpa using hm
  · rw [if_neg hm, if_pos]
    simpa using hm

set_option maxHeartbeats 2000000 in
theorem refLines_at {w : World} {v : Value} {g : Nat} {ps : List (Int × Int)} (h : PReads w v g ps) (hq : inP ps 3128) (hn : ps.length ≤ 1000) :
    Calls Try.prog 36 #[v] w fun e w' => e = .returned (.int .i64 (linesN ps : Nat)) ∧ ∃ n, w' = w.drewN n := by
  have H := Lib.hid h
  have HQ := Lib.hid hq
  obtain ⟨a, cap, rfl, h1, h2⟩ := h.val
  unfold maxLen at h2
  clear h hq
  go_enter Try.func36, Try.ntmps36
  go_wp2_with fail
  go_loopg [3, 4] ps.length (fun gh s3 s4 wx => ∃ k m : Nat, k + gh = ps.length ∧ s4 = .int .i64 (k : Int) ∧ s3 = .int .i64 ((linesTo (linesOf ps) k : Nat) : Int) ∧ wx = w.drewN m)
  case atStart => exact ⟨0, 0, by omega, rfl, rfl, rfl⟩
  case round =>
    obtain ⟨k, m, hk, rfl, rfl, rfl⟩ := hrel
    cases gk with
    | zero =>
      obtain rfl : k = ps.length := by omega
      have hlt : ¬ (ps.length : Int) < (ps.length : Int) := by omega
      go_wp2_with fail
      go_ret
      exact ⟨rfl, m, rfl⟩
    | succ gg =>
      have hlt : (k : Int) < (ps.length : Int) := by omega
      have hle := linesTo_le (linesOf ps) k
      obtain ⟨x0, x1⟩ := inP_get HQ.out (k := k) (by omega)
      obtain ⟨hg, off, rfl, C0, -⟩ := H.out.get (j := k) (by omega)
      have HC0 := Lib.hid C0
      have HF := Lib.hid (linesTo_fresh ps k (by omega))
      have HFS := Lib.hid (fun j (hj : j < ps.length) => freshB_succ ps (patN ps k / 8) j hj)
      generalize patN ps k = x at *
      clear C0
      go_wp2_with fail
      go_loopg [5, 6] k (fun gh2 s5 s6 wx => ∃ k2 m2 : Nat, k2 + gh2 = k ∧ s6 = .int .i64 (k2 : Int) ∧ s5 = .bool (freshB (linesOf ps) (x / 8) k2) ∧ wx = w.drewN m2)
      case atStart => exact ⟨0, m, by omega, rfl, rfl, rfl⟩
      case round =>
        obtain ⟨k2, m2, hk2, rfl, rfl, rfl⟩ := hrel
        cases gk with
        | zero =>
          obtain rfl : k2 = k := by omega
          have hlt2 : ¬ (k2 : Int) < (k2 : Int) := by omega
          cases hfb : freshB (linesOf ps) (x / 8) k2
          · rw [hfb, if_neg (by simp)] at HF
            clear hfb
            go_wp2_with fail
            go_roundg gg
            case measure => omega
            case rel => exact ⟨k2 + 1, m2, by omega, by go_num, by rw [HF.out]; rfl, rfl⟩
          · rw [hfb, if_pos rfl] at HF
            clear hfb
            go_wp2_with fail
            go_roundg gg
            case measure => omega
            case rel => exact ⟨k2 + 1, m2, by omega, by go_num, by rw [HF.out]; go_num, rfl⟩
        | succ g2 =>
          have hlt2 : (k2 : Int) < (k : Int) := by omega
          have hlt3 : (k2 : Int) < (ps.length : Int) := by omega
          have HFS2 := Lib.hid (HFS.out k2 (by omega))
          obtain ⟨y0, y1⟩ := inP_get HQ.out (k := k2) (by omega)
          obtain ⟨-, off', ho', c2, -⟩ := H.out.get (j := k2) (by omega)
          cases ho'
          have c0 := HC0.out
          generalize patN ps k2 = y at *
          cases hfb : freshB (linesOf ps) (x / 8) k2
          · rw [hfb] at HFS2
            clear hfb
            go_wp2_with fail
            go_quiet (fail)
            go_wp2_with fail
            go_roundg g2
            case measure => omega
            case rel => exact ⟨k2 + 1, _, by omega, by go_num, by rw [HFS2.out]; rfl, rfl⟩
          · rw [hfb, Bool.true_and] at HFS2
            clear hfb
            go_wp2_with fail
            go_quiet (fail)
            go_wp2_with fail
            go_roundg g2
            case measure => omega
            case rel => exact ⟨k2 + 1, _, by omega, by go_num, by rw [HFS2.out], rfl⟩

theorem deedsN_ref (ps : List (Int × Int)) (h : ps.length ≠ 0) : ((deedsN ps : Nat) : Int) = 2 * (ps.length : Int) + (9 + 2 * (ps.length : Int) - 1) / 8 + 1 + 3 + (ps.length : Int) + ((linesN ps : Nat) : Int) + 1 + 3 := by
  have hne : ps ≠ [] := fun e => h (by rw [e]; rfl)
  have hl := logN_lines (wordsN ps) (wordsN ps).length (Nat.le_refl _)
  rw [wordsN_len, if_neg (by omega)] at hl
  have e1 : linesN (logN (wordsN ps)) = (2 * ps.length + 8) / 8 := by
    unfold linesN
    rw [logN_len, wordsN_len]
    exact hl
  rw [deedsN, if_neg hne, settleD, settleD, e1, logN_len, wordsN_len]
  omega

set_option maxHeartbeats 1000000 in
theorem refDeeds_at {w : World} {v : Value} {g : Nat} {ps : List (Int × Int)} (h : PReads w v g ps) (hq : inP ps 3128) (hn : ps.length ≤ 1000) :
    Calls Try.prog 18 #[v] w fun e w' => e = .returned (.int .i64 (deedsN ps : Nat)) ∧ ∃ n, w' = w.drewN n := by
  have HL := Lib.hid (refLines_at h hq hn)
  obtain ⟨a, cap, rfl, h1, h2⟩ := h.val
  unfold maxLen at h2
  by_cases h0 : ps.length = 0
  · obtain rfl : ps = [] := List.eq_nil_of_length_eq_zero h0
    clear h hq h0
    go_enter Try.func18, Try.ntmps18
    go_wp2_with fail
    go_ret
    exact ⟨rfl, 0, rfl⟩
  · have HD := Lib.hid (deedsN_ref ps h0)
    have hll : linesN ps ≤ ps.length := linesTo_le _ _
    have hz1 : ((ps.length : Int) == 0) = false := beq_eq_false_iff_ne.2 (by omega)
    have hz2 : (ps.length == 0) = false := beq_eq_false_iff_ne.2 h0
    generalize deedsN ps = D at *
    generalize linesN ps = L at *
    generalize ps.length = n at *
    clear h hq h0
    go_enter Try.func18, Try.ntmps18
    go_wp2_with fail
    refine HL.out.mono ?_
    rintro e w1 ⟨rfl, m, rfl⟩
    go_wp2_with fail
    go_ret
    exact ⟨by rw [HD.out]; rfl, m, rfl⟩

end Go.Proofs.Ytopljfbgbiipiaa
