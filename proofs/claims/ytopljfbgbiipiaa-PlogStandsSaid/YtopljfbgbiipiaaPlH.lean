/-
  Layer 3's laws: awake, places, same; the reference's After, Good.
-/
import Derived.Test.YtopljfbgbiipiaaPlG
namespace Go.Proofs.Ytopljfbgbiipiaa
open Go.RowKit

def zerosN : List Int := List.replicate 3128 0

theorem zerosN_len : zerosN.length = 3128 := List.length_replicate
theorem zerosN_get (i : Nat) : zerosN.getD i 0 = 0 := by
  unfold zerosN
  rw [List.getD_eq_getElem?_getD, List.getElem?_replicate]
  split <;> rfl

/-- A new memory. -/
def NewPm (w : World) (xs : List Int) (e : Ending) (w' : World) : Prop :=
  ∃ b gn gl gf, e = .returned (.pointer (some ⟨b, 0, none⟩)) ∧ PmAt w' b gn gl gf (calm xs 0) ∧ (∀ x, x ∈ [b, gn, gl, gf] → w.heap.size ≤ x) ∧ Keeps [] w w'

theorem NewPm.of {w : World} {xs : List Int} {e : Ending} {w' : World} (h : Made w xs e w') : NewPm w xs e w' := by
  obtain ⟨b, gn, gl, gf, h1, h2, h3, h4⟩ := h
  refine ⟨b, gn, gl, gf, h1, h2, fun x hx => ?_, h4⟩
  simp only [List.mem_cons, List.not_mem_nil, or_false] at hx
  omega

theorem new3128_at (w : World) : Calls Try.prog 9 #[.int .i64 3128] w (NewPm w zerosN) :=
  (new_at w 3128).mono fun _ _ h => NewPm.of h

theorem keeps_new {w w1 w2 : World} {l : List Nat} (h : Keeps [] w w1) (k : Keeps l w1 w2) (hl : ∀ x, x ∈ l → w.heap.size ≤ x) : Keeps [] w w2 := h.trans k fun x hx => .inr (hl x hx)

set_option maxHeartbeats 1000000 in
theorem awake_at (w : World) : Calls Try.prog 7 #[] w fun e w' => e = .returned (.bool true) ∧ Keeps [] w w' := by
  have HN := Lib.hid (new3128_at w)
  have hz : Hid (zerosN.length = 3128) := zerosN_len
  have hc1 : Hid ((commitX zerosN [(1, 5)]).getD 1 0 = 5) := by
    show (commitX zerosN [(1, 5)]).getD 1 0 = 5
    rw [(commitX_agree zerosN [(1, 5)] (by simp)).get 1 (.inl (by omega)), putAll_one]
    exact getD_set_eq _ (by rw [zerosN_len]; decide)
  have hcl : Hid ((commitX zerosN [(1, 5)]).length = 3128) := by
    show (commitX zerosN [(1, 5)]).length = 3128
    rw [commitX_len, zerosN_len]
  generalize zerosN = zs at *
  go_enter Try.func7, Try.ntmps7
  go_wp2_with fail
  refine HN.out.mono ?_
  rintro e w1 ⟨b, gn, gl, gf, rfl, hp, hl, hk⟩
  have hp2 := hp.keep ((Keeps.refl [] _).alloc (.cells #[.int .i64 1, .int .u64 5] 43)) (by simp) (by simp)
  have hold := hp.old (by show zs.length ≠ 0; rw [hz.out]; decide)
  have HC := Lib.hid (commit_ok hp2 (by decide) (by decide) hz.out (one_pair w1 1 5 43) (by intro p hp; simp at hp; subst hp; simp) (by decide) (by simp) (by intro _ hm; simp at hm; omega))
  have HL := Lib.hid hl
  have HK := Lib.hid hk
  clear hp hl hk hp2 hold
  go_wp2_with fail
  refine HC.out.mono ?_
  rintro e w2 ⟨rfl, hp2, hk2⟩
  have HP2 := Lib.hid hp2
  have HK2 := Lib.hid (keeps_new (HK.out.alloc _) hk2 HL.out)
  clear hp2 hk2
  go_wp2_with fail
  refine (load_calm HP2.out 1 (by omega) (by rw [hcl.out]; omega)).mono ?_; rintro e w' ⟨rfl, rfl⟩
  rw [show (1 : Int).toNat = 1 from rfl, hc1.out]
  go_wp2_with fail
  go_ret
  exact ⟨rfl, HK2.out⟩

def placeN (a : Int) : Int := if 8 ≤ a % 3128 ∧ a % 3128 < 816 then a % 3128 + 816 else a % 3128
def placesN (ps : List (Int × Int)) : List (Int × Int) := ps.map fun p => (placeN p.1, p.2)

theorem placesN_len (ps : List (Int × Int)) : (placesN ps).length = ps.length := by simp [placesN]
theorem placesN_take_succ (ps : List (Int × Int)) (k : Nat) (h : k < ps.length) : placesN (ps.take (k + 1)) = placesN (ps.take k) ++ [(placeN (patN ps k), pwdN ps k)] := by
  rw [take_snocP ps k h]; simp [placesN]
theorem placeN_ok (a : Int) : 0 ≤ placeN a ∧ placeN a < 3128 ∧ (placeN a < 8 ∨ 816 ≤ placeN a) := by
  unfold placeN
  split <;> omega
theorem placesN_good (ps : List (Int × Int)) : goodP (placesN ps) = true := by
  unfold goodP
  rw [List.all_eq_true]
  intro p hp
  simp only [placesN, List.mem_map] at hp
  obtain ⟨q, -, rfl⟩ := hp
  exact placeB_iff.2 (placeN_ok q.1)
theorem placesN_ok {ps : List (Int × Int)} (h : okP ps) : okP (placesN ps) := by
  intro p hp
  simp only [placesN, List.mem_map] at hp
  obtain ⟨q, hq, rfl⟩ := hp
  have := placeN_ok q.1
  exact ⟨by simp only; omega, (h q hq).2⟩

theorem tmod_bd (x : Int) (n : Int) (hn : 0 < n) : -n < x.tmod n ∧ x.tmod n < n ∧ (x.tmod n + n) % n = x % n := by
  refine ⟨Int.lt_tmod_of_pos x hn, Int.tmod_lt_of_pos x hn, ?_⟩
  rw [Int.add_emod_right, Int.tmod_def, Int.sub_eq_add_neg, ← Int.mul_neg, Int.add_mul_emod_self_left]

theorem ownsRow_block {w : World} {base T sz n : Nat} {v : Value} {xs : List Value} (h : w.ownsRow base T sz v n xs) : ∀ k, v.ownBlock = some k → base ≤ k := by
  obtain ⟨h0, h1⟩ := h
  intro k hk
  rcases h1 with ⟨rfl, rfl⟩ | ⟨g, cap, cur, rfl, hg, hh, h2, h3, h4, h5⟩
  · cases hk
  · cases hk; exact hg

theorem Keeps.grown {w wr w1 : World} {row : Option Nat} (hk : Keeps [] w wr) (hg : wr.grownBy w1 row) (hr : ∀ k, row = some k → w.heap.size ≤ k) : Keeps [] w w1 :=
  ⟨hg.os.trans hk.os, hg.tape.trans hk.tape, hg.output.trans hk.output, Nat.le_trans hk.size hg.size, fun k hk' hn =>
    (hg.block k (Nat.lt_of_lt_of_le hk' hk.size) fun e => by have := hr k e.symm; omega).trans (hk.block k hk' hn)⟩

set_option maxHeartbeats 1000000 in
theorem places_at {w : World} {v : Value} {g : Nat} {ps : List (Int × Int)} (h : PReads w v g ps) (hok : okP ps) (hn : ps.length ≤ 1000) :
    Calls Try.prog 8 #[v] w (MadePairs w (placesN ps)) := by
  obtain ⟨i0, hi, hz0, hz1, hz2⟩ := info_parts Try.info_pair
  have H := Lib.hid h
  have HOK := Lib.hid hok
  obtain ⟨a, cap, rfl, h1, h2⟩ := h.val
  unfold maxLen at h2
  clear h hok
  go_enter Try.func8, Try.ntmps8
  go_wp2_with fail
  go_loopg [3, 4] ps.length (fun gh s3 s4 wx => ∃ k : Nat, k + gh = ps.length ∧ s4 = .int .i64 (k : Int) ∧
    Hid (wx.ownsRow w.heap.size 43 2 s3 k (pcells (placesN (ps.take k))) ∧ Keeps [] w wx))
  case atStart => exact ⟨0, by omega, rfl, ⟨rfl, .inl ⟨rfl, rfl⟩⟩, Keeps.refl _ _⟩
  case round =>
    obtain ⟨k, hk, rfl, HR⟩ := hrel
    cases gk with
    | zero =>
      obtain rfl : k = ps.length := by omega
      have hlt : ¬ (ps.length : Int) < (ps.length : Int) := by omega
      have HM : Hid (MadePairs w (placesN ps) (.returned u3) wr) := by
        obtain ⟨hr, hkp⟩ := HR.out
        rw [List.take_of_length_le (Nat.le_refl _)] at hr
        obtain ⟨g', ho, hb⟩ := Owns.of_row hr
        by_cases e : ps.length = 0
        · exact MadePairs.mk (ho.anyG e w.heap.size) (placesN_len ps).symm (Nat.le_refl _) hkp
        · exact MadePairs.mk ho (placesN_len ps).symm (hb e).1 hkp
      go_wp2_with fail
      go_ret
      exact HM.out
    | succ gg =>
      have hlt : (k : Int) < (ps.length : Int) := by omega
      obtain ⟨hown, hkp⟩ := HR.out
      obtain ⟨hg, off, rfl, c0, c1⟩ := (H.out.keep hkp (by simp)).get (j := k) (by omega)
      have b1 := okP_get HOK.out (k := k) (by omega)
      have HW := Lib.hid (placesN_take_succ ps k (by omega))
      generalize patN ps k = x at *
      generalize pwdN ps k = y at *
      obtain ⟨t1, t2, t3⟩ := tmod_bd x 3128 (by omega)
      obtain ⟨r, e1⟩ : ∃ r, x.tmod 3128 = r := ⟨_, rfl⟩
      rw [e1] at t1 t2 t3
      obtain ⟨m, e2⟩ : ∃ m, (r + 3128) % 3128 = m := ⟨_, rfl⟩
      have m1 : 0 ≤ m := by omega
      have m2 : m < 3128 := by omega
      have HPN : Hid (placeN x = if 8 ≤ m ∧ m < 816 then m + 816 else m) := by
        show placeN x = _
        unfold placeN
        rw [← t3, e2]
      have HOWN := Lib.hid hown
      have HKP := Lib.hid hkp
      clear hown hkp HR t3
      by_cases hm : 8 ≤ m ∧ m < 816
      · rw [if_pos hm] at HPN
        obtain ⟨hm1, hm2⟩ := hm
        go_wp2_with (at_builtin; refine wpList_append_own _ rfl _ _ 22 rfl w.heap.size 43 i0 (.agg #[.int .i64 0, .int .u64 0]) 2 16 Try.underlying22 hi hz0 hz1 hz2 rfl (by decide) u3 k _ rfl (HOWN.out.alloc _) ⟨wr.heap.size, 0, none⟩ 1 1 [.int .i64 (m + 816), .int .u64 y] rfl rfl ?c1 ?c2 (by unfold maxLen; omega) (by omega) (by have := HKP.out.size; simp; omega) ?_)
        case c1 => exact new_cells _ [_, _] _ _ rfl
        case c2 => simp [Value.oneCell']
        intro v' w1 hown1 hgrow _
        have HO1 := Lib.hid hown1
        have HK1 := Lib.hid ((HKP.out.alloc _).grown hgrow (ownsRow_block HOWN.out))
        clear hown1 hgrow
        go_wp2_with fail
        go_roundg gg
        case measure => omega
        case rel =>
          refine ⟨k + 1, by omega, by go_num, ?_, HK1.out⟩
          rw [HW.out, HPN.out, pcells_append]
          exact HO1.out
      · rw [if_neg hm] at HPN
        have hm' : m < 8 ∨ 816 ≤ m := by omega
        clear hm
        rcases hm' with hm | hm
        all_goals
          go_wp2_with (at_builtin; refine wpList_append_own _ rfl _ _ 22 rfl w.heap.size 43 i0 (.agg #[.int .i64 0, .int .u64 0]) 2 16 Try.underlying22 hi hz0 hz1 hz2 rfl (by decide) u3 k _ rfl (HOWN.out.alloc _) ⟨wr.heap.size, 0, none⟩ 1 1 [.int .i64 m, .int .u64 y] rfl rfl (new_cells _ [_, _] _ _ rfl) (by simp [Value.oneCell']) (by unfold maxLen; omega) (by omega) (by have := HKP.out.size; simp; omega) ?_)
          intro v' w1 hown1 hgrow _
          have HO1 := Lib.hid hown1
          have HK1 := Lib.hid ((HKP.out.alloc _).grown hgrow (ownsRow_block HOWN.out))
          clear hown1 hgrow
          go_wp2_with fail
          go_roundg gg
          case measure => omega
          case rel =>
            refine ⟨k + 1, by omega, by go_num, ?_, HK1.out⟩
            rw [HW.out, HPN.out, pcells_append]
            exact HO1.out

set_option maxRecDepth 100000 in
set_option maxHeartbeats 2000000 in
theorem same_at {w : World} {b gn gl gf : Nat} {xs ys : List Int} {d : Int} (h : PmAt w b gn gl gf (calm xs d)) (hx : xs.length = 3128) {v : Value} {g : Nat} (hr : Reads w v g (u64s ys)) (ha : AgreeP ys xs) (h8 : xs.getD 8 0 = 0) :
    Calls Try.prog 12 #[.pointer (some ⟨b, 0, none⟩), v] w fun e w' => e = .returned (.bool true) ∧ w = w' := by
  have H := Lib.hid h
  have HX := Lib.hid hx
  have HA := Lib.hid ha
  have H8 := Lib.hid h8
  have hy : ys.length = 3128 := by rw [← hx, ha.len]
  have HY := Lib.hid hy
  obtain ⟨a, cap, rfl, h1, h2, HC⟩ := u64s_cell hr
  unfold maxLen at h2
  rw [hy] at h1 ⊢
  clear h hx hr ha h8 hy
  go_enter Try.func12, Try.ntmps12
  go_wp2_with fail
  go_loopg [5] 3128 (fun gh s5 wx => ∃ k : Nat, k + gh = 3128 ∧ s5 = .int .i64 (k : Int) ∧ wx = w)
  case atStart => exact ⟨0, by omega, rfl, rfl⟩
  case round =>
    obtain ⟨k, hk, rfl, rfl⟩ := hrel
    cases gk with
    | zero =>
      obtain rfl : k = 3128 := by omega
      go_wp2_with fail
      go_ret
      exact ⟨rfl, rfl⟩
    | succ gg =>
      have hlt : (k : Int) < 3128 := by omega
      obtain ⟨hg, off, rfl, c0⟩ := HC.out k (by rw [HY.out]; omega)
      have HL := Lib.hid (load_calm H.out (k : Int) (by omega) (by rw [HX.out]; omega))
      rw [Int.toNat_natCast] at HL
      by_cases e8 : k = 8
      · subst e8
        rw [H8.out] at HL
        clear c0
        go_wp2_with (go_at_call 23; refine HL.out.mono ?_; rintro e w' ⟨rfl, rfl⟩)
        go_roundg gg
        case measure => omega
        case rel => exact ⟨9, by omega, rfl, rfl⟩
      · have e81 : ((k : Int) == 8) = false := beq_eq_false_iff_ne.2 (by omega)
        rcases (show k < 8 ∨ 816 ≤ k ∨ (8 < k ∧ k < 816) by omega) with hc | hc | ⟨hc1, hc2⟩
        · rw [HA.out.get k (.inl hc)] at HL
          generalize ys.getD k 0 = x at *
          clear e8
          go_wp2_with (go_at_call 23; refine HL.out.mono ?_; rintro e w' ⟨rfl, rfl⟩)
          go_roundg gg
          case measure => omega
          case rel => exact ⟨k + 1, by omega, by go_num, rfl⟩
        · rw [HA.out.get k (.inr hc)] at HL
          generalize ys.getD k 0 = x at *
          clear e8
          go_wp2_with (go_at_call 23; refine HL.out.mono ?_; rintro e w' ⟨rfl, rfl⟩)
          go_roundg gg
          case measure => omega
          case rel => exact ⟨k + 1, by omega, by go_num, rfl⟩
        · generalize ys.getD k 0 = x at *
          generalize xs.getD k 0 = z at *
          clear e8 c0
          go_wp2_with (go_at_call 23; refine HL.out.mono ?_; rintro e w' ⟨rfl, rfl⟩)
          go_roundg gg
          case measure => omega
          case rel => exact ⟨k + 1, by omega, by go_num, rfl⟩

end Go.Proofs.Ytopljfbgbiipiaa
