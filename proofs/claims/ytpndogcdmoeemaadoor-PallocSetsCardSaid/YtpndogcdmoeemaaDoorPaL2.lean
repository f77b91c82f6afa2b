/-
  Layer 5: the law PallocSets, walked.
-/
import Derived.Test.YtpndogcdmoeemaaDoorPaL1
import Derived.Test.YtpndogcdmoeemaaDoorTxP
import Derived.BigQuiet
namespace Go.Proofs.YtpndogcdmoeemaaDoor
open Go.RowKit

/-- What is so ahead of the law's loop. -/
structure Told (w wx : World) (b gp g : Nat) (B : List Int) (ps : List (Int × Int)) (bl : List Bool) : Prop where
  sh : ShAt wx b gp B ps
  i64 : In64 (putAll B ps)
  ow : Owns wx (.slice (some ⟨g, 0, none⟩) 256 256) g 4 1 256 (bools bl)
  len : bl.length = 256
  eq : ∀ k, k < 256 → usedN (putAll B ps) k = bl.getD k false
  kp : Keeps [] w wx
  one : ps.length ≤ 1

theorem Told.keep {w wx wy : World} {b gp g : Nat} {B : List Int} {ps : List (Int × Int)} {bl : List Bool} (h : Told w wx b gp g B ps bl) (hk : Keeps [] wx wy) : Told w wy b gp g B ps bl :=
  ⟨h.sh.keep hk (by simp) (by simp), h.i64, h.ow.keep hk (by simp), h.len, h.eq, h.kp.trans hk (by simp), h.one⟩

theorem bitsB_used (ws : List Nat) (k : Nat) (hk : k < 256) : usedN (sheetW ws) k = (bitsB ws 256).getD k false := by
  rw [bitsB_get _ _ _ hk, if_pos hk, usedN, sheetW_bits _ _ (by omega)]

theorem diffTo_count (B : List Int) (ps : List (Int × Int)) (h : ps.length ≤ 1) (n : Nat) : (diffTo B (putAll B ps) n).length ≤ 1 := by
  match ps, h with
  | [], _ =>
    have : diffTo B B n = [] := by
      unfold diffTo
      simp
    show (diffTo B B n).length ≤ 1
    rw [this]
    simp
  | [p], _ =>
    rw [putAll_one]
    unfold diffTo
    rw [List.length_map]
    have h1 : ∀ m, ((List.range m).filter fun i => (B.set p.1.toNat p.2).getD i 0 != B.getD i 0).length ≤ if p.1.toNat < m then 1 else 0 := by
      intro m
      induction m with
      | zero => simp
      | succ m ih =>
        rw [List.range_succ, List.filter_append, List.length_append]
        by_cases e : p.1.toNat = m
        · rw [if_neg (by omega)] at ih
          have := List.length_filter_le (fun i => (B.set p.1.toNat p.2).getD i 0 != B.getD i 0) [m]
          simp only [List.length_singleton] at this
          rw [if_pos (by omega)]
          omega
        · have e2 : ((B.set p.1.toNat p.2).getD m 0 != B.getD m 0) = false := by
            rw [List.getD_eq_getElem?_getD, List.getElem?_set, if_neg e, ← List.getD_eq_getElem?_getD]
            simp
          have e3 : ([m].filter fun i => (B.set p.1.toNat p.2).getD i 0 != B.getD i 0) = [] := by
            simp only [List.filter_cons, e2, List.filter_nil]
            simp
          rw [e3]
          by_cases e4 : p.1.toNat < m
          · rw [if_pos e4] at ih
            rw [if_pos (by omega)]
            exact ih
          · rw [if_neg e4] at ih
            rw [if_neg (by omega)]
            exact ih
    have := h1 n
    split at this <;> omega

set_option maxRecDepth 100000 in
set_option maxHeartbeats 4000000 in
theorem paSets_at (ws : List Nat) (hws : ∀ i, ws.getD i 0 < 18446744073709551616) (i : Int) (u : Bool) (w : World) (hT : TabAt w) :
    Calls Tryd.prog 4 #[.agg (w4 ws), .int .i64 i, .bool u] w fun e w' => e = .returned (.bool true) ∧ Below w.heap.size w w' := by
  have HT := Lib.hid hT
  have HWS := Lib.hid hws
  have HB0 := Lib.hid (Blk.new w (w4 ws) 23)
  have HK0 : Hid (Keeps [] w (w.alloc (.cells (w4 ws) 23))) := (Keeps.refl [] w).alloc _
  have HLOAD := Lib.hid (fun (wx : World) (hb : Blk wx w.heap.size (w4 ws) 23) => load_w4 hb)
  have HSH := Lib.hid (fun wx => sheet_at ws wx)
  have HBI := Lib.hid (fun wx => bits_at ws HWS.out wx)
  clear hT hws
  generalize w4 ws = Z at *
  have HA := Lib.hid (paAwake_at _ (HT.out.keep HK0.out))
  go_enter Tryd.func4, Tryd.ntmps4
  go_wp2_with fail
  refine HA.out.mono ?_; rintro e w1 ⟨rfl, hk1⟩
  have HB1 := Lib.hid (HB0.out.keep hk1 (by simp))
  have HK1 := Lib.hid (HK0.out.trans hk1 (by simp))
  have HL1 := Lib.hid (HLOAD.out w1 HB1.out)
  clear hk1 HB0 HK0 HA
  go_wp2_with ((with_reducible show wpList _ _ _ (⟨_, .load 23 (.tmp 3), _, _, _, _⟩ :: _) _ _); refine wpList_load_any rfl 23 (.tmp 3) rfl _ rfl _ HL1.out ?_)
  refine (HSH.out w1).mono ?_; rintro e w2 ⟨b, rfl, hb0, hs2, hk2⟩
  have HB2 := Lib.hid (HB1.out.keep hk2 (by simp))
  have HK2 := Lib.hid (HK1.out.trans hk2 (by simp))
  have HL2 := Lib.hid (HLOAD.out w2 HB2.out)
  have HLO : Hid (w.heap.size ≤ b ∧ b < w2.heap.size) := ⟨Nat.le_trans HK1.out.size hb0, hs2.raw.lt⟩
  have HS2 := Lib.hid hs2
  clear hk2 hs2 hb0 HB1 HK1 HL1 HLOAD HSH
  go_wp2_with ((with_reducible show wpList _ _ _ (⟨_, .load 23 (.tmp 3), _, _, _, _⟩ :: _) _ _); refine wpList_load_any rfl 23 (.tmp 3) rfl _ rfl _ HL2.out ?_)
  refine (HBI.out w2).mono ?_; rintro e w3 ⟨g, rfl, ho3, hg3, hk3⟩
  have HS3 := Lib.hid (HS2.out.keep hk3 (by simp) (by simp))
  have HK3 := Lib.hid (HK2.out.trans hk3 (by simp))
  have HGB : Hid (b < g) := by have := HLO.out.2; show _ < _; omega
  have HLO3 : Hid (w.heap.size ≤ b ∧ w.heap.size ≤ g) := ⟨HLO.out.1, by have := HK2.out.size; omega⟩
  have H64 := Lib.hid (sheetW_64 ws HWS.out)
  have HU := Lib.hid (paUsed_at HS3.out H64.out i)
  have HST := Lib.hid (paSet_at HS3.out H64.out (by simp) i u)
  have HO3 := Lib.hid ho3
  clear ho3 hg3 hk3 HB2 HK2 HL2 HBI HS2 HLO
  have hcase : (isBl i = false ∧ (i < 0 ∨ 256 ≤ i)) ∨ i = 0 ∨ (0 < i ∧ i < 256) := by
    by_cases h : 0 ≤ i ∧ i < 256
    · omega
    · exact .inl ⟨by cases e : isBl i; rfl; exact absurd (isBl_iff.1 e) h, by omega⟩
  rcases hcase with ⟨hb, hi⟩ | rfl | ⟨hi0, hi1⟩
  · rw [show usedB (putAll (sheetW ws) []) i = true by unfold usedB; rw [hb]; rfl] at HU
    have hps : setPs (putAll (sheetW ws) []) i.toNat u = [] := by
      unfold setPs
      rw [if_pos (by omega)]
    rw [hps] at HST
    clear hps hb
    have HEQ := Lib.hid (bitsB_used ws)
    have HBL := Lib.hid (bitsB_len ws 256)
    generalize bitsB ws 256 = BL at *
    obtain ⟨PS, hPS⟩ : ∃ PS : List (Int × Int), PS = [] ++ [] := ⟨_, rfl⟩
    have HPS := Lib.hid hPS
    clear hPS
    rw [← HPS.out] at HST
    have hi : (i < 0 ∧ ¬ 0 ≤ i) ∨ (256 ≤ i ∧ ¬ i < 0 ∧ 0 ≤ i ∧ ¬ i < 256) := by omega
    rcases hi with ⟨hi, hi2⟩ | ⟨hi, hi0, hi2, hi3⟩
    all_goals
      go_wp2_with fail
      refine HU.out.mono ?_; rintro e w' ⟨rfl, rfl⟩
      go_wp2_with fail
      refine HST.out.mono ?_; rintro e w4 ⟨rfl, gp', p1, hs4, hk4⟩
      have HTOLD : Hid (Told w w4 b gp' g (sheetW ws) PS BL) := by
        have hne : g ∉ [b, b] := by have := HGB.out; simp; omega
        refine ⟨hs4, by rw [HPS.out]; exact H64.out, HO3.out.keep hk4 hne, HBL.out, by rw [HPS.out]; exact HEQ.out, HK3.out.trans hk4 fun x hx => ?_, by rw [HPS.out]; simp⟩
        have := HLO3.out
        simp only [List.mem_cons, List.not_mem_nil, or_false] at hx
        omega
      clear p1 hs4 hk4 HST HU
      have HDC := Lib.hid (diffTo_count (sheetW ws) PS)
      go_wp2_with fail
      go_loopg [10] 256 (fun gh s10 wx => ∃ k : Nat, k + gh = 256 ∧ s10 = .int .i64 (k : Int) ∧ Hid (Told w wx b gp' g (sheetW ws) PS BL))
      case atStart => exact ⟨0, by omega, rfl, HTOLD.out⟩
      case round =>
        clear HTOLD
        obtain ⟨k, hk, rfl, HR⟩ := hrel
        cases gk with
        | zero =>
          obtain rfl : k = 256 := by omega
          clear hk
          have HP := Lib.hid (txPairs_at HR.out.sh)
          have hle := HDC.out HR.out.one 3128
          go_wp2_with fail
          refine HP.out.mono ?_; rintro e w6 ⟨v, g6, rfl, hpr, hg6, hk6⟩
          obtain ⟨a6, cap6, rfl, q1, q2⟩ := hpr.val
          generalize (diffTo (sheetW ws) (putAll (sheetW ws) PS) 3128).length = n at *
          have hn1 : (n : Int) ≤ 1 := by omega
          have HB : Hid (Below w.heap.size w w6) := (HR.out.kp.trans hk6 (by simp)).below (Nat.le_refl _) (by simp)
          clear hpr hg6 hk6 q1 q2 HP
          go_wp2_with fail
          go_ret
          exact ⟨rfl, HB.out⟩
        | succ gg =>
          have hk2 : k < 256 := by omega
          have hlt : (k : Int) < 256 := by omega
          have hk0 : (0 : Int) ≤ (k : Int) := by omega
          have HUQ : Hid (∀ q, Calls Tryd.prog 10 #[.pointer (some ⟨b, 0, none⟩), .int .i64 (k : Int)] (wr.drewN q) fun e w' => e = .returned (.bool (BL.getD k false)) ∧ w' = wr.drewN q) := fun q => by
            have := paUsed_at (HR.out.sh.keep ((Keeps.refl [] wr).drewN q) (by simp) (by simp)) HR.out.i64 (k : Int)
            rw [show usedB (putAll (sheetW ws) PS) (k : Int) = BL.getD k false by
              unfold usedB
              rw [if_pos (isBl_iff.2 ⟨hk0, hlt⟩), Int.toNat_natCast]
              exact HR.out.eq k hk2] at this
            exact this.mono fun e w' h => ⟨h.1, h.2.symm⟩
          obtain ⟨-, hc, -⟩ := bools_getO HR.out.ow HR.out.len hk2
          generalize BL.getD k false = t at *
          go_wp2_with fail
          go_quiet ((go_at_call 10; exact Calls.quiet_of_same (HUQ.out _)))
          go_wp2_with fail
          go_roundg gg
          case measure => omega
          case rel => exact ⟨k + 1, by omega, by go_num, HR.out.keep ((Keeps.refl [] wr).drewN _)⟩
  · have hps : setPs (putAll (sheetW ws) []) (0 : Int).toNat u = [] := by simp [setPs]
    rw [hps] at HST
    clear hps
    have hu : usedB (putAll (sheetW ws) []) 0 = (bitsB ws 256).getD 0 false := by
      unfold usedB
      rw [if_pos (by decide)]
      exact bitsB_used ws 0 (by omega)
    rw [hu] at HU
    have HEQ := Lib.hid (bitsB_used ws)
    have HBL := Lib.hid (bitsB_len ws 256)
    generalize bitsB ws 256 = BL at *
    obtain ⟨PS, hPS⟩ : ∃ PS : List (Int × Int), PS = [] ++ [] := ⟨_, rfl⟩
    have HPS := Lib.hid hPS
    clear hPS
    rw [← HPS.out] at HST
    obtain ⟨-, hc, -⟩ := bools_getO HO3.out HBL.out (show 0 < 256 by omega)
    clear hu
    generalize BL.getD 0 false = t at *
    go_wp2_with fail
    refine HU.out.mono ?_; rintro e w' ⟨rfl, rfl⟩
    go_wp2_with fail
    refine HST.out.mono ?_; rintro e w4 ⟨rfl, gp', p1, hs4, hk4⟩
    have HTOLD : Hid (Told w w4 b gp' g (sheetW ws) PS BL) := by
      have hne : g ∉ [b, b] := by have := HGB.out; simp; omega
      refine ⟨hs4, by rw [HPS.out]; exact H64.out, HO3.out.keep hk4 hne, HBL.out, by rw [HPS.out]; exact HEQ.out, HK3.out.trans hk4 fun x hx => ?_, by rw [HPS.out]; simp⟩
      have := HLO3.out
      simp only [List.mem_cons, List.not_mem_nil, or_false] at hx
      omega
    clear p1 hs4 hk4 HST HU hc
    have HDC := Lib.hid (diffTo_count (sheetW ws) PS)
    go_wp2_with fail
    go_loopg [10] 256 (fun gh s10 wx => ∃ k : Nat, k + gh = 256 ∧ s10 = .int .i64 (k : Int) ∧ Hid (Told w wx b gp' g (sheetW ws) PS BL))
    case atStart => exact ⟨0, by omega, rfl, HTOLD.out⟩
    case round =>
      clear HTOLD
      obtain ⟨k, hk, rfl, HR⟩ := hrel
      cases gk with
      | zero =>
        obtain rfl : k = 256 := by omega
        clear hk
        have HP := Lib.hid (txPairs_at HR.out.sh)
        have hle := HDC.out HR.out.one 3128
        go_wp2_with fail
        refine HP.out.mono ?_; rintro e w6 ⟨v, g6, rfl, hpr, hg6, hk6⟩
        obtain ⟨a6, cap6, rfl, q1, q2⟩ := hpr.val
        generalize (diffTo (sheetW ws) (putAll (sheetW ws) PS) 3128).length = n at *
        have hn1 : (n : Int) ≤ 1 := by omega
        have HB : Hid (Below w.heap.size w w6) := (HR.out.kp.trans hk6 (by simp)).below (Nat.le_refl _) (by simp)
        clear hpr hg6 hk6 q1 q2 HP
        go_wp2_with fail
        go_ret
        exact ⟨rfl, HB.out⟩
      | succ gg =>
        have hk2 : k < 256 := by omega
        have hlt : (k : Int) < 256 := by omega
        have hk0 : (0 : Int) ≤ (k : Int) := by omega
        have HUQ : Hid (∀ q, Calls Tryd.prog 10 #[.pointer (some ⟨b, 0, none⟩), .int .i64 (k : Int)] (wr.drewN q) fun e w' => e = .returned (.bool (BL.getD k false)) ∧ w' = wr.drewN q) := fun q => by
          have := paUsed_at (HR.out.sh.keep ((Keeps.refl [] wr).drewN q) (by simp) (by simp)) HR.out.i64 (k : Int)
          rw [show usedB (putAll (sheetW ws) PS) (k : Int) = BL.getD k false by
            unfold usedB
            rw [if_pos (isBl_iff.2 ⟨hk0, hlt⟩), Int.toNat_natCast]
            exact HR.out.eq k hk2] at this
          exact this.mono fun e w' h => ⟨h.1, h.2.symm⟩
        obtain ⟨-, hc, -⟩ := bools_getO HR.out.ow HR.out.len hk2
        generalize BL.getD k false = t at *
        go_wp2_with fail
        go_quiet ((go_at_call 10; exact Calls.quiet_of_same (HUQ.out _)))
        go_wp2_with fail
        go_roundg gg
        case measure => omega
        case rel => exact ⟨k + 1, by omega, by go_num, HR.out.keep ((Keeps.refl [] wr).drewN _)⟩
  · obtain ⟨j, rfl⟩ := Int.eq_ofNat_of_zero_le (show 0 ≤ i by omega)
    have hj0 : j ≠ 0 := by omega
    have hj1 : j < 256 := by omega
    have hu : usedB (putAll (sheetW ws) []) (j : Int) = (bitsB ws 256).getD j false := by
      unfold usedB
      rw [if_pos (isBl_iff.2 ⟨by omega, hi1⟩), Int.toNat_natCast]
      exact bitsB_used ws j hj1
    rw [hu] at HU
    rw [Int.toNat_natCast] at HST
    have HEQ : Hid (∀ k, k < 256 → usedN (putAll (sheetW ws) (setPs (sheetW ws) j u)) k = ((bitsB ws 256).set j u).getD k false) := fun k hk => by
      rw [usedN_set H64.out (laidX_len _ _ _) j hj0 hj1, getD_setB _ _ _ _ (by rw [bitsB_len]; exact hj1), bitsB_used ws k hk]
      by_cases e : k = j
      · rw [if_pos e, if_pos e.symm]
      · rw [if_neg e, if_neg fun h => e h.symm]
    have H64N : Hid (In64 (putAll (sheetW ws) (setPs (sheetW ws) j u))) := H64.out.put (setPs_in H64.out j u)
    have HONE : Hid ((setPs (sheetW ws) j u).length ≤ 1) := by show _ ≤ _; rw [setPs_len _ j hj0 hj1 u]; omega
    have HBL0 := Lib.hid (bitsB_len ws 256)
    have HBL : Hid (((bitsB ws 256).set j u).length = 256) := by show _ = _; rw [List.length_set, bitsB_len]
    have HST' : Hid (Calls Tryd.prog 11 #[.pointer (some ⟨b, 0, none⟩), .int .i64 (j : Int), .bool u] w3 (PutPost w3 b b (sheetW ws) (setPs (sheetW ws) j u))) := HST.out
    clear HST hu
    generalize setPs (sheetW ws) j u = PS at *
    obtain ⟨-, hc, -⟩ := bools_getO HO3.out HBL0.out hj1
    have HOS := Lib.hid (fun (wx : World) (h : Owns wx (.slice (some ⟨g, 0, none⟩) 256 256) g 4 1 256 (bools (bitsB ws 256))) => h.setB j u)
    generalize (bitsB ws 256).getD j false = t at *
    generalize (bitsB ws 256).set j u = BL at *
    have hj2 : (j : Int) ≤ 255 := by omega
    have hj3 : (0 : Int) ≤ (j : Int) := by omega
    go_wp2_with fail
    refine HU.out.mono ?_; rintro e w' ⟨rfl, rfl⟩
    clear hj0 hj1
    go_wp2_with fail
    refine HST'.out.mono ?_; rintro e w4 ⟨rfl, gp', p1, hs4, hk4⟩
    have hne : g ∉ [b, b] := by have := HGB.out; simp; omega
    have ho4 := HO3.out.keep hk4 hne
    obtain ⟨-, hc4, hf4⟩ := bools_getO ho4 HBL0.out (show j < 256 by omega)
    have HTOLD : Hid (Told w (w4.setCell ⟨g, j, none⟩ (.bool u)) b gp' g (sheetW ws) PS BL) := by
      have hlt := hk4.size
      obtain ⟨hg3, -, -, -⟩ := HO3.out.cell (by omega)
      have hk5 : Keeps [g] w4 (w4.setCell ⟨g, j, none⟩ (.bool u)) := (Keeps.refl [g] _).setCell (by simp) _
      refine ⟨hs4.keep hk5 (by have := HGB.out; simp; omega) (by have := HGB.out; simp; omega), H64N.out, HOS.out _ ho4, HBL.out, HEQ.out, (HK3.out.trans hk4 fun x hx => ?_).trans hk5 fun x hx => ?_, HONE.out⟩
      · have := HLO3.out
        simp only [List.mem_cons, List.not_mem_nil, or_false] at hx
        omega
      · have := HLO3.out
        simp only [List.mem_cons, List.not_mem_nil, or_false] at hx
        omega
    clear p1 hs4 hk4 HST' HU hc hne ho4 HOS
    generalize (bitsB ws 256).getD j false = t' at *
    have HDC := Lib.hid (diffTo_count (sheetW ws) PS)
    go_wp2_with fail
    go_loopg [10] 256 (fun gh s10 wx => ∃ k : Nat, k + gh = 256 ∧ s10 = .int .i64 (k : Int) ∧ Hid (Told w wx b gp' g (sheetW ws) PS BL))
    case atStart => exact ⟨0, by omega, rfl, HTOLD.out⟩
    case round =>
      clear HTOLD
      obtain ⟨k, hk, rfl, HR⟩ := hrel
      cases gk with
      | zero =>
        obtain rfl : k = 256 := by omega
        clear hk
        have HP := Lib.hid (txPairs_at HR.out.sh)
        have hle := HDC.out HR.out.one 3128
        go_wp2_with fail
        refine HP.out.mono ?_; rintro e w6 ⟨v, g6, rfl, hpr, hg6, hk6⟩
        obtain ⟨a6, cap6, rfl, q1, q2⟩ := hpr.val
        generalize (diffTo (sheetW ws) (putAll (sheetW ws) PS) 3128).length = n at *
        have hn1 : (n : Int) ≤ 1 := by omega
        have HB : Hid (Below w.heap.size w w6) := (HR.out.kp.trans hk6 (by simp)).below (Nat.le_refl _) (by simp)
        clear hpr hg6 hk6 q1 q2 HP
        go_wp2_with fail
        go_ret
        exact ⟨rfl, HB.out⟩
      | succ gg =>
        have hk2 : k < 256 := by omega
        have hlt : (k : Int) < 256 := by omega
        have hk0 : (0 : Int) ≤ (k : Int) := by omega
        have HUQ : Hid (∀ q, Calls Tryd.prog 10 #[.pointer (some ⟨b, 0, none⟩), .int .i64 (k : Int)] (wr.drewN q) fun e w' => e = .returned (.bool (BL.getD k false)) ∧ w' = wr.drewN q) := fun q => by
          have := paUsed_at (HR.out.sh.keep ((Keeps.refl [] wr).drewN q) (by simp) (by simp)) HR.out.i64 (k : Int)
          rw [show usedB (putAll (sheetW ws) PS) (k : Int) = BL.getD k false by
            unfold usedB
            rw [if_pos (isBl_iff.2 ⟨hk0, hlt⟩), Int.toNat_natCast]
            exact HR.out.eq k hk2] at this
          exact this.mono fun e w' h => ⟨h.1, h.2.symm⟩
        obtain ⟨-, hc, -⟩ := bools_getO HR.out.ow HR.out.len hk2
        generalize BL.getD k false = t at *
        go_wp2_with fail
        go_quiet ((go_at_call 10; exact Calls.quiet_of_same (HUQ.out _)))
        go_wp2_with fail
        go_roundg gg
        case measure => omega
        case rel => exact ⟨k + 1, by omega, by go_num, HR.out.keep ((Keeps.refl [] wr).drewN _)⟩

end Go.Proofs.YtpndogcdmoeemaaDoor
