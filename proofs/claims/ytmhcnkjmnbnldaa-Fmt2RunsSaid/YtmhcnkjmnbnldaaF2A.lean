/-
  Layer 7 (fmt2): isBlock, runWord, Runs.
-/
import Derived.Test.YtmhcnkjmnbnldaaF2M
import Derived.Test.YtmhcnkjmnbnldaaCelU
import Derived.Test.YtmhcnkjmnbnldaaReg
import Derived.WalkMore
import Derived.Laws.BitsAllLaws
namespace Go.Proofs.Ytmhcnkjmnbnldaa
open Go.RowKit

/-- One cell of an integer's type loaded. -/
theorem load_cellK {P : Program} {w : World} {ty : TypeId} {k : IntKind} {ad : Addr} {v : Value} (hu : P.underlying ty = some (.int k)) (hc : w.cell? ad = some v) : (loadVar ty ad).run P w = .ok v w := by
  have hagg : (isAgg ty).run P w = .ok false w := by
    unfold isAgg
    rw [Sem.run_bind, run_underlying hu w]
    rfl
  simp [loadVar, Sem.run_bind, hagg, hc]

set_option maxHeartbeats 400000 in
theorem isBlock_at (i : Int) (w : World) : Calls Try.prog 7 #[.int .i64 i] w fun e w' => e = .returned (.bool (decide (isB i))) ∧ w = w' := by
  by_cases h0 : 0 < i
  · by_cases h1 : i < 256
    · rw [decide_eq_true (show isB i from ⟨h0, h1⟩)]
      go_enter Try.func7, Try.ntmps7
      go_wp2
      go_ret
      exact ⟨rfl, rfl⟩
    · rw [decide_eq_false (show ¬ isB i from fun h => h1 h.2)]
      go_enter Try.func7, Try.ntmps7
      go_wp2
      go_ret
      exact ⟨rfl, rfl⟩
  · rw [decide_eq_false (show ¬ isB i from fun h => h0 h.1)]
    go_enter Try.func7, Try.ntmps7
    go_wp2
    go_ret
    exact ⟨rfl, rfl⟩

theorem run_or (p b n : Nat) (hb : b < 256) (hp : p < 256) (hn : n < 256) : bits .or .u64 ((p : Int) * 4294967296) ((b : Int) * 256) = ((p * 4294967296 + b * 256 : Nat) : Int) ∧ bits .or .u64 ((p * 4294967296 + b * 256 : Nat) : Int) (n : Int) = ((p * 4294967296 + b * 256 + n : Nat) : Int) := by
  constructor
  · rw [show (p : Int) * 4294967296 = ((p * 4294967296 : Nat) : Int) by omega, show (b : Int) * 256 = ((b * 256 : Nat) : Int) by omega, u64_or_nat _ _ (by omega) (by omega), nat_join 32 _ _ (by exact Nat.mul_mod_left _ _) (show b * 256 < 4294967296 by omega)]
  · rw [u64_or_nat _ _ (by omega) (by omega), nat_join 8 _ _ (by omega) hn]

set_option maxRecDepth 100000 in
set_option maxHeartbeats 1000000 in
theorem runWord_core (p b n x y : Nat) (hb : b < 256) (hp : p < 256) (hn : n < 256) (q1 : bits .or .u64 ((p : Int) * 4294967296) ((b : Int) * 256) = (y : Int)) (q2 : bits .or .u64 (y : Int) (n : Int) = (x : Int)) (w : World) :
    Calls Try.prog 8 #[.int .i64 (p : Int), .int .i64 (b : Int), .int .i64 (n : Int)] w fun e w' => e = .returned (.int .u64 (x : Int)) ∧ w = w' := by
  go_enter Try.func8, Try.ntmps8
  go_wp2_with fail
  go_ret
  exact ⟨rfl, rfl⟩

theorem runWord_at (p b n : Nat) (hb : b < 256) (hp : p < 256) (hn : n < 256) (w : World) : Calls Try.prog 8 #[.int .i64 (p : Int), .int .i64 (b : Int), .int .i64 (n : Int)] w fun e w' => e = .returned (.int .u64 (runW p (b : Int) n)) ∧ w = w' := by
  obtain ⟨q1, q2⟩ := run_or p b n hb hp hn
  have hw : runW p (b : Int) n = ((p * 4294967296 + b * 256 + n : Nat) : Int) := by unfold runW; omega
  rw [hw]
  exact runWord_core p b n _ _ hb hp hn q1 q2 w

/-- How far the words have come. -/
def Words (w : World) (L : List Int) (v : Value) (wx : World) : Prop := wx.ownsRow (w.heap.size + 1) 26 1 v L.length (u64s L) ∧ L.length ≤ 13 ∧ Keeps [] w wx

theorem Words.made {w wx : World} {L : List Int} {v : Value} (h : Words w L v wx) : MadeWords w L (.returned v) wx := by
  obtain ⟨g, ho, hg⟩ := Owns.of_row h.1
  by_cases h0 : L.length = 0
  · exact ⟨v, w.heap.size, rfl, ho.reads.anyG (by rw [List.eq_nil_of_length_eq_zero h0]; rfl) _, Nat.le_refl _, h.2.2⟩
  · exact ⟨v, g, rfl, ho.reads, by have := (hg h0).1; omega, h.2.2⟩

set_option maxRecDepth 100000 in
set_option maxHeartbeats 8000000 in
theorem runs_at (l : List Int) (hl : l.length = 13) (w : World) : Calls Try.prog 5 #[.agg (zs l).toArray] w (MadeWords w (runsL l)) := by
  obtain ⟨i0, hi, hz0, hz1, hz2⟩ := info_parts Try.info_u64
  have hb0 := Blk.new w (zs l).toArray 22
  have HB0 := Lib.hid hb0
  have HK0 : Hid (Keeps [] w (w.alloc (.cells (zs l).toArray 22))) := (Keeps.refl _ _).alloc _
  have HC0 : Hid (∀ wx k, k < 13 → Keeps [] (w.alloc (.cells (zs l).toArray 22)) wx → wx.cell? ⟨w.heap.size, k, none⟩ = some (.int .i64 (l.getD k 0))) := fun wx k hk hkp => by
    rw [(hb0.keep hkp (by simp)).cell, List.getElem?_toArray, zs_get (by omega)]
  clear hb0
  have HL := Lib.hid hl
  clear hl
  generalize hz : (zs l).toArray = Z at *
  clear hz
  go_enter Try.func5, Try.ntmps5
  go_wp2_with fail
  go_step3
  go_wp2_with fail
  go_step3
  go_wp2_with fail
  go_loopg [3, 4] 13 (fun gh s3 s4 wx => ∃ f : Nat, f + gh = 13 ∧ s4 = .int .i64 (f : Int) ∧ Hid (wx.ownsRow (w.heap.size + 1) 26 1 s3 (runsTo l f).length (u64s (runsTo l f)) ∧ ¬ contP l f ∧ Keeps [] (w.alloc (.cells Z 22)) wx))
  case atStart => exact ⟨0, by omega, rfl, ⟨rfl, .inl ⟨rfl, rfl⟩⟩, fun h => absurd h.1 (by omega), Keeps.refl _ _⟩
  case round =>
    obtain ⟨f, hf, rfl, HR⟩ := hrel
    cases gk with
    | zero =>
      obtain rfl : f = 13 := by omega
      have HM : Hid (MadeWords w (runsL l) (.returned u3) wr) := Words.made ⟨HR.out.1, runsTo_len l 13, HK0.out.trans' HR.out.2.2⟩
      clear hf HR
      go_wp2_with fail
      rw [Exit.noGoto_ret]
      go_ret
      exact HM.out
    | succ gg =>
      have hf13 : f < 13 := by omega
      have hlt : (f : Int) < 13 := by omega
      have hf0 : (0 : Int) ≤ (f : Int) := by omega
      have hcf := HC0.out wr f hf13 HR.out.2.2
      have HISB := Lib.hid (isBlock_at (l.getD f 0))
      by_cases hB : isB (l.getD f 0)
      · rw [decide_eq_true hB] at HISB
        have HST : Hid (startP l f) := ⟨hB, HR.out.2.1⟩
        have HB := Lib.hid hB
        have hx1 : 0 < l.getD f 0 := hB.1
        have hx2 : l.getD f 0 < 256 := hB.2
        have HOW := Lib.hid HR.out.1
        have HKP := Lib.hid HR.out.2.2
        have HRL := Lib.hid (runsTo_len l f)
        clear HR hB
        generalize hx : l.getD f 0 = x at *
        have HX := Lib.hid hx
        clear hx
        go_wp2_with fail
        refine (HISB.out _).mono ?_; rintro e w1 ⟨rfl, rfl⟩
        go_wp2_with fail
        clear hcf
        obtain ⟨a, cap, rfl, q1, q2⟩ := ownsRow_val HOW.out
        go_loopg [3, 4, 5] (12 - f) (fun gh s3 s4 s5 wx => ∃ j : Nat, s3 = .slice a (runsTo l f).length cap ∧ s4 = .int .i64 (f : Int) ∧ j + gh = 13 ∧ s5 = .int .i64 (j : Int) ∧ Hid (f < j ∧ (∀ i, f < i → i < j → contP l i) ∧ wx.ownsRow (w.heap.size + 1) 26 1 (.slice a (runsTo l f).length cap) (runsTo l f).length (u64s (runsTo l f)) ∧ Keeps [] (w.alloc (.cells Z 22)) wx))
        case atStart => exact ⟨f + 1, rfl, rfl, by omega, by go_num, by omega, fun i h1 h2 => by omega, HOW.out, HKP.out⟩
        case round =>
          clear HOW HKP
          obtain ⟨j, rfl, rfl, hj, rfl, HR⟩ := hrel
          obtain ⟨hfj, hcont, hown, hkp⟩ := HR.out
          have HCONT := Lib.hid hcont
          have HOW := Lib.hid hown
          have HKP := Lib.hid hkp
          have hj0 : (0 : Int) ≤ (j : Int) := by omega
          have hb1 : isB (l.getD f 0) := by rw [HX.out]; exact HB.out
          have HCI := Lib.hid (cont_iff hb1 hfj hcont)
          have hwr := hkp.size
          clear HR hown hcont hkp hb1
          have HLD : Hid (∀ wx k, k < 13 → Keeps [] wr wx → (loadVar 3 ⟨w.heap.size, k, none⟩).run Try.prog wx = .ok (.int .i64 (l.getD k 0)) wx) := fun wx k hk hkp => load_cellK Try.underlying3 (HC0.out wx k hk (HKP.out.trans' hkp))
          by_cases hj13 : j < 13
          · have hjlt : (j : Int) < 13 := by omega
            have HISJ := Lib.hid (isBlock_at (l.getD j 0))
            obtain ⟨y, hy⟩ : ∃ y, y = l.getD j 0 := ⟨_, rfl⟩
            obtain ⟨z, hz⟩ : ∃ z, z = l.getD (j - 1) 0 := ⟨_, rfl⟩
            rw [← hy] at HISJ
            rw [← hy, ← hz] at HCI
            have HLY : Hid (∀ wx, Keeps [] wr wx → (loadVar 3 ⟨w.heap.size, j, none⟩).run Try.prog wx = .ok (.int .i64 y) wx) := fun wx hk => by rw [hy]; exact HLD.out wx j hj13 hk
            obtain ⟨q, hq⟩ : ∃ q, q = j - 1 := ⟨_, rfl⟩
            have hzB : isB z := by
              have : isB (l.getD f 0) := by rw [HX.out]; exact HB.out
              rw [hz]
              exact run_isB this HCONT.out (j - 1) (by omega) (by omega)
            have HLZ : Hid (∀ wx, Keeps [] wr wx → (loadVar 3 ⟨w.heap.size, q, none⟩).run Try.prog wx = .ok (.int .i64 z) wx) := fun wx hk => by rw [hz, hq]; exact HLD.out wx (j - 1) (by omega) hk
            have hq1 : (j : Int) - 1 = (q : Int) := by omega
            have hq2 : IntKind.i64.wrap (q : Int) = (q : Int) := IntWalk.i64_in _ (by omega)
            have hq0 : (0 : Int) ≤ (q : Int) := by omega
            have hq13 : (q : Int) < 13 := by omega
            have hzw : IntKind.i64.wrap (z + 1) = z + 1 := IntWalk.i64_in _ (by have := hzB.1; have := hzB.2; omega)
            clear hy hz HLD hq hzB
            have hjB : (j < 13) = True := eq_true hj13
            by_cases hY : isB y
            · rw [decide_eq_true hY] at HISJ
              by_cases hyz : y = z + 1
              · have hC : contP l j := HCI.out.2 ⟨hj13, hY, hyz⟩
                have HN : Hid (f < j + 1 ∧ (∀ i, f < i → i < j + 1 → contP l i) ∧ Keeps [] wr wr) := by
                  refine ⟨by omega, fun i h1 h2 => ?_, Keeps.refl _ _⟩
                  by_cases e : i = j
                  · subst e; exact hC
                  · exact HCONT.out i h1 (by omega)
                have heq : (y == z + 1) = true := by simp [hyz]
                clear hC HCI hyz
                go_wp2_with fail
                refine wp_region_each (S := fun wx => Keeps [] wr wx) (by kernel_rfl) (by kernel_rfl) (fun d _ _ _ _ h => by cases d <;> exact h) ((Keeps.refl _ _).drew) (by kernel_rfl) ?_
                repeat (first
                  | (refine EachList.cons (.int .i64 y) (EachIf.load rfl 3 (.tmp 23) rfl _ rfl fun wx hx => HLY.out wx hx) ?_; simp only [Act.put, List.setIfInBounds_toArray, List.set_cons_zero, List.set_cons_succ])
                  | (refine EachList.cons (.int .i64 y) (EachIf.load rfl 3 (.tmp 29) rfl _ rfl fun wx hx => HLY.out wx hx) ?_; simp only [Act.put, List.setIfInBounds_toArray, List.set_cons_zero, List.set_cons_succ])
                  | (refine EachList.cons (.int .i64 z) (EachIf.load rfl 3 (.tmp 33) rfl _ rfl fun wx hx => HLZ.out wx hx) ?_; simp only [Act.put, List.setIfInBounds_toArray, List.set_cons_zero, List.set_cons_succ])
                  | (refine EachList.cons (.bool true) (EachIf.call rfl 7 #[.int .i64 y] ?he ?h) ?_; (case he => (intro wz; go_simp)); (case h => exact fun wx hx => (HISJ.out wx).mono fun e w' he => ⟨he.1, he.2 ▸ hx⟩); simp only [Act.put, List.setIfInBounds_toArray, List.set_cons_zero, List.set_cons_succ])
                  | (refine EachList.cons undef (EachIf.off rfl) ?_; simp only [Act.put, List.setIfInBounds_toArray, List.set_cons_zero, List.set_cons_succ])
                  | (with_reducible show EachList _ _ _ _ (⟨_, _, 4, _, _, _⟩ :: _) _; refine EachList.cons (.bool true) (EachIf.val rfl ?h) ?_; (case h => (intro wx hx; clear hx; first | (go_simp; done) | (go_simp; simp [hjB, heq]; done))); simp only [Act.put, List.setIfInBounds_toArray, List.set_cons_zero, List.set_cons_succ])
                  | (with_reducible show EachList _ _ _ _ (⟨_, _, 4, _, _, _⟩ :: _) _; refine EachList.cons (.bool false) (EachIf.val rfl ?h) ?_; (case h => (intro wx hx; clear hx; first | (go_simp; done) | (go_simp; simp [hjB, heq]; done))); simp only [Act.put, List.setIfInBounds_toArray, List.set_cons_zero, List.set_cons_succ])
                  | (refine EachList.cons ?_ (EachIf.val rfl ?h) ?_; (case h => (intro wx hx; clear hx; go_simp; rfl)); simp only [Act.put, List.setIfInBounds_toArray, List.set_cons_zero, List.set_cons_succ]))
                refine EachList.done fun wx hx => ?_
                have HKX := Lib.hid hx
                have HOX := Lib.hid (ownsRow_keep HOW.out hx (by simp))
                clear hx
                go_wp2_with fail
                go_roundg (gk - 1)
                case measure => omega
                case rel => exact ⟨j + 1, rfl, rfl, by omega, by go_num, HN.out.1, HN.out.2.1, HOX.out, HKP.out.trans' HKX.out⟩
              · have HNC : Hid (¬ contP l j) := fun h => hyz (HCI.out.1 h).2.2
                have HFJ := Lib.hid hfj
                have heq : (y == z + 1) = false := beq_eq_false_iff_ne.2 hyz
                clear HCI hyz
                go_wp2_with fail
                refine wp_region_each (S := fun wx => Keeps [] wr wx) (by kernel_rfl) (by kernel_rfl) (fun d _ _ _ _ h => by cases d <;> exact h) ((Keeps.refl _ _).drew) (by kernel_rfl) ?_
                repeat (first
                  | (refine EachList.cons (.int .i64 y) (EachIf.load rfl 3 (.tmp 23) rfl _ rfl fun wx hx => HLY.out wx hx) ?_; simp only [Act.put, List.setIfInBounds_toArray, List.set_cons_zero, List.set_cons_succ])
                  | (refine EachList.cons (.int .i64 y) (EachIf.load rfl 3 (.tmp 29) rfl _ rfl fun wx hx => HLY.out wx hx) ?_; simp only [Act.put, List.setIfInBounds_toArray, List.set_cons_zero, List.set_cons_succ])
                  | (refine EachList.cons (.int .i64 z) (EachIf.load rfl 3 (.tmp 33) rfl _ rfl fun wx hx => HLZ.out wx hx) ?_; simp only [Act.put, List.setIfInBounds_toArray, List.set_cons_zero, List.set_cons_succ])
                  | (refine EachList.cons (.bool true) (EachIf.call rfl 7 #[.int .i64 y] ?he ?h) ?_; (case he => (intro wz; go_simp)); (case h => exact fun wx hx => (HISJ.out wx).mono fun e w' he => ⟨he.1, he.2 ▸ hx⟩); simp only [Act.put, List.setIfInBounds_toArray, List.set_cons_zero, List.set_cons_succ])
                  | (refine EachList.cons undef (EachIf.off rfl) ?_; simp only [Act.put, List.setIfInBounds_toArray, List.set_cons_zero, List.set_cons_succ])
                  | (with_reducible show EachList _ _ _ _ (⟨_, _, 4, _, _, _⟩ :: _) _; refine EachList.cons (.bool true) (EachIf.val rfl ?h) ?_; (case h => (intro wx hx; clear hx; first | (go_simp; done) | (go_simp; simp [hjB, heq]; done))); simp only [Act.put, List.setIfInBounds_toArray, List.set_cons_zero, List.set_cons_succ])
                  | (with_reducible show EachList _ _ _ _ (⟨_, _, 4, _, _, _⟩ :: _) _; refine EachList.cons (.bool false) (EachIf.val rfl ?h) ?_; (case h => (intro wx hx; clear hx; first | (go_simp; done) | (go_simp; simp [hjB, heq]; done))); simp only [Act.put, List.setIfInBounds_toArray, List.set_cons_zero, List.set_cons_succ])
                  | (refine EachList.cons ?_ (EachIf.val rfl ?h) ?_; (case h => (intro wx hx; clear hx; go_simp; rfl)); simp only [Act.put, List.setIfInBounds_toArray, List.set_cons_zero, List.set_cons_succ]))
                refine EachList.done fun wx hx => ?_
                have HOX := Lib.hid (ownsRow_keep HOW.out hx (by simp))
                have HKX := Lib.hid (HKP.out.trans' hx)
                have hcx := HC0.out wx f hf13 (HKP.out.trans' hx)
                rw [HX.out] at hcx
                have hwx : w.heap.size + 1 ≤ wx.heap.size := by have := hx.size; simp at hwr; omega
                clear hx
                obtain ⟨b, hb⟩ : ∃ b : Nat, x = (b : Int) := ⟨x.toNat, by omega⟩
                obtain ⟨n, hn⟩ : ∃ n : Nat, n = j - f := ⟨_, rfl⟩
                have hjf : (j : Int) - (f : Int) = (n : Int) := by omega
                have hjf2 : IntKind.i64.wrap (n : Int) = (n : Int) := IntWalk.i64_in _ (by omega)
                have HRW := Lib.hid (runWord_at f b n (by omega) (by omega) (by omega))
                have HRUN : Hid (runsTo l j = runsTo l f ++ [runW f (b : Int) n]) := by
                  have := runsTo_run HST.out HFJ.out (by omega) HCONT.out HNC.out
                  rw [HX.out, hb] at this
                  rw [hn]
                  exact this
                rw [hb] at hcx
                have HFJ2 : Hid (j ≤ 13 ∧ n = j - f) := ⟨by omega, hn⟩
                have HMS := Lib.hid hf
                clear hb hn hf
                generalize runW f (b : Int) n = W at *
                generalize hL : runsTo l f = L at *
                have HLE := Lib.hid hL
                clear hL
                have HLB := Lib.hid (show L.length ≤ 13 by have := HRL.out; omega)
                go_wp2_with fail
                refine (HRW.out _).mono ?_; rintro e w1 ⟨rfl, rfl⟩
                have hlb := HLB.out
                go_wp2_with (at_builtin; refine wpList_append_own _ rfl _ _ 24 rfl (w.heap.size + 1) 26 i0 (.int .u64 0) 1 8 Try.underlying24 hi hz0 hz1 hz2 rfl (by decide) (.slice a L.length cap) L.length _ rfl (HOX.out.alloc _) ⟨wx.heap.size, 0, none⟩ 1 1 [.int .u64 W] rfl rfl ?c1 ?c2 (by unfold maxLen; omega) (by omega) (by simp; omega) ?_)
                case c1 => exact new_cells _ [_] _ _ rfl
                case c2 => simp [Value.oneCell']
                intro v' w1 hown1 hgrow _
                have HO1 := Lib.hid hown1
                have HK1 := Lib.hid ((HKX.out.alloc _).grown hgrow (fun k hk => by have := ownsRow_block HOX.out k hk; simpa using this))
                clear hown1 hgrow
                go_wp2_with fail
                go_roundg (13 - j)
                case measure => have := HMS.out; have := HFJ.out; have := HFJ2.out.1; omega
                case rel =>
                  refine ⟨j, by have := HFJ2.out.1; omega, by go_num, ?_, HNC.out, HK1.out⟩
                  have := HO1.out
                  rw [HRUN.out, List.length_append, u64s_append]
                  exact this
            · have HNC : Hid (¬ contP l j) := fun h => hY (HCI.out.1 h).2.1
              have HFJ := Lib.hid hfj
              rw [decide_eq_false hY] at HISJ
              have heq : (1 : Int) = 1 := rfl
              clear HCI hY
              go_wp2_with fail
              refine wp_region_each (S := fun wx => Keeps [] wr wx) (by kernel_rfl) (by kernel_rfl) (fun d _ _ _ _ h => by cases d <;> exact h) ((Keeps.refl _ _).drew) (by kernel_rfl) ?_
              repeat (first
                | (refine EachList.cons (.int .i64 y) (EachIf.load rfl 3 (.tmp 23) rfl _ rfl fun wx hx => HLY.out wx hx) ?_; simp only [Act.put, List.setIfInBounds_toArray, List.set_cons_zero, List.set_cons_succ])
                | (refine EachList.cons (.int .i64 y) (EachIf.load rfl 3 (.tmp 29) rfl _ rfl fun wx hx => HLY.out wx hx) ?_; simp only [Act.put, List.setIfInBounds_toArray, List.set_cons_zero, List.set_cons_succ])
                | (refine EachList.cons (.int .i64 z) (EachIf.load rfl 3 (.tmp 33) rfl _ rfl fun wx hx => HLZ.out wx hx) ?_; simp only [Act.put, List.setIfInBounds_toArray, List.set_cons_zero, List.set_cons_succ])
                | (refine EachList.cons (.bool false) (EachIf.call rfl 7 #[.int .i64 y] ?he ?h) ?_; (case he => (intro wz; go_simp)); (case h => exact fun wx hx => (HISJ.out wx).mono fun e w' he => ⟨he.1, he.2 ▸ hx⟩); simp only [Act.put, List.setIfInBounds_toArray, List.set_cons_zero, List.set_cons_succ])
                | (refine EachList.cons undef (EachIf.off rfl) ?_; simp only [Act.put, List.setIfInBounds_toArray, List.set_cons_zero, List.set_cons_succ])
                | (with_reducible show EachList _ _ _ _ (⟨_, _, 4, _, _, _⟩ :: _) _; refine EachList.cons (.bool true) (EachIf.val rfl ?h) ?_; (case h => (intro wx hx; clear hx; first | (go_simp; done) | (go_simp; simp [hjB, heq]; done))); simp only [Act.put, List.setIfInBounds_toArray, List.set_cons_zero, List.set_cons_succ])
                | (with_reducible show EachList _ _ _ _ (⟨_, _, 4, _, _, _⟩ :: _) _; refine EachList.cons (.bool false) (EachIf.val rfl ?h) ?_; (case h => (intro wx hx; clear hx; first | (go_simp; done) | (go_simp; simp [hjB, heq]; done))); simp only [Act.put, List.setIfInBounds_toArray, List.set_cons_zero, List.set_cons_succ])
                | (refine EachList.cons ?_ (EachIf.val rfl ?h) ?_; (case h => (intro wx hx; clear hx; go_simp; rfl)); simp only [Act.put, List.setIfInBounds_toArray, List.set_cons_zero, List.set_cons_succ]))
              refine EachList.done fun wx hx => ?_
              have HOX := Lib.hid (ownsRow_keep HOW.out hx (by simp))
              have HKX := Lib.hid (HKP.out.trans' hx)
              have hcx := HC0.out wx f hf13 (HKP.out.trans' hx)
              rw [HX.out] at hcx
              have hwx : w.heap.size + 1 ≤ wx.heap.size := by have := hx.size; simp at hwr; omega
              clear hx
              obtain ⟨b, hb⟩ : ∃ b : Nat, x = (b : Int) := ⟨x.toNat, by omega⟩
              obtain ⟨n, hn⟩ : ∃ n : Nat, n = j - f := ⟨_, rfl⟩
              have hjf : (j : Int) - (f : Int) = (n : Int) := by omega
              have hjf2 : IntKind.i64.wrap (n : Int) = (n : Int) := IntWalk.i64_in _ (by omega)
              have HRW := Lib.hid (runWord_at f b n (by omega) (by omega) (by omega))
              have HRUN : Hid (runsTo l j = runsTo l f ++ [runW f (b : Int) n]) := by
                have := runsTo_run HST.out HFJ.out (by omega) HCONT.out HNC.out
                rw [HX.out, hb] at this
                rw [hn]
                exact this
              rw [hb] at hcx
              have HFJ2 : Hid (j ≤ 13 ∧ n = j - f) := ⟨by omega, hn⟩
              have HMS := Lib.hid hf
              clear hb hn hf
              generalize runW f (b : Int) n = W at *
              generalize hL : runsTo l f = L at *
              have HLE := Lib.hid hL
              clear hL
              have HLB := Lib.hid (show L.length ≤ 13 by have := HRL.out; omega)
              go_wp2_with fail
              refine (HRW.out _).mono ?_; rintro e w1 ⟨rfl, rfl⟩
              have hlb := HLB.out
              go_wp2_with (at_builtin; refine wpList_append_own _ rfl _ _ 24 rfl (w.heap.size + 1) 26 i0 (.int .u64 0) 1 8 Try.underlying24 hi hz0 hz1 hz2 rfl (by decide) (.slice a L.length cap) L.length _ rfl (HOX.out.alloc _) ⟨wx.heap.size, 0, none⟩ 1 1 [.int .u64 W] rfl rfl ?c1 ?c2 (by unfold maxLen; omega) (by omega) (by simp; omega) ?_)
              case c1 => exact new_cells _ [_] _ _ rfl
              case c2 => simp [Value.oneCell']
              intro v' w1 hown1 hgrow _
              have HO1 := Lib.hid hown1
              have HK1 := Lib.hid ((HKX.out.alloc _).grown hgrow (fun k hk => by have := ownsRow_block HOX.out k hk; simpa using this))
              clear hown1 hgrow
              go_wp2_with fail
              go_roundg (13 - j)
              case measure => have := HMS.out; have := HFJ.out; have := HFJ2.out.1; omega
              case rel =>
                refine ⟨j, by have := HFJ2.out.1; omega, by go_num, ?_, HNC.out, HK1.out⟩
                have := HO1.out
                rw [HRUN.out, List.length_append, u64s_append]
                exact this
          · have HNC : Hid (¬ contP l j) := fun h => hj13 (HCI.out.1 h).1
            have HFJ := Lib.hid hfj
            have hjB : (j < 13) = False := eq_false hj13
            have hjlt : ¬ (j : Int) < 13 := by omega
            have heq : (1 : Int) = 1 := rfl
            clear HCI HLD
            go_wp2_with fail
            refine wp_region_each (S := fun wx => Keeps [] wr wx) (by kernel_rfl) (by kernel_rfl) (fun d _ _ _ _ h => by cases d <;> exact h) ((Keeps.refl _ _).drew) (by kernel_rfl) ?_
            repeat (first
              | (refine EachList.cons undef (EachIf.off rfl) ?_; simp only [Act.put, List.setIfInBounds_toArray, List.set_cons_zero, List.set_cons_succ])
              | (with_reducible show EachList _ _ _ _ (⟨_, _, 4, _, _, _⟩ :: _) _; refine EachList.cons (.bool false) (EachIf.val rfl ?h) ?_; (case h => (intro wx hx; clear hx; first | (go_simp; done) | (go_simp; simp [hjB, heq]; done))); simp only [Act.put, List.setIfInBounds_toArray, List.set_cons_zero, List.set_cons_succ])
              | (refine EachList.cons ?_ (EachIf.val rfl ?h) ?_; (case h => (intro wx hx; clear hx; go_simp; rfl)); simp only [Act.put, List.setIfInBounds_toArray, List.set_cons_zero, List.set_cons_succ]))
            refine EachList.done fun wx hx => ?_
            have HOX := Lib.hid (ownsRow_keep HOW.out hx (by simp))
            have HKX := Lib.hid (HKP.out.trans' hx)
            have hcx := HC0.out wx f hf13 (HKP.out.trans' hx)
            rw [HX.out] at hcx
            have hwx : w.heap.size + 1 ≤ wx.heap.size := by have := hx.size; simp at hwr; omega
            clear hx
            obtain ⟨b, hb⟩ : ∃ b : Nat, x = (b : Int) := ⟨x.toNat, by omega⟩
            obtain ⟨n, hn⟩ : ∃ n : Nat, n = j - f := ⟨_, rfl⟩
            have hjf : (j : Int) - (f : Int) = (n : Int) := by omega
            have hjf2 : IntKind.i64.wrap (n : Int) = (n : Int) := IntWalk.i64_in _ (by omega)
            have HRW := Lib.hid (runWord_at f b n (by omega) (by omega) (by omega))
            have HRUN : Hid (runsTo l j = runsTo l f ++ [runW f (b : Int) n]) := by
              have := runsTo_run HST.out HFJ.out (by omega) HCONT.out HNC.out
              rw [HX.out, hb] at this
              rw [hn]
              exact this
            rw [hb] at hcx
            have HFJ2 : Hid (j ≤ 13 ∧ n = j - f) := ⟨by omega, hn⟩
            have HMS := Lib.hid hf
            clear hb hn hf
            generalize runW f (b : Int) n = W at *
            generalize hL : runsTo l f = L at *
            have HLE := Lib.hid hL
            clear hL
            have HLB := Lib.hid (show L.length ≤ 13 by have := HRL.out; omega)
            go_wp2_with fail
            refine (HRW.out _).mono ?_; rintro e w1 ⟨rfl, rfl⟩
            have hlb := HLB.out
            go_wp2_with (at_builtin; refine wpList_append_own _ rfl _ _ 24 rfl (w.heap.size + 1) 26 i0 (.int .u64 0) 1 8 Try.underlying24 hi hz0 hz1 hz2 rfl (by decide) (.slice a L.length cap) L.length _ rfl (HOX.out.alloc _) ⟨wx.heap.size, 0, none⟩ 1 1 [.int .u64 W] rfl rfl ?c1 ?c2 (by unfold maxLen; omega) (by omega) (by simp; omega) ?_)
            case c1 => exact new_cells _ [_] _ _ rfl
            case c2 => simp [Value.oneCell']
            intro v' w1 hown1 hgrow _
            have HO1 := Lib.hid hown1
            have HK1 := Lib.hid ((HKX.out.alloc _).grown hgrow (fun k hk => by have := ownsRow_block HOX.out k hk; simpa using this))
            clear hown1 hgrow
            go_wp2_with fail
            go_roundg (13 - j)
            case measure => have := HMS.out; have := HFJ.out; have := HFJ2.out.1; omega
            case rel =>
              refine ⟨j, by have := HFJ2.out.1; omega, by go_num, ?_, HNC.out, HK1.out⟩
              have := HO1.out
              rw [HRUN.out, List.length_append, u64s_append]
              exact this
      · rw [decide_eq_false hB] at HISB
        have hn1 : ¬ contP l (f + 1) := fun h => hB h.2.2.2.1
        have HN : Hid (wr.ownsRow (w.heap.size + 1) 26 1 u3 (runsTo l (f + 1)).length (u64s (runsTo l (f + 1))) ∧ ¬ contP l (f + 1) ∧ Keeps [] (w.alloc (.cells Z 22)) wr) := by
          refine ⟨?_, hn1, HR.out.2.2⟩
          rw [runsTo_none hB]
          exact HR.out.1
        clear HR hB hn1
        generalize l.getD f 0 = x at *
        go_wp2_with fail
        refine (HISB.out _).mono ?_; rintro e w1 ⟨rfl, rfl⟩
        go_wp2_with fail
        go_roundg gg
        case measure => omega
        case rel => exact ⟨f + 1, by omega, by go_num, HN.out⟩

end Go.Proofs.Ytmhcnkjmnbnldaa
