/-
  Layer 7, the law Fmt2Runs.
-/
import Derived.Test.YtmhcnkjmnbnldaaR7A
import Derived.Test.YtmhcnkjmnbnldaaF2B
import Derived.Deep.RegionWith
import Derived.Deep.DeepCutAuto
import Derived.BigQuiet
namespace Go.Proofs.Ytmhcnkjmnbnldaa
open Go.RowKit

theorem step_load_any {P : Program} {ops : Array Oper} {o : Oper} {a : Act} {w : World} {K : Act → World → Prop} {Q : Exit → Act → World → Prop} {E : Prop} (hgd : o.guard = none) (ty : TypeId) (x : Operand) (ho : o.op = .load ty x) (ad : Addr)
    (hx : a.eval x = .pointer (some ad)) (v : Value) (hr : (loadVar ty ad).run P w = .ok v w) (h : K (a.put o.dst v) w) : if Region.wanted o (yielded ops a.tmps) = true then Oper.wp P o a w K Q else E := by
  have hw : Region.wanted o (yielded ops a.tmps) = true := by simp [Region.wanted, hgd]
  rw [if_pos hw]
  unfold Oper.wp execOp
  simp only [ho, hx, Instr.loadAt, Instr.sureAddr, Sem.run_bind, Sem.run_pure, Result.andThen_ok, hr]
  exact h

theorem size_ar13 : (Try.prog.info? 22).map (·.size) = some 13 := by kernel_rfl

/-- A whole array of thirteen numbers, loaded. -/
theorem load_ar13 {w : World} {g T : Nat} {l : List Int} (hb : Blk w g (zs l).toArray T) (hl : l.length = 13) : (loadVar 22 ⟨g, 0, none⟩).run Try.prog w = .ok (.agg (zs l).toArray) w :=
  run_loadVar_cells g 0 (zs l) Try.underlying22 rfl (by rw [zs_len, hl]; exact size_ar13) fun j hj => by
    rw [hb.cell, Nat.zero_add, List.getElem?_toArray]

set_option maxRecDepth 100000 in
set_option maxHeartbeats 4000000 in
theorem fmt2Runs_at (l : List Int) (hl : l.length = 13) (w : World) : Calls Try.prog 3 #[.agg (zs l).toArray] w fun e w' => e = .returned (.bool true) ∧ Keeps [] w w' := by
  have HA := Lib.hid (fun wx => runs_at l hl wx)
  have HB := Lib.hid (fun wx => refRuns_at l hl wx)
  have hb0 := Blk.new w (zs l).toArray 22
  have HLD : Hid (∀ wx, Keeps [] (w.alloc (.cells (zs l).toArray 22)) wx → (loadVar 22 ⟨w.heap.size, 0, none⟩).run Try.prog wx = .ok (.agg (zs l).toArray) wx) := fun wx hk => load_ar13 (hb0.keep hk (by simp)) hl
  have HK0 : Hid (Keeps [] w (w.alloc (.cells (zs l).toArray 22))) := (Keeps.refl _ _).alloc _
  clear hb0 hl
  generalize hR : runsL l = R at *
  have HRL : Hid (R.length ≤ 13) := by rw [← hR]; exact runsTo_len l 13
  clear hR
  generalize (zs l).toArray = Z at *
  go_enter Try.func3, Try.ntmps3
  go_wp2_with fail
  refine (f2Awake_at _).mono ?_; rintro e w1 ⟨rfl, hk1⟩
  have HK1 := Lib.hid hk1
  clear hk1
  go_wp2_with fail
  go_cut [3, 4] (fun s3 s4 wx => ∃ va ga vb gb, s3 = va ∧ s4 = vb ∧ Hid (Reads wx va ga (u64s R) ∧ Reads wx vb gb (u64s R) ∧ Keeps [] (w.alloc (.cells Z 22)) wx))
  case first =>
    refine wp_region_any (by kernel_rfl) ?_
    (try (change wpAny _ _ _ _ _ _ _ (World.drew _)))
    refine wpAny_ready (rs := [0, 2]) (by kernel_rfl) (by simp) ?_
    refine AllReady.cons rfl (fun K hK => ?_) ?_
    · refine step_load_any rfl 22 (.tmp 1) rfl _ rfl _ (HLD.out _ HK1.out.drew) ?_
      refine hK _ _ ?_
      clear hK K
      refine wpAny_ready (rs := [1, 2]) (by kernel_rfl) (by simp) ?_
      refine AllReady.cons rfl (fun K hK => ?_) ?_
      · go_simp
        go_wp2_with (go_at_call 5; refine (HA.out _).mono ?_; rintro e wa ⟨va, ga, rfl, hra, hga, hka⟩; (have HKA := Lib.hid (HK1.out.drew.trans' hka)); obtain ⟨aa, ca, rfl, -, -, -⟩ := u64s_cell hra; (have HRA := Lib.hid hra); clear hra hga hka)
        refine wpAny_ready (rs := [2]) (by kernel_rfl) (by simp) ?_
        refine AllReady.cons rfl (fun K hK => ?_) ?_
        · refine step_load_any rfl 22 (.tmp 1) rfl _ rfl _ (HLD.out _ HKA.out) ?_
          refine hK _ _ ?_
          clear hK K
          refine wpAny_ready (rs := [3]) (by kernel_rfl) (by simp) ?_
          refine AllReady.cons rfl (fun K hK => ?_) ?_
          · go_simp
            go_wp2_with (go_at_call 6; refine (HB.out _).mono ?_; rintro e wb ⟨vb, gb, rfl, hrb, hgb, hkb⟩; (have HKB := Lib.hid (HKA.out.trans' hkb)); obtain ⟨ab, cb, rfl, -, -, -⟩ := u64s_cell hrb; (have HRB := Lib.hid hrb); (have HRA2 := Lib.hid (HRA.out.keep hkb (by simp))); clear hrb hgb hkb)
            refine wpAny_ready (rs := [4]) (by kernel_rfl) (by simp) ?_
            refine AllReady.cons rfl (fun K hK => ?_) ?_
            · go_simp
              refine hK _ _ ?_
              clear hK K
              refine wpAny_ready (rs := [5]) (by kernel_rfl) (by simp) ?_
              refine AllReady.cons rfl (fun K hK => ?_) ?_
              · go_simp
                refine hK _ _ ?_
                clear hK K
                refine wpAny_done (by kernel_rfl) ?_ _
                go_wp2_with fail
                go_meet
                case rel => exact ⟨_, _, _, _, rfl, rfl, HRA2.out, HRB.out, HKB.out⟩
              exact AllReady.nil
            exact AllReady.nil
          exact AllReady.nil
        exact AllReady.nil
      refine AllReady.cons rfl (fun K hK => ?_) ?_
      · refine step_load_any rfl 22 (.tmp 1) rfl _ rfl _ (HLD.out _ HK1.out.drew) ?_
        refine hK _ _ ?_
        clear hK K
        refine wpAny_ready (rs := [1]) (by kernel_rfl) (by simp) ?_
        refine AllReady.cons rfl (fun K hK => ?_) ?_
        · go_simp
          go_wp2_with (go_at_call 5; refine (HA.out _).mono ?_; rintro e wa ⟨va, ga, rfl, hra, hga, hka⟩; (have HKA := Lib.hid (HK1.out.drew.trans' hka)); obtain ⟨aa, ca, rfl, -, -, -⟩ := u64s_cell hra; (have HRA := Lib.hid hra); clear hra hga hka)
          refine wpAny_ready (rs := [3]) (by kernel_rfl) (by simp) ?_
          refine AllReady.cons rfl (fun K hK => ?_) ?_
          · go_simp
            go_wp2_with (go_at_call 6; refine (HB.out _).mono ?_; rintro e wb ⟨vb, gb, rfl, hrb, hgb, hkb⟩; (have HKB := Lib.hid (HKA.out.trans' hkb)); obtain ⟨ab, cb, rfl, -, -, -⟩ := u64s_cell hrb; (have HRB := Lib.hid hrb); (have HRA2 := Lib.hid (HRA.out.keep hkb (by simp))); clear hrb hgb hkb)
            refine wpAny_ready (rs := [4]) (by kernel_rfl) (by simp) ?_
            refine AllReady.cons rfl (fun K hK => ?_) ?_
            · go_simp
              refine hK _ _ ?_
              clear hK K
              refine wpAny_ready (rs := [5]) (by kernel_rfl) (by simp) ?_
              refine AllReady.cons rfl (fun K hK => ?_) ?_
              · go_simp
                refine hK _ _ ?_
                clear hK K
                refine wpAny_done (by kernel_rfl) ?_ _
                go_wp2_with fail
                go_meet
                case rel => exact ⟨_, _, _, _, rfl, rfl, HRA2.out, HRB.out, HKB.out⟩
              exact AllReady.nil
            exact AllReady.nil
          exact AllReady.nil
        exact AllReady.nil
      exact AllReady.nil
    refine AllReady.cons rfl (fun K hK => ?_) ?_
    · refine step_load_any rfl 22 (.tmp 1) rfl _ rfl _ (HLD.out _ HK1.out.drew) ?_
      refine hK _ _ ?_
      clear hK K
      refine wpAny_ready (rs := [0]) (by kernel_rfl) (by simp) ?_
      refine AllReady.cons rfl (fun K hK => ?_) ?_
      · refine step_load_any rfl 22 (.tmp 1) rfl _ rfl _ (HLD.out _ HK1.out.drew) ?_
        refine hK _ _ ?_
        clear hK K
        refine wpAny_ready (rs := [1]) (by kernel_rfl) (by simp) ?_
        refine AllReady.cons rfl (fun K hK => ?_) ?_
        · go_simp
          go_wp2_with (go_at_call 5; refine (HA.out _).mono ?_; rintro e wa ⟨va, ga, rfl, hra, hga, hka⟩; (have HKA := Lib.hid (HK1.out.drew.trans' hka)); obtain ⟨aa, ca, rfl, -, -, -⟩ := u64s_cell hra; (have HRA := Lib.hid hra); clear hra hga hka)
          refine wpAny_ready (rs := [3]) (by kernel_rfl) (by simp) ?_
          refine AllReady.cons rfl (fun K hK => ?_) ?_
          · go_simp
            go_wp2_with (go_at_call 6; refine (HB.out _).mono ?_; rintro e wb ⟨vb, gb, rfl, hrb, hgb, hkb⟩; (have HKB := Lib.hid (HKA.out.trans' hkb)); obtain ⟨ab, cb, rfl, -, -, -⟩ := u64s_cell hrb; (have HRB := Lib.hid hrb); (have HRA2 := Lib.hid (HRA.out.keep hkb (by simp))); clear hrb hgb hkb)
            refine wpAny_ready (rs := [4]) (by kernel_rfl) (by simp) ?_
            refine AllReady.cons rfl (fun K hK => ?_) ?_
            · go_simp
              refine hK _ _ ?_
              clear hK K
              refine wpAny_ready (rs := [5]) (by kernel_rfl) (by simp) ?_
              refine AllReady.cons rfl (fun K hK => ?_) ?_
              · go_simp
                refine hK _ _ ?_
                clear hK K
                refine wpAny_done (by kernel_rfl) ?_ _
                go_wp2_with fail
                go_meet
                case rel => exact ⟨_, _, _, _, rfl, rfl, HRA2.out, HRB.out, HKB.out⟩
              exact AllReady.nil
            exact AllReady.nil
          exact AllReady.nil
        exact AllReady.nil
      exact AllReady.nil
    exact AllReady.nil
  case rest =>
    obtain ⟨va, ga, vb, gb, rfl, rfl, HC⟩ := hcut
    obtain ⟨hra, hrb, hkp⟩ := HC.out
    obtain ⟨aa, ca, rfl, -, -, HCA⟩ := u64s_cell hra
    obtain ⟨ab, cb, rfl, -, -, HCB⟩ := u64s_cell hrb
    have HKF := Lib.hid (HK0.out.trans' hkp)
    have hn13 := HRL.out
    clear HC hra hrb hkp
    generalize hn : R.length = n at *
    clear hn
    go_wp2_with fail
    go_loopg [5] n (fun gh s5 wx => ∃ k : Nat, k + gh = n ∧ s5 = .int .i64 (k : Int) ∧ ∃ m, wx = wc.drewN m)
    case atStart => exact ⟨0, by omega, rfl, 0, rfl⟩
    case round =>
      obtain ⟨k, hk, rfl, m, rfl⟩ := hrel
      cases gk with
      | zero =>
        obtain rfl : k = n := by omega
        clear hk
        go_wp2_with fail
        go_ret
        exact ⟨rfl, HKF.out.drewN m⟩
      | succ gg =>
        have hkn : k < n := by omega
        have hlt : (k : Int) < (n : Int) := by omega
        have hk0 : (0 : Int) ≤ (k : Int) := by omega
        obtain ⟨-, offa, rfl, ca0⟩ := HCA.out k hkn
        obtain ⟨-, offb, rfl, cb0⟩ := HCB.out k hkn
        have hca : ∀ q, (wc.drewN q).cell? ⟨ga, offa + k, none⟩ = some (.int .u64 (R.getD k 0)) := fun q => ca0
        have hcb : ∀ q, (wc.drewN q).cell? ⟨gb, offb + k, none⟩ = some (.int .u64 (R.getD k 0)) := fun q => cb0
        clear ca0 cb0
        generalize R.getD k 0 = x at *
        go_wp2_with fail
        go_quiet (fail)
        go_wp2_with fail
        go_roundg gg
        case measure => omega
        case rel => exact ⟨k + 1, by omega, by go_num, _, rfl⟩

end Go.Proofs.Ytmhcnkjmnbnldaa
