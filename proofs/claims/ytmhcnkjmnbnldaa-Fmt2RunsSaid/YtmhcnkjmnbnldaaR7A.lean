/-
  Layer 7, the laws' awake.
-/
import Derived.Test.YtmhcnkjmnbnldaaF2A
namespace Go.Proofs.Ytmhcnkjmnbnldaa
open Go.RowKit

theorem runs_three : runsL [9, 10, 11, 0, 0, 0, 0, 0, 0, 0, 0, 0, 0] = [2307] := by decide +kernel

set_option maxRecDepth 100000 in
set_option maxHeartbeats 1000000 in
theorem f2Awake_core (l : List Int) (hl : l.length = 13) (hlen : (runsL l).length = 1) (h0 : (runsL l).getD 0 0 = 2307) (w : World)
    (hz : (zs l).toArray = #[.int .i64 9, .int .i64 10, .int .i64 11, .int .i64 0, .int .i64 0, .int .i64 0, .int .i64 0, .int .i64 0, .int .i64 0, .int .i64 0, .int .i64 0, .int .i64 0, .int .i64 0]) :
    Calls Try.prog 4 #[] w fun e w' => e = .returned (.bool true) ∧ Keeps [] w w' := by
  have HR := Lib.hid (runs_at l hl w)
  generalize runsL l = L at *
  rw [hz] at HR
  clear hl hz
  go_enter Try.func4, Try.ntmps4
  go_wp2_with fail
  refine HR.out.mono ?_; rintro e w1 ⟨v, g, rfl, hr, hg, hk⟩
  obtain ⟨a, cap, rfl, -, -, hc⟩ := u64s_cell hr
  obtain ⟨hgl, off, rfl, hc0⟩ := hc.out 0 (by omega)
  rw [h0, Nat.add_zero] at hc0
  have HK := Lib.hid hk
  clear hr hg hk hc h0
  rw [hlen]
  clear hlen
  go_wp2_with fail
  go_ret
  exact ⟨rfl, HK.out⟩

theorem f2Awake_at (w : World) : Calls Try.prog 4 #[] w fun e w' => e = .returned (.bool true) ∧ Keeps [] w w' :=
  f2Awake_core [9, 10, 11, 0, 0, 0, 0, 0, 0, 0, 0, 0, 0] rfl (by rw [runs_three]; rfl) (by rw [runs_three]; rfl) w rfl

end Go.Proofs.Ytmhcnkjmnbnldaa
