/-
  Words (uint64): what the program says of their type, and lists of them that are made.
-/
import Derived.Test.YtpndogcdmoeemaaDoorRows
import Derived.Test.YtpndogcdmoeemaaDoorCel
namespace Go.Proofs.YtpndogcdmoeemaaDoor
open Go.RowKit

theorem Tryd.info_u64 : (Tryd.prog.info? 22).map (fun i => (i.zero, i.size, i.bytes)) = some (some (.int .u64 0), 1, 8) := by kernel_rfl

theorem make_u64 (n : Nat) (hn : n ≤ 100000) (m : Int) (hm : m = (n : Int)) (k : Nat) (hk : k = 0 ∨ k = n) (w : World) : (Instr.makeSlice 41 (.int .i64 (k : Int)) (.int .i64 m)).run Tryd.prog w =
    .ok (.slice (some ⟨w.heap.size, 0, none⟩) k n) (w.alloc (.cells (madeCells #[.int .u64 0] n) 22)) := by
  subst hm
  obtain ⟨i0, hi, hz0, hz1, hz2⟩ := info_parts Tryd.info_u64
  have := run_make (P := Tryd.prog) w 41 22 i0 _ Tryd.underlying41 hi hz0 .i64 .i64 (k : Int) (n : Int) (by omega) (by omega) (by rw [hz2]; omega) (by omega)
  rw [hz1, Int.toNat_natCast, Int.toNat_natCast, Nat.mul_one] at this
  exact this

end Go.Proofs.YtpndogcdmoeemaaDoor
