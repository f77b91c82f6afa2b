/-
  Words (uint64): what the program says of their type, and lists of them that are made.
-/
import Derived.Test.YtmhcnkjmnbnldaaRows
import Derived.Test.YtmhcnkjmnbnldaaCel
namespace Go.Proofs.Ytmhcnkjmnbnldaa
open Go.RowKit

theorem Try.info_u64 : (Try.prog.info? 26).map (fun i => (i.zero, i.size, i.bytes)) = some (some (.int .u64 0), 1, 8) := by kernel_rfl

theorem make_u64 (n : Nat) (hn : n ≤ 100000) (m : Int) (hm : m = (n : Int)) (k : Nat) (hk : k = 0 ∨ k = n) (w : World) : (Instr.makeSlice 24 (.int .i64 (k : Int)) (.int .i64 m)).run Try.prog w =
    .ok (.slice (some ⟨w.heap.size, 0, none⟩) k n) (w.alloc (.cells (madeCells #[.int .u64 0] n) 26)) := by
  subst hm
  obtain ⟨i0, hi, hz0, hz1, hz2⟩ := info_parts Try.info_u64
  have := run_make (P := Try.prog) w 24 26 i0 _ Try.underlying24 hi hz0 .i64 .i64 (k : Int) (n : Int) (by omega) (by omega) (by rw [hz2]; omega) (by omega)
  rw [hz1, Int.toNat_natCast, Int.toNat_natCast, Nat.mul_one] at this
  exact this

end Go.Proofs.Ytmhcnkjmnbnldaa
