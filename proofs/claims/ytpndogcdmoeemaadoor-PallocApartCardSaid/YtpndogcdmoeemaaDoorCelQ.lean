/-
  Pairs (api.Pair): what the program says of their type, and lists of them that are made.
-/
import Derived.Test.YtpndogcdmoeemaaDoorCelU
namespace Go.Proofs.YtpndogcdmoeemaaDoor
open Go.RowKit

theorem Tryd.info_pair : (Tryd.prog.info? 55).map (fun i => (i.zero, i.size, i.bytes)) = some (some (.agg #[.int .i64 0, .int .u64 0]), 2, 16) := by kernel_rfl

theorem make_pairs (n : Nat) (hn : n ≤ 100000) (m : Int) (hm : m = (n : Int)) (w : World) : (Instr.makeSlice 37 (.int .i64 m) (.int .i64 m)).run Tryd.prog w =
    .ok (.slice (some ⟨w.heap.size, 0, none⟩) n n) (w.alloc (.cells (madeCells #[.int .i64 0, .int .u64 0] (n * 2)) 55)) := by
  subst hm
  obtain ⟨i0, hi, hz0, hz1, hz2⟩ := info_parts Tryd.info_pair
  have := run_make (P := Tryd.prog) w 37 55 i0 _ Tryd.underlying37 hi hz0 .i64 .i64 (n : Int) (n : Int) (by omega) (by omega) (by rw [hz2]; omega) (by omega)
  rw [hz1, Int.toNat_natCast] at this
  exact this

theorem owns_pairs (w : World) (n : Nat) (hn : n ≤ 100000) : Owns (w.alloc (.cells (madeCells #[.int .i64 0, .int .u64 0] (n * 2)) 55)) (.slice (some ⟨w.heap.size, 0, none⟩) n n) w.heap.size 55 2 n (pcells (List.replicate n (0, 0))) := by
  have hs : (madeCells #[Value.int .i64 0, Value.int .u64 0] (n * 2)).size = n * 2 := by rw [← Array.length_toList, made_pcells, pcells_len, List.length_replicate]
  refine ⟨by rw [pcells_len, List.length_replicate], _, n, rfl, Nat.le_refl _, by unfold maxLen; omega, fun _ => ⟨rfl, _, Blk.new _ _ _, hs, ?_⟩⟩
  rw [← made_pcells, List.take_of_length_le (by rw [Array.length_toList]; omega)]

end Go.Proofs.YtpndogcdmoeemaaDoor
