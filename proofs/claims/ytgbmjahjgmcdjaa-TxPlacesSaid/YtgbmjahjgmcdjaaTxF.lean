/-
  Layer 4 (tx): Block, Inode.
-/
import Derived.Test.YtgbmjahjgmcdjaaCelU
namespace Go.Proofs.Ytgbmjahjgmcdjaa
open Go.RowKit

def blockN (b : Int) : Int := if b < 0 ∨ 256 ≤ b then -1 else 1080 + b * 8
def inodeN (i : Int) : Int := if i < 0 ∨ 32 ≤ i then -1 else 824 + i * 8

set_option maxHeartbeats 400000 in
theorem txBlock_at (b : Int) (w : World) : Calls Try.prog 13 #[.int .i64 b] w fun e w' => e = .returned (.int .i64 (blockN b)) ∧ w = w' := by
  rcases (show b < 0 ∨ 256 ≤ b ∨ (0 ≤ b ∧ b < 256) by omega) with h | h | ⟨h1, h2⟩
  · rw [blockN, if_pos (.inl h)]
    go_enter Try.func13, Try.ntmps13
    go_wp2
    go_ret
    exact ⟨rfl, rfl⟩
  · rw [blockN, if_pos (.inr h)]
    have h0 : ¬ b < 0 := by omega
    go_enter Try.func13, Try.ntmps13
    go_wp2
    go_ret
    exact ⟨rfl, rfl⟩
  · rw [blockN, if_neg (by omega)]
    go_enter Try.func13, Try.ntmps13
    go_wp2
    go_ret
    exact ⟨rfl, rfl⟩

set_option maxHeartbeats 400000 in
theorem txInode_at (i : Int) (w : World) : Calls Try.prog 14 #[.int .i64 i] w fun e w' => e = .returned (.int .i64 (inodeN i)) ∧ w = w' := by
  rcases (show i < 0 ∨ 32 ≤ i ∨ (0 ≤ i ∧ i < 32) by omega) with h | h | ⟨h1, h2⟩
  · rw [inodeN, if_pos (.inl h)]
    go_enter Try.func14, Try.ntmps14
    go_wp2
    go_ret
    exact ⟨rfl, rfl⟩
  · rw [inodeN, if_pos (.inr h)]
    have h0 : ¬ i < 0 := by omega
    go_enter Try.func14, Try.ntmps14
    go_wp2
    go_ret
    exact ⟨rfl, rfl⟩
  · rw [inodeN, if_neg (by omega)]
    go_enter Try.func14, Try.ntmps14
    go_wp2
    go_ret
    exact ⟨rfl, rfl⟩

end Go.Proofs.Ytgbmjahjgmcdjaa
