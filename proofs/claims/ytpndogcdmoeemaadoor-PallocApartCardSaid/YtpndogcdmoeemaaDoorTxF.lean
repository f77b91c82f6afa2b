/-
  Layer 4 (tx): Block.
-/
import Derived.Test.YtpndogcdmoeemaaDoorCelU
namespace Go.Proofs.YtpndogcdmoeemaaDoor
open Go.RowKit

def blockN (b : Int) : Int := if b < 0 ∨ 256 ≤ b then -1 else 1080 + b * 8

set_option maxHeartbeats 400000 in
theorem txBlock_at (b : Int) (w : World) : Calls Tryd.prog 24 #[.int .i64 b] w fun e w' => e = .returned (.int .i64 (blockN b)) ∧ w = w' := by
  rcases (show b < 0 ∨ 256 ≤ b ∨ (0 ≤ b ∧ b < 256) by omega) with h | h | ⟨h1, h2⟩
  · rw [blockN, if_pos (.inl h)]
    go_enter Tryd.func24, Tryd.ntmps24
    go_wp2
    go_ret
    exact ⟨rfl, rfl⟩
  · rw [blockN, if_pos (.inr h)]
    have h0 : ¬ b < 0 := by omega
    go_enter Tryd.func24, Tryd.ntmps24
    go_wp2
    go_ret
    exact ⟨rfl, rfl⟩
  · rw [blockN, if_neg (by omega)]
    go_enter Tryd.func24, Tryd.ntmps24
    go_wp2
    go_ret
    exact ⟨rfl, rfl⟩

end Go.Proofs.YtpndogcdmoeemaaDoor
