/-
  Layer 6, the reference: Right. Layer 6, the reference: Few. Layer 8: the law InodeTurns.
-/
import Derived.Test.YtlfkodlnhfdgjaaGreatDoorG04
import Derived.Test.YtlfkodlnhfdgjaaGreatDoorG14
import Derived.BigQuiet
import Derived.Test.YtlfkodlnhfdgjaaGreatDoorG03
namespace Go.Proofs.YtlfkodlnhfdgjaaGreatDoor
open Go.RowKit

end Go.Proofs.YtlfkodlnhfdgjaaGreatDoor

namespace Go.Proofs.YtlfkodlnhfdgjaaGreatDoor
open Go.RowKit

/-- What Few leaves. -/
def FewPost (w : World) (n : Ino) (e : Ending) (w' : World) : Prop := (∃ b, e = .returned (.bool b) ∧ (b = true → n.E.length ≤ 40 ∧ ∀ k, k < n.E.length → (enm n.E k).size ≤ 50)) ∧ Keeps [] w w'

set_option maxRecDepth 100000 in
set_option maxHeartbeats 2000000 in
theorem refFew_at (n : Ino) (v : Value) (g : Nat) (hB : n.B.length = 13) (w : World) (hE : EReads w v g n.E) :
    Calls Tryz.prog 11 #[.agg (inoC n v)] w (FewPost w n) := by
  have HFP : Hid (∀ b w', (b = true → n.E.length ≤ 40 ∧ ∀ k, k < n.E.length → (enm n.E k).size ≤ 50) → Keeps [] w w' → FewPost w n (.returned (.bool b)) w') := fun b w' h hk => ⟨⟨b, rfl, h⟩, hk⟩
  obtain ⟨a, cap, rfl, hcap, hmax, HEC⟩ := hE.open
  have hat := inoAt (.slice a n.E.length cap) hB
  generalize inoC n (.slice a n.E.length cap) = Z at *
  have hb0 := Blk.new w Z 29
  have c17 : (w.alloc (.cells Z 29)).cell? ⟨w.heap.size, 17, none⟩ = some (.slice a n.E.length cap) := by rw [hb0.cell]; exact hat.f5
  have HK : Hid (Keeps [] w (w.alloc (.cells Z 29))) := (Keeps.refl [] w).alloc _
  unfold maxLen at hmax
  clear hb0 hat hB hE
  generalize hm : n.E.length = m at *
  clear hm
  go_enter Tryz.func11, Tryz.ntmps11
  go_wp2_with fail
  go_loopg [3] 50 (fun gh s3 wx => ∃ k : Nat, k + gh = 50 ∧ k ≤ m ∧ s3 = .int .i64 (k : Int) ∧ wx = w.alloc (.cells Z 29) ∧ Hid (∀ i, i < k → (enm n.E i).size ≤ 50))
  case atStart => exact ⟨0, by omega, by omega, rfl, rfl, by intro i hi; omega⟩
  case round =>
    obtain ⟨k, hk, hkm, rfl, rfl, HP⟩ := hrel
    by_cases hlt : k < m
    · have h1 : (k : Int) < (m : Int) := by omega
      cases gk with
      | zero =>
        have h50 : ¬ (k : Int) < 50 := by omega
        have h40 : ¬ (m : Int) ≤ 40 := by omega
        go_wp2_with fail
        go_ret
        exact HFP.out _ _ (fun h => (by cases h)) HK.out
      | succ gg =>
        have h50 : (k : Int) < 50 := by omega
        have hk0 : (0 : Int) ≤ (k : Int) := by omega
        obtain ⟨hg, off, rfl, e0, -⟩ := HEC.out k hlt
        have c0 : (w.alloc (.cells Z 29)).cell? ⟨g, off + k * 2, none⟩ = some (.string (enm n.E k)) := (World.cell?_of_block (w := w) (a := ⟨g, off + k * 2, none⟩) (HK.out.block g hg (by simp))).trans e0
        clear e0
        by_cases hs : 50 < (enm n.E k).size
        · have hs' : (50 : Int) < ((enm n.E k).size : Int) := by omega
          clear HEC HP
          generalize enm n.E k = nm at *
          go_wp2_with fail
          go_ret
          exact HFP.out _ _ (fun h => (by cases h)) HK.out
        · have hs' : ¬ (50 : Int) < ((enm n.E k).size : Int) := by omega
          have HP2 : Hid (∀ i, i < k + 1 → (enm n.E i).size ≤ 50) := fun i hi => by
            by_cases e : i = k
            · subst e; omega
            · exact HP.out i (by omega)
          clear HEC HP
          generalize enm n.E k = nm at *
          go_wp2_with fail
          go_roundg gg
          case measure => omega
          case rel => exact ⟨k + 1, by omega, by omega, by go_num, rfl, HP2⟩
    · have h1 : ¬ (k : Int) < (m : Int) := by omega
      obtain rfl : k = m := by omega
      have HQ := Lib.hid HP.out
      go_wp2_with fail
      go_ret
      exact HFP.out _ _ (fun h => ⟨by have := of_decide_eq_true h; omega, HQ.out⟩) HK.out

end Go.Proofs.YtlfkodlnhfdgjaaGreatDoor

namespace Go.Proofs.YtlfkodlnhfdgjaaGreatDoor
open Go.RowKit

end Go.Proofs.YtlfkodlnhfdgjaaGreatDoor
