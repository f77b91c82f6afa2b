/-
  Layer 3 (plog): wordsOf, inLog, pairsOf, load.
-/
import Derived.Test.YtopljfbgbiipiaaPlB
import Derived.Test.YtopljfbgbiipiaaOpen
namespace Go.Proofs.Ytopljfbgbiipiaa
open Go.RowKit

/-- What a call leaves that makes words. -/
def MadeWords (w : World) (ws : List Int) (e : Ending) (w' : World) : Prop :=
  ∃ v g, e = .returned v ∧ Reads w' v g (u64s ws) ∧ w.heap.size ≤ g ∧ Keeps [] w w'

theorem make_u64 (n : Nat) (hn : n ≤ 100000) (m : Int) (hm : m = (n : Int)) (k : Nat) (hk : k = 0 ∨ k = n) (w : World) : (Instr.makeSlice 32 (.int .i64 (k : Int)) (.int .i64 m)).run Try.prog w =
    .ok (.slice (some ⟨w.heap.size, 0, none⟩) k n) (w.alloc (.cells (madeCells #[.int .u64 0] n) 40)) := by
  subst hm
  obtain ⟨i0, hi, hz0, hz1, hz2⟩ := info_parts Try.info_u64
  have := run_make (P := Try.prog) w 32 40 i0 _ Try.underlying32 hi hz0 .i64 .i64 (k : Int) (n : Int) (by omega) (by omega) (by rw [hz2]; omega) (by omega)
  rw [hz1, Int.toNat_natCast, Int.toNat_natCast, Nat.mul_one] at this
  exact this

theorem new_cells (w : World) (cs : List Value) (T m : Nat) (hm : m = w.heap.size) : ∀ j u, cs[j]? = some u → (w.alloc (.cells cs.toArray T)).cell? ((⟨m, 0, none⟩ : Addr).add j) = some u := by
  intro j u hu
  subst hm
  rw [add_plain, (Blk.new w cs.toArray T).cell, Nat.zero_add]
  simpa using hu

theorem u64s_append (xs ys : List Int) : u64s (xs ++ ys) = u64s xs ++ u64s ys := by simp [u64s]

set_option maxHeartbeats 1000000 in
theorem wordsOf_at {w : World} {v : Value} {g : Nat} {ps : List (Int × Int)} (h : PReads w v g ps) (hok : okP ps) (hn : ps.length ≤ 400) :
    Calls Try.prog 25 #[v] w (MadeWords w (wordsN ps)) := by
  obtain ⟨i0, hi, hz0, hz1, hz2⟩ := info_parts Try.info_u64
  have H := Lib.hid h
  have HOK := Lib.hid hok
  obtain ⟨a, cap, rfl, h1, h2⟩ := h.val
  unfold maxLen at h2
  have hmk := make_u64 (2 * ps.length) (by omega) (2 * (ps.length : Int)) (by omega) 0 (.inl rfl) w
  rw [Int.natCast_zero] at hmk
  have HO : Hid ((w.alloc (.cells (madeCells #[.int .u64 0] (2 * ps.length)) 40)).ownsRow w.heap.size 40 1 (.slice (some ⟨w.heap.size, 0, none⟩) 0 (2 * ps.length)) 0 []) :=
    World.ownsRow_made w _ _ (Nat.le_refl _) (by simp [maxLen]; omega) (by simp [size_madeCells])
  clear h hok
  go_enter Try.func25, Try.ntmps25
  go_wp2_with fail
  go_loopg [3, 12] ps.length (fun gh s3 s12 wx => ∃ k : Nat, k + gh = ps.length ∧ s12 = .int .i64 (k : Int) ∧ s3 = .slice (some ⟨w.heap.size, 0, none⟩) (2 * k) (2 * ps.length) ∧
    Hid (wx.ownsRow w.heap.size 40 1 (.slice (some ⟨w.heap.size, 0, none⟩) (2 * k) (2 * ps.length)) (2 * k) (u64s (wordsN (ps.take k))) ∧ Keeps [] w wx))
  case atStart => exact ⟨0, by omega, rfl, rfl, HO.out, (Keeps.refl _ _).alloc _⟩
  case round =>
    obtain ⟨k, hk, rfl, rfl, HR⟩ := hrel
    cases gk with
    | zero =>
      obtain rfl : k = ps.length := by omega
      have hlt : ¬ (ps.length : Int) < (ps.length : Int) := by omega
      obtain ⟨hr, hkp⟩ := HR.out
      rw [List.take_of_length_le (Nat.le_refl _)] at hr
      obtain ⟨g', ho, -⟩ := Owns.of_row hr
      have hb : g' = w.heap.size ∨ ps.length = 0 := by
        by_cases e : ps.length = 0
        · exact .inr e
        · left
          obtain ⟨-, ⟨_, hv, -, -⟩, -, -⟩ := ho.cell (by omega)
          cases hv; rfl
      have HM : Hid (MadeWords w (wordsN ps) (.returned (.slice (some ⟨w.heap.size, 0, none⟩) (2 * ps.length) (2 * ps.length))) wr) := by
        rcases hb with rfl | hb
        · exact ⟨_, _, rfl, ho.reads, Nat.le_refl _, hkp⟩
        · exact ⟨_, w.heap.size, rfl, (ho.anyG (by omega) _).reads, Nat.le_refl _, hkp⟩
      clear hr ho hb hkp HR
      go_wp2_with fail
      go_ret
      exact HM.out
    | succ gg =>
      have hlt : (k : Int) < (ps.length : Int) := by omega
      obtain ⟨hg, off, rfl, c0, c1⟩ := (H.out.keep HR.out.2 (by simp)).get (j := k) (by omega)
      have b1 := okP_get HOK.out (k := k) (by omega)
      have HW := Lib.hid (wordsN_take_succ ps k (by omega))
      generalize patN ps k = x at *
      generalize pwdN ps k = y at *
      obtain ⟨hown, hkp⟩ := HR.out
      have HOWN := Lib.hid hown
      have HKP := Lib.hid hkp
      clear hown hkp HR
      go_wp2_with (at_builtin; refine wpList_append_fits _ rfl _ _ 32 rfl w.heap.size 40 i0 1 Try.underlying32 hi hz1 w.heap.size (2 * k) (2 * ps.length) _ rfl ((HOWN.out.alloc _).alloc _) ⟨wr.heap.size + 1, 0, none⟩ 2 2 [.int .u64 (IntKind.u64.wrap x), .int .u64 y] rfl rfl ?c1 ?c2 (by omega) ?_)
      case c1 => exact new_cells _ [_, _] _ _ (by simp)
      case c2 => simp [Value.oneCell']
      intro w1 hown1 hgrow
      have HK1 : Hid (Keeps [] w w1) := ((HKP.out.alloc _).alloc _).trans (Keeps.of_grown (l := [w.heap.size]) hgrow (by intro q hq; cases hq; simp)) (by simp)
      have HO1 := Lib.hid hown1
      clear hown1 hgrow
      go_wp2_with fail
      go_roundg gg
      case measure => omega
      case rel =>
        refine ⟨k + 1, by omega, by go_num, rfl, ?_, HK1.out⟩
        have := HO1.out
        rw [HW.out, u64s_append]
        rw [IntKind.wrap_u64] at this
        exact this

end Go.Proofs.Ytopljfbgbiipiaa
