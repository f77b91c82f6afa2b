/-
  Layer 3's reference: Mark, Stands.
-/
import Derived.Test.YtopljfbgbiipiaaPlI
import Derived.Deep.RegionHeld3
import Derived.Deep.AppendLies
namespace Go.Proofs.Ytopljfbgbiipiaa
open Go.RowKit

theorem markN_words (ps : List (Int × Int)) : markN (wordsN ps) = (ps.length : Int) * 4294967296 + (sumN ((wordsN ps).map Int.toNat) : Nat) := by
  rw [markN, wordsN_len, show 2 * ps.length / 2 = ps.length by omega]

set_option maxHeartbeats 2000000 in
theorem refMark_at {w : World} {v : Value} {g : Nat} {ps : List (Int × Int)} (h : PReads w v g ps) (hok : okP ps) (hn : ps.length ≤ 1000) :
    Calls Try.prog 19 #[v] w fun e w' => e = .returned (.int .u64 (markN (wordsN ps))) ∧ Keeps [] w w' := by
  obtain ⟨i0, hi, hz0, hz1, hz2⟩ := info_parts Try.info_u64
  have H := Lib.hid h
  have HOK := Lib.hid hok
  obtain ⟨a, cap, rfl, h1, h2⟩ := h.val
  unfold maxLen at h2
  clear h hok
  go_enter Try.func19, Try.ntmps19
  go_wp2_with fail
  go_loopg [3, 4] ps.length (fun gh s3 s4 wx => ∃ k : Nat, k + gh = ps.length ∧ s4 = .int .i64 (k : Int) ∧
    Hid (wx.ownsRow w.heap.size 40 1 s3 (2 * k) (u64s (wordsN (ps.take k))) ∧ Keeps [] w wx))
  case atStart => exact ⟨0, by omega, rfl, ⟨rfl, .inl ⟨rfl, rfl⟩⟩, Keeps.refl _ _⟩
  case round =>
    obtain ⟨k, hk, rfl, HR⟩ := hrel
    cases gk with
    | zero =>
      obtain rfl : k = ps.length := by omega
      have hlt : ¬ (ps.length : Int) < (ps.length : Int) := by omega
      obtain ⟨hr, hkp⟩ := HR.out
      rw [List.take_of_length_le (Nat.le_refl _)] at hr
      obtain ⟨g', ho, -⟩ := Owns.of_row hr
      have HS := Lib.hid (refSum_atI ho.reads (wordsN_u64 HOK.out))
      have HKP := Lib.hid hkp
      have HMW := Lib.hid (markN_words ps)
      have hs := sumN_lt ((wordsN ps).map Int.toNat)
      generalize sumN ((wordsN ps).map Int.toNat) = s at *
      clear hr ho hkp HR
      go_wp2_with fail
      refine HS.out.mono ?_; rintro e w' ⟨rfl, rfl⟩
      go_wp2_with fail
      go_ret
      exact ⟨by rw [HMW.out]; rfl, HKP.out⟩
    | succ gg =>
      have hlt : (k : Int) < (ps.length : Int) := by omega
      have k0 : (0 : Int) ≤ (k : Int) := by omega
      obtain ⟨hown, hkp⟩ := HR.out
      obtain ⟨hg, off, rfl, c0, c1⟩ := (H.out.keep hkp (by simp)).get (j := k) (by omega)
      have b1 := okP_get HOK.out (k := k) (by omega)
      have HW := Lib.hid (wordsN_take_succ ps k (by omega))
      generalize patN ps k = x at *
      generalize pwdN ps k = y at *
      have hg0 := (H.out.get (j := k) (by omega)).1
      have ag : u3.ownBlock ≠ some g := fun e => by have := ownsRow_block hown g e; omega
      have hws := hkp.size
      have HOWN := Lib.hid hown
      have HKP := Lib.hid hkp
      clear hown hkp HR
      go_wp2_with fail
      go_region_held3 (fun w' => w'.cell? ⟨g, off + k * 2, none⟩ = some (.int .i64 x) ∧ w'.cell? ⟨g, off + k * 2 + 1, none⟩ = some (.int .u64 y)) (first | go_keep | (go_split_ands; refine ⟨?_, ?_⟩ <;> (rw [hgrow.cell_far _ (by simp; omega) (Ne.symm ag)]; assumption))) ((refine step_append_lies _ (by rfl) _ _ _ (by rfl) w.heap.size 40 i0 _ 1 8 Try.underlying32 hi hz0 hz1 hz2 rfl (by omega) u3 (2 * k) _ (by rfl) ((HOWN.out.alloc _).drew) ⟨wr.heap.size, 0, none⟩ 2 2 [.int .u64 (IntKind.u64.wrap x), .int .u64 y] (by rfl) (by rfl) (new_cells wr [_, _] _ _ rfl) (by simp [Value.oneCell']) (by omega) (by unfold maxLen; omega) (by omega) (by simp; omega) (wr.heap.size + 1) (by simp) ?_; intro gg2 cap2 w1 hown1 hgrow hat hlt))
      have HO1 := Lib.hid hown1
      have HK1 := Lib.hid ((HKP.out.alloc _).drew.grown hgrow (ownsRow_block HOWN.out))
      clear hown1 hgrow
      go_wp2_with fail
      go_roundg gg
      case measure => omega
      case rel =>
        refine ⟨k + 1, by omega, by go_num, ?_, HK1.out⟩
        have := HO1.out
        rw [HW.out, u64s_append]
        rw [IntKind.wrap_u64] at this
        exact this

def RStood (w : World) (o : Option (List (Int × Int))) (e : Ending) (w' : World) : Prop :=
  (o = none ∧ e = .returned (.tuple #[.slice none 0 0, .bool false]) ∧ Keeps [] w w') ∨ (∃ ps v g, o = some ps ∧ e = .returned (.tuple #[v, .bool true]) ∧ PReads w' v g ps ∧ w.heap.size ≤ g ∧ Keeps [] w w')

theorem pairsN_succ (ws : List Int) (k : Nat) : pairsN ws (k + 1) = pairsN ws k ++ [(ws.getD (2 * k) 0, ws.getD (2 * k + 1) 0)] := by
  simp [pairsN, List.range_succ]

theorem pairsN_goodP (ws : List Int) (m : Nat) : goodP (pairsN ws m) = placesB ws m := by
  unfold goodP pairsN placesB
  rw [List.all_map]
  rfl

theorem wordsN_pairsN {ws : List Int} {m : Nat} (hl : ws.length = 2 * m) (h : ∀ k, k < m → 0 ≤ ws.getD (2 * k) 0 ∧ ws.getD (2 * k) 0 < 18446744073709551616) : wordsN (pairsN ws m) = ws := by
  have hlen : (wordsN (pairsN ws m)).length = 2 * m := by rw [wordsN_len, pairsN_len]
  apply List.ext_getElem
  · rw [hlen, hl]
  · intro j h1 h2
    have hj : j / 2 < m := by omega
    obtain ⟨e1, e2⟩ := wordsN_get (pairsN ws m) (j / 2) (by rw [pairsN_len]; exact hj)
    have p1 : patN (pairsN ws m) (j / 2) = ws.getD (2 * (j / 2)) 0 := by simp [patN, pairsN, List.getD_eq_getElem?_getD, hj]
    have p2 : pwdN (pairsN ws m) (j / 2) = ws.getD (2 * (j / 2) + 1) 0 := by simp [pwdN, pairsN, List.getD_eq_getElem?_getD, hj]
    have hb := h (j / 2) hj
    rw [p1] at e1
    rw [p2] at e2
    rw [Int.emod_eq_of_lt hb.1 hb.2] at e1
    have gx : ∀ (l : List Int) (hlt : j < l.length), l[j] = l.getD j 0 := fun l hlt => by simp [List.getD_eq_getElem?_getD, hlt]
    rw [gx _ h1, gx _ h2]
    rcases (show 2 * (j / 2) = j ∨ 2 * (j / 2) + 1 = j by omega) with e | e
    · rw [e] at e1; exact e1
    · rw [e] at e2; exact e2

theorem standN_bad {xs : List Int} {k : Nat} (hk : k < cntN xs) (hb : 3128 ≤ xs.getD (9 + 2 * k) 0) : standN xs = none := by
  unfold standN
  rw [if_neg]
  rintro ⟨-, -, -, h⟩
  have := placeB_iff.1 (List.all_eq_true.1 h k (by rw [List.mem_range]; exact hk))
  rw [segN_get _ _ _ (by omega)] at this
  omega

end Go.Proofs.Ytopljfbgbiipiaa
