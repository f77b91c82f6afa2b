/-
  Layer 2 (pack): Sum, the reference's Sum, Bucket.
-/
import Derived.Test.YtjbecchapkjnpaaPkE
namespace Go.Proofs.Ytjbecchapkjnpaa
open Go.RowKit

def w64s (l : List Nat) : List Value := l.map fun n : Nat => Value.int .u64 (n : Int)

theorem w64s_len (l : List Nat) : (w64s l).length = l.length := by simp [w64s]
theorem w64s_get {l : List Nat} {j : Nat} (h : j < l.length) : (w64s l)[j]? = some (.int .u64 (l.getD j 0 : Nat)) := by simp [w64s, h]

theorem foldl_take_succ {β : Type} (f : β → Nat → β) (l : List Nat) (h : β) (k : Nat) (hk : k < l.length) : (l.take (k + 1)).foldl f h = f ((l.take k).foldl f h) (l.getD k 0) := by
  rw [List.take_succ_eq_append_getElem hk, List.foldl_append]
  simp [List.getD_eq_getElem?_getD, hk]

theorem fnv_u32 {h c : Nat} (hh : h < 4294967296) (hc : c < 256) : bits .xor .u32 (h : Int) (c : Int) * 16777619 % 4294967296 = ((fnv h c : Nat) : Int) := by
  rw [u32_xor_nat h c hh (by omega), fnv]
  rfl

theorem fnv_u64 {h y : Nat} (hh : h < 4294967296) : (IntKind.u64.wrap (bits .xor .u64 (h : Int) ((y : Int) % 256) * 16777619)).tmod 4294967296 = ((fnv h (y % 256) : Nat) : Int) := by
  have hc : y % 256 < 256 := Nat.mod_lt _ (by decide)
  have hx := xor_lt32 hh hc
  rw [show (y : Int) % 256 = ((y % 256 : Nat) : Int) from rfl, u64_xor_nat h (y % 256) (by omega) (by omega), show ((h ^^^ y % 256 : Nat) : Int) * 16777619 = (((h ^^^ y % 256) * 16777619 : Nat) : Int) by simp,
    wrap64_nat _ (by omega), Int.tmod_eq_emod_of_nonneg (by omega), fnv]
  rfl

set_option maxHeartbeats 2000000 in
theorem sum_at {w : World} {v : Value} {gb : Nat} {xs : List Nat} (h : Reads w v gb (w64s xs)) :
    Calls Try.prog 17 #[v] w fun e w' => e = .returned (.int .u32 (sumN xs : Nat)) ∧ Keeps [] w w' := by
  obtain ⟨a, cap, rfl, h1, h2, h3⟩ := h
  rw [w64s_len] at *
  unfold maxLen at h2
  have H3 : Hid (∀ k, k < xs.length → gb < w.heap.size ∧ ∃ off, a = some ⟨gb, off, none⟩ ∧ w.cell? ⟨gb, off + k, none⟩ = some (.int .u64 (xs.getD k 0 : Nat))) := fun k hk => by
    obtain ⟨hg, off, ho, hc⟩ := h3 (by intro e; have := congrArg List.length e; rw [w64s_len, List.length_nil] at this; omega)
    exact ⟨hg, off, ho, (hc k hk).trans (w64s_get hk)⟩
  clear h3
  go_enter Try.func17, Try.ntmps17
  go_wp2_with fail
  go_loopg [3, 10] xs.length (fun g s3 s10 wx => ∃ k : Nat, k + g = xs.length ∧ s10 = .int .i64 (k : Int) ∧ s3 = .int .u32 (((xs.take k).foldl sumW 2166136261 : Nat) : Int) ∧ Hid (Keeps [] w wx))
  case atStart => exact ⟨0, by omega, rfl, rfl, Keeps.refl _ _⟩
  case round =>
    obtain ⟨k, hk, rfl, rfl, HK⟩ := hrel
    cases gk with
    | zero =>
      obtain rfl : k = xs.length := by omega
      have hlt : ¬ (xs.length : Int) < (xs.length : Int) := by omega
      rw [List.take_of_length_le (Nat.le_refl _)]
      go_wp2_with fail
      go_ret
      exact ⟨rfl, HK.out⟩
    | succ g =>
      have hlt : (k : Int) < (xs.length : Int) := by omega
      obtain ⟨hg, off, rfl, hc⟩ := H3.out k (by omega)
      have hcr : wr.cell? ⟨gb, off + k, none⟩ = some (.int .u64 (xs.getD k 0 : Nat)) := by
        rw [World.cell?_of_block (w := w) (HK.out.block gb hg (by simp))]
        exact hc
      have hh := foldl_sumW_lt (xs.take k) 2166136261 (by decide)
      have HT := Lib.hid (foldl_take_succ sumW xs 2166136261 k (by omega))
      generalize (xs.take k).foldl sumW 2166136261 = h at *
      generalize xs.getD k 0 = x at *
      have HB := Lib.hid (bytes_at x wr)
      clear hc
      go_wp2_with (go_at_call 14; refine HB.out.mono ?_; rintro e w2 ⟨rfl, hk2⟩; have HK2 := Lib.hid (HK.out.trans hk2 (by simp)); clear hk2)
      obtain ⟨wo, rfl⟩ : ∃ wo : World, wo = wr := ⟨_, rfl⟩
      clear hcr
      go_loopg [3, 16] 8 (fun g2 s3 s16 wx => ∃ k2 : Nat, k2 + g2 = 8 ∧ s16 = .int .i64 (k2 : Int) ∧ s3 = .int .u32 ((((byts x).take k2).foldl fnv h : Nat) : Int) ∧ wx = w2)
      case atStart => exact ⟨0, by omega, rfl, rfl, rfl⟩
      case round =>
        obtain ⟨k2, hk2, rfl, rfl, rfl⟩ := hrel
        cases gk with
        | zero =>
          obtain rfl : k2 = 8 := by omega
          rw [List.take_of_length_le (by rw [byts_len]; omega)]
          go_wp2_with fail
          go_roundg g
          case measure => omega
          case rel => exact ⟨k + 1, by omega, by go_num, by rw [HT.out]; rfl, HK2.out⟩
        | succ g2 =>
          have hlt2 : (k2 : Int) < 8 := by omega
          have hix := index_bytes (byts x) (byts_len x) k2 (by omega)
          have HT2 := Lib.hid (foldl_take_succ fnv (byts x) h k2 (by rw [byts_len]; omega))
          have hh2 := foldl_fnv_lt ((byts x).take k2) h hh
          have hc2 : (byts x).getD k2 0 < 256 := by rw [byts_get x k2 (by omega)]; exact byt_lt _ _
          generalize ((byts x).take k2).foldl fnv h = h' at *
          generalize (byts x).getD k2 0 = c at *
          have HF := Lib.hid (fnv_u32 hh2 hc2)
          go_wp2_with fail
          go_roundg g2
          case measure => omega
          case rel =>
            refine ⟨k2 + 1, by omega, by go_num, ?_, rfl⟩
            rw [HT2.out, HF.out]

theorem foldl_pow_div (x k : Nat) : x / 256 ^ k / 256 = x / 256 ^ (k + 1) := by rw [Nat.div_div_eq_div_mul, Nat.pow_succ]

set_option maxHeartbeats 2000000 in
theorem refSum_at {w : World} {v : Value} {gb : Nat} {xs : List Nat} (h : Reads w v gb (w64s xs)) (hx : ∀ x ∈ xs, x < 18446744073709551616) :
    Calls Try.prog 13 #[v] w fun e w' => e = .returned (.int .u32 (sumN xs : Nat)) ∧ w = w' := by
  obtain ⟨a, cap, rfl, h1, h2, h3⟩ := h
  rw [w64s_len] at *
  unfold maxLen at h2
  have H3 : Hid (∀ k, k < xs.length → gb < w.heap.size ∧ ∃ off, a = some ⟨gb, off, none⟩ ∧ w.cell? ⟨gb, off + k, none⟩ = some (.int .u64 (xs.getD k 0 : Nat))) := fun k hk => by
    obtain ⟨hg, off, ho, hc⟩ := h3 (by intro e; have := congrArg List.length e; rw [w64s_len, List.length_nil] at this; omega)
    exact ⟨hg, off, ho, (hc k hk).trans (w64s_get hk)⟩
  have HX := Lib.hid hx
  clear h3 hx
  go_enter Try.func13, Try.ntmps13
  go_wp2_with fail
  go_loopg [3, 4] xs.length (fun g s3 s4 wx => ∃ k : Nat, k + g = xs.length ∧ s4 = .int .i64 (k : Int) ∧ s3 = .int .u64 (((xs.take k).foldl sumW 2166136261 : Nat) : Int) ∧ wx = w)
  case atStart => exact ⟨0, by omega, rfl, rfl, rfl⟩
  case round =>
    obtain ⟨k, hk, rfl, rfl, rfl⟩ := hrel
    have hh := foldl_sumW_lt (xs.take k) 2166136261 (by decide)
    cases gk with
    | zero =>
      obtain rfl : k = xs.length := by omega
      have hlt : ¬ (xs.length : Int) < (xs.length : Int) := by omega
      have HS : Hid ((xs.take xs.length).foldl sumW 2166136261 = sumN xs) := by rw [List.take_of_length_le (Nat.le_refl _)]; rfl
      generalize (xs.take xs.length).foldl sumW 2166136261 = h at *
      go_wp2_with fail
      go_ret
      exact ⟨by rw [← HS.out]; rfl, rfl⟩
    | succ g =>
      have hlt : (k : Int) < (xs.length : Int) := by omega
      obtain ⟨hg, off, rfl, hc⟩ := H3.out k (by omega)
      have hxk : xs.getD k 0 < 18446744073709551616 := by
        rw [List.getD_eq_getElem?_getD, List.getElem?_eq_getElem (by omega)]
        exact HX.out _ (List.getElem_mem _)
      have HT := Lib.hid (foldl_take_succ sumW xs 2166136261 k (by omega))
      generalize (xs.take k).foldl sumW 2166136261 = h at *
      generalize xs.getD k 0 = x at *
      go_wp2_with fail
      obtain ⟨wo, rfl⟩ : ∃ wo : World, wo = wr := ⟨_, rfl⟩
      clear hc
      go_loopg [3, 5, 6] 8 (fun g2 s3 s5 s6 wx => ∃ k2 : Nat, k2 + g2 = 8 ∧ s6 = .int .i64 (k2 : Int) ∧ s5 = .int .u64 ((x / 256 ^ k2 : Nat) : Int) ∧ s3 = .int .u64 ((((byts x).take k2).foldl fnv h : Nat) : Int) ∧ wx = wo)
      case atStart => exact ⟨0, by omega, rfl, by simp, rfl, rfl⟩
      case round =>
        obtain ⟨k2, hk2, rfl, rfl, rfl, rfl⟩ := hrel
        cases gk with
        | zero =>
          obtain rfl : k2 = 8 := by omega
          rw [List.take_of_length_le (by rw [byts_len]; omega)]
          go_wp2_with fail
          go_roundg g
          case measure => omega
          case rel => exact ⟨k + 1, by omega, by go_num, by rw [HT.out]; rfl, rfl⟩
        | succ g2 =>
          have hlt2 : (k2 : Int) < 8 := by omega
          have HT2 := Lib.hid (foldl_take_succ fnv (byts x) h k2 (by rw [byts_len]; omega))
          have hh2 := foldl_fnv_lt ((byts x).take k2) h hh
          have HF := Lib.hid (fnv_u64 (y := x / 256 ^ k2) hh2)
          have HG := Lib.hid (byts_get x k2 (by omega))
          have HY : Hid (byt x k2 = x / 256 ^ k2 % 256) := rfl
          have HD := Lib.hid (foldl_pow_div x k2)
          have hy : x / 256 ^ k2 < 18446744073709551616 := Nat.lt_of_le_of_lt (Nat.div_le_self _ _) hxk
          generalize ((byts x).take k2).foldl fnv h = h' at *
          generalize x / 256 ^ k2 = y at *
          go_wp2_with fail
          go_roundg g2
          case measure => omega
          case rel =>
            refine ⟨k2 + 1, by omega, by go_num, by rw [← HD.out]; rfl, ?_, rfl⟩
            rw [HT2.out, HG.out, HF.out, HY.out]

/-- What Bucket tells of a text. -/
def bucketN (l : List Nat) : Nat := if goodN l = true then sumN [wordN l] % 4 else 0

set_option maxHeartbeats 2000000 in
theorem bucket_at (s : ByteArray) (hs : s.size ≤ 9223372036854775807) (w : World) : Calls Try.prog 10 #[.string s] w fun e w' => e = .returned (.int .i64 (bucketN (bl s) : Nat)) ∧ Keeps [] w w' := by
  have HW := word_at s hs w
  unfold wordV at HW
  unfold bucketN
  have HW := Lib.hid HW
  cases hg : goodN (bl s)
  · rw [hg, if_neg (by simp)] at HW
    rw [if_neg (by simp)]
    clear hg
    go_enter Try.func10, Try.ntmps10
    go_wp2_with (go_at_call 7; refine HW.out.mono ?_; rintro e w1 ⟨rfl, hk1⟩; have HK1 := Lib.hid hk1; clear hk1)
    go_ret
    exact ⟨rfl, HK1.out⟩
  · rw [hg, if_pos rfl] at HW
    rw [if_pos rfl]
    clear hg
    generalize wordN (bl s) = W at *
    have hq := sumN_lt [W]
    have HS := fun (w1 : World) => sum_at (w := w1.alloc (.cells #[.int .u64 (W : Int)] 23)) (v := .slice (some ⟨w1.heap.size, 0, none⟩) 1 1) (gb := w1.heap.size) (xs := [W])
      (Owns.reads (T := 23) (n := 1) ⟨rfl, _, 1, rfl, Nat.le_refl _, by unfold maxLen; omega, fun _ => ⟨rfl, _, Blk.new _ _ _, rfl, rfl⟩⟩)
    have HS := Lib.hid HS
    generalize sumN [W] = q at *
    go_enter Try.func10, Try.ntmps10
    go_wp2_with (first | (go_at_call 7; refine HW.out.mono ?_; rintro e w1 ⟨rfl, hk1⟩; have HK1 := Lib.hid hk1; clear hk1) | (go_at_call 17; refine (HS.out _).mono ?_; rintro e w2 ⟨rfl, hk2⟩; have HK2 := Lib.hid hk2; clear hk2))
    go_ret
    exact ⟨rfl, (HK1.out.alloc _).trans HK2.out (by simp)⟩

end Go.Proofs.Ytjbecchapkjnpaa
