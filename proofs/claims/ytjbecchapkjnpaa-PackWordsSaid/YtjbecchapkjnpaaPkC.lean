/-
  Layer 2 (pack): goodByte, Good; the reference's Good.
-/
import Derived.Test.YtjbecchapkjnpaaPkB
namespace Go.Proofs.Ytjbecchapkjnpaa
open Go.RowKit

/-- A string's bytes, as numbers. -/
def bl (s : ByteArray) : List Nat := s.data.toList.map UInt8.toNat

theorem bl_len (s : ByteArray) : (bl s).length = s.size := by simp [bl]
theorem bl_lt (s : ByteArray) : ∀ c ∈ bl s, c < 256 := by
  intro c hc
  simp only [bl, List.mem_map] at hc
  obtain ⟨x, -, rfl⟩ := hc
  exact x.toNat_lt
theorem bl_get (s : ByteArray) (k : Nat) (h : k < s.size) : (bl s).getD k 0 = s[k].toNat := by
  simp [bl, h]
  rfl
theorem bl_inj {s t : ByteArray} (h : bl s = bl t) : s = t := by
  apply ByteArray.ext
  apply Array.toList_inj.1
  have := List.map_inj_right (f := UInt8.toNat) (fun a b e => UInt8.toNat_inj.1 e) |>.1 h
  exact this

theorem goodByte_at (c : Nat) (w : World) : Calls Try.prog 18 #[.int .u8 (c : Int)] w fun e w' => e = .returned (.bool (okByte c)) ∧ w = w' := by
  by_cases h1 : 33 ≤ c
  · by_cases h2 : c ≤ 126
    · by_cases h3 : c = 47
      · subst h3
        go_enter Try.func18, Try.ntmps18
        go_wp2
        go_ret
        exact ⟨rfl, rfl⟩
      · have e : okByte c = true := by simp [okByte, h1, h2, h3]
        have h4 : ((c : Int) != 47) = true := by simp; omega
        rw [e]
        clear e h3
        go_enter Try.func18, Try.ntmps18
        go_wp2
        go_ret
        exact ⟨rfl, rfl⟩
    · have e : okByte c = false := by simp [okByte, h2]
      rw [e]
      go_enter Try.func18, Try.ntmps18
      go_wp2
      go_ret
      exact ⟨rfl, rfl⟩
  · have e : okByte c = false := by simp [okByte, h1]
    rw [e]
    go_enter Try.func18, Try.ntmps18
    go_wp2
    go_ret
    exact ⟨rfl, rfl⟩

theorem all_take_succ (l : List Nat) (k : Nat) (h : k < l.length) : (l.take (k + 1)).all okByte = ((l.take k).all okByte && okByte (l.getD k 0)) := by
  rw [List.take_succ_eq_append_getElem h, List.all_append]
  simp [List.getD_eq_getElem?_getD, h]

theorem all_false {l : List Nat} {k : Nat} (h : k < l.length) (hb : okByte (l.getD k 0) = false) : l.all okByte = false := by
  rw [List.all_eq_false]
  refine ⟨l.getD k 0, ?_, by rw [hb]; simp⟩
  rw [List.getD_eq_getElem?_getD, List.getElem?_eq_getElem h]
  exact List.getElem_mem _

theorem good_mid {s : ByteArray} (d1 : s ≠ ⟨#[46]⟩) (d2 : s ≠ ⟨#[46, 46]⟩) (h1 : 1 ≤ s.size) (h2 : s.size ≤ 7) : goodN (bl s) = (bl s).all okByte := by
  have e1 : (bl s != [46]) = true := by
    simp only [bne_iff_ne, ne_eq]
    intro e
    exact d1 (bl_inj (t := ⟨#[46]⟩) e)
  have e2 : (bl s != [46, 46]) = true := by
    simp only [bne_iff_ne, ne_eq]
    intro e
    exact d2 (bl_inj (t := ⟨#[46, 46]⟩) e)
  simp [goodN, bl_len, h1, h2, e1, e2]

theorem str_ne {s : ByteArray} {l : List UInt8} (h : s ≠ ⟨l.toArray⟩) : (s.toList == l) = false := by
  rw [ByteArray.toList_eq]
  simp only [beq_eq_false_iff_ne, ne_eq]
  intro e
  apply h
  apply ByteArray.ext
  apply Array.toList_inj.1
  rw [e]

set_option maxHeartbeats 1000000 in
theorem good_at (s : ByteArray) (hs : s.size ≤ 9223372036854775807) (w : World) : Calls Try.prog 8 #[.string s] w fun e w' => e = .returned (.bool (goodN (bl s))) ∧ w = w' := by
  by_cases d1 : s = ⟨#[46]⟩
  · subst d1
    go_enter Try.func8, Try.ntmps8
    go_wp2
    go_ret
    exact ⟨rfl, rfl⟩
  by_cases d2 : s = ⟨#[46, 46]⟩
  · subst d2
    go_enter Try.func8, Try.ntmps8
    go_wp2
    go_ret
    exact ⟨rfl, rfl⟩
  by_cases h1 : 1 ≤ s.size
  · by_cases h2 : s.size ≤ 7
    · rw [good_mid d1 d2 h1 h2]
      have q1 : (s.toList == [46]) = false := str_ne (l := [46]) d1
      have q2 : (s.toList == [46, 46]) = false := str_ne (l := [46, 46]) d2
      have q3 : decide ((s.size : Int) < 1) = false := by simp; omega
      have q4 : decide (7 < (s.size : Int)) = false := by simp; omega
      clear d1 d2
      go_enter Try.func8, Try.ntmps8
      go_wp2
      go_loop [22] (fun i => ∃ k : Nat, k ≤ s.size ∧ i = .int .i64 (k : Int) ∧ Hid (((bl s).take k).all okByte = true)) (fun i => s.size - (intOf i).toNat)
      case atStart => exact ⟨0, Nat.zero_le _, rfl, rfl⟩
      case round =>
        obtain ⟨k, hk, rfl, HA⟩ := hrel
        by_cases hlt : k < s.size
        · have hlt' : (k : Int) < (s.size : Int) := by omega
          have HG := Lib.hid (goodByte_at (s[k].toNat) w)
          have HB := Lib.hid (bl_get s k hlt)
          have HT := Lib.hid (all_take_succ (bl s) k (by rw [bl_len]; exact hlt))
          cases hb : okByte s[k].toNat
          · have HN := Lib.hid (all_false (l := bl s) (k := k) (by rw [bl_len]; exact hlt) (by rw [HB.out]; exact hb))
            rw [hb] at HG
            clear hb
            go_wp2_with (go_at_call 18; refine HG.out.mono ?_; rintro e w' ⟨rfl, rfl⟩)
            go_ret
            exact ⟨by rw [HN.out]; rfl, rfl⟩
          · rw [hb] at HG
            have HN := Lib.hid hb
            clear hb
            go_wp2_with (go_at_call 18; refine HG.out.mono ?_; rintro e w' ⟨rfl, rfl⟩)
            go_round
            case rel => exact ⟨k + 1, by omega, by go_num, by rw [HT.out, HB.out, HN.out, HA.out]; rfl⟩
            case measure => simp [intOf]; omega
        · obtain rfl : k = s.size := by omega
          have hlt' : ¬ (s.size : Int) < (s.size : Int) := by omega
          rw [List.take_of_length_le (by rw [bl_len]; exact Nat.le_refl _)] at HA
          go_wp2_with fail
          go_ret
          exact ⟨by rw [HA.out]; rfl, rfl⟩
    · have e : goodN (bl s) = false := by simp [goodN, bl_len, h2]
      rw [e]
      clear e d1 d2
      go_enter Try.func8, Try.ntmps8
      go_wp2
      go_ret
      exact ⟨rfl, rfl⟩
  · have e : goodN (bl s) = false := by simp [goodN, bl_len, h1]
    rw [e]
    clear e d1 d2
    go_enter Try.func8, Try.ntmps8
    go_wp2
    go_ret
    exact ⟨rfl, rfl⟩

theorem okByte_false {c : Nat} (h : okByte c = false) : c ≤ 32 ∨ 127 ≤ c ∨ c = 47 := by
  simp [okByte] at h; omega

theorem okByte_true {c : Nat} (h : okByte c = true) : 33 ≤ c ∧ c ≤ 126 ∧ c ≠ 47 := by
  simpa [okByte] using h

theorem goodN_not_all {l : List Nat} (h : l.all okByte = false) : goodN l = false := by simp [goodN, h]

set_option maxHeartbeats 1000000 in
theorem refGood_at (s : ByteArray) (hs : s.size ≤ 9223372036854775807) (w : World) : Calls Try.prog 9 #[.string s] w fun e w' => e = .returned (.bool (goodN (bl s))) ∧ w = w' := by
  go_enter Try.func9, Try.ntmps9
  go_wp2
  go_loop [3] (fun i => ∃ k : Nat, k ≤ s.size ∧ i = .int .i64 (k : Int) ∧ Hid (((bl s).take k).all okByte = true)) (fun i => s.size - (intOf i).toNat)
  case atStart => exact ⟨0, Nat.zero_le _, rfl, rfl⟩
  case round =>
    obtain ⟨k, hk, rfl, HA⟩ := hrel
    by_cases hlt : k < s.size
    · have hlt' : (k : Int) < (s.size : Int) := by omega
      have HB := Lib.hid (bl_get s k hlt)
      have HT := Lib.hid (all_take_succ (bl s) k (by rw [bl_len]; exact hlt))
      cases hb : okByte s[k].toNat
      · have HN := Lib.hid (goodN_not_all (all_false (l := bl s) (k := k) (by rw [bl_len]; exact hlt) (by rw [HB.out]; exact hb)))
        have hc := okByte_false hb
        clear hb
        rcases hc with hc | hc | hc
        · have e1 : decide ((s[k].toNat : Int) ≤ 32) = true := by simp; omega
          clear hc
          go_wp2_with fail
          go_ret
          exact ⟨by rw [HN.out]; rfl, rfl⟩
        · have e1 : decide ((s[k].toNat : Int) ≤ 32) = false := by simp; omega
          have e2 : decide (127 ≤ (s[k].toNat : Int)) = true := by simp; omega
          clear hc
          go_wp2_with fail
          go_ret
          exact ⟨by rw [HN.out]; rfl, rfl⟩
        · have e1 : decide ((s[k].toNat : Int) ≤ 32) = false := by simp; omega
          have e2 : decide (127 ≤ (s[k].toNat : Int)) = false := by simp; omega
          have e3 : ((s[k].toNat : Int) == 47) = true := by simp; omega
          clear hc
          go_wp2_with fail
          go_ret
          exact ⟨by rw [HN.out]; rfl, rfl⟩
      · have HN := Lib.hid hb
        obtain ⟨c1, c2, c3⟩ := okByte_true hb
        have e1 : decide ((s[k].toNat : Int) ≤ 32) = false := by simp; omega
        have e2 : decide (127 ≤ (s[k].toNat : Int)) = false := by simp; omega
        have e3 : ((s[k].toNat : Int) == 47) = false := by simp; omega
        clear hb c1 c2 c3
        go_wp2_with fail
        go_round
        case rel => exact ⟨k + 1, by omega, by go_num, by rw [HT.out, HB.out, HN.out, HA.out]; rfl⟩
        case measure => simp [intOf]; omega
    · obtain rfl : k = s.size := by omega
      have hlt' : ¬ (s.size : Int) < (s.size : Int) := by omega
      rw [List.take_of_length_le (by rw [bl_len]; exact Nat.le_refl _)] at HA
      by_cases d1 : s = ⟨#[46]⟩
      · have HN : Hid (goodN (bl s) = false) := by rw [d1]; rfl
        have q1 : (s.toList == [46]) = true := by rw [d1, ByteArray.toList_eq]; rfl
        have q3 : decide (0 < s.size) = true := by rw [d1]; rfl
        have q4 : decide ((s.size : Int) < 8) = true := by rw [d1]; rfl
        clear d1 HA
        go_wp2_with fail
        go_ret
        exact ⟨by rw [HN.out]; rfl, rfl⟩
      by_cases d2 : s = ⟨#[46, 46]⟩
      · have HN : Hid (goodN (bl s) = false) := by rw [d2]; rfl
        have q1 : (s.toList == [46]) = false := by rw [d2, ByteArray.toList_eq]; rfl
        have q2 : (s.toList == [46, 46]) = true := by rw [d2, ByteArray.toList_eq]; rfl
        have q3 : decide (0 < s.size) = true := by rw [d2]; rfl
        have q4 : decide ((s.size : Int) < 8) = true := by rw [d2]; rfl
        clear d1 d2 HA
        go_wp2_with fail
        go_ret
        exact ⟨by rw [HN.out]; rfl, rfl⟩
      by_cases h1 : 1 ≤ s.size
      · by_cases h2 : s.size ≤ 7
        · have HN : Hid (goodN (bl s) = true) := by rw [good_mid d1 d2 h1 h2]; exact HA.out
          have q1 : (s.toList == [46]) = false := str_ne (l := [46]) d1
          have q2 : (s.toList == [46, 46]) = false := str_ne (l := [46, 46]) d2
          have q3 : decide (0 < s.size) = true := by simp; omega
          have q4 : decide ((s.size : Int) < 8) = true := by simp; omega
          clear d1 d2 h1 h2 HA
          go_wp2_with fail
          go_ret
          exact ⟨by rw [HN.out]; rfl, rfl⟩
        · have HN := Lib.hid (show goodN (bl s) = false by simp [goodN, bl_len, h2])
          have q3 : decide (0 < s.size) = true := by simp; omega
          have q4 : decide ((s.size : Int) < 8) = false := by simp; omega
          clear d1 d2 h1 h2 HA
          go_wp2_with fail
          go_ret
          exact ⟨by rw [HN.out]; rfl, rfl⟩
      · have HN := Lib.hid (show goodN (bl s) = false by simp [goodN, bl_len, h1])
        have q3 : decide (0 < s.size) = false := decide_eq_false (by omega)
        clear d1 d2 h1 HA
        go_wp2_with fail
        go_ret
        exact ⟨by rw [HN.out]; rfl, rfl⟩

end Go.Proofs.Ytjbecchapkjnpaa
