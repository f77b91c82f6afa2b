/-
  Layer 6 (fmt1), plain: what is read is what would be laid. Layer 2 (pack): the reference's Word and Byte. Layer 6, the reference: Word. Layer 6: what Lay does, whatever it is; what words have that were laid. Layer 6, the reference: Few. Layer 6: the law's sames, where both are one list; the reference's list of what is free.
-/
import Derived.Test.YtmhcnkjmnbnldaaDoorG07
import Derived.Test.YtmhcnkjmnbnldaaDoorG04
import Derived.Test.YtmhcnkjmnbnldaaDoorG06
import Derived.Test.YtmhcnkjmnbnldaaDoorG05
import Derived.Test.YtmhcnkjmnbnldaaDoorG02
namespace Go.Proofs.YtmhcnkjmnbnldaaDoor
open Go.RowKit

theorem less_irrefl : ∀ a : List UInt8, Op.bytesLess a a = false
  | [] => rfl
  | a :: x => by
    have h : ¬ a < a := by rw [UInt8.lt_iff_toNat_lt]; omega
    simp [Op.bytesLess, less_irrefl x, h]

theorem less_total : ∀ a b : List UInt8, Op.bytesLess a b = false → a ≠ b → Op.bytesLess b a = true
  | [], [], _, h => absurd rfl h
  | _ :: _, [], _, _ => rfl
  | [], _ :: _, h, _ => by simp [Op.bytesLess] at h
  | a :: x, b :: y, h, hne => by
    simp only [Op.bytesLess, Bool.or_eq_false_iff, Bool.and_eq_false_iff, decide_eq_false_iff_not, beq_eq_false_iff_ne] at h
    simp only [Op.bytesLess, Bool.or_eq_true, Bool.and_eq_true, decide_eq_true_eq, beq_iff_eq]
    by_cases e : a = b
    · subst e
      refine .inr ⟨rfl, less_total x y ?_ (fun hxy => hne (by rw [hxy]))⟩
      exact h.2.resolve_left fun h' => h' rfl
    · left
      have h1 := h.1
      rw [UInt8.lt_iff_toNat_lt] at h1 ⊢
      have : a.toNat ≠ b.toNat := fun h => e (UInt8.toNat_inj.1 h)
      omega

theorem less_trans : ∀ a b c : List UInt8, Op.bytesLess a b = true → Op.bytesLess b c = true → Op.bytesLess a c = true
  | _, _, [], _, h => by simp [Op.bytesLess] at h
  | [], _, _ :: _, _, _ => rfl
  | _ :: _, [], _ :: _, h, _ => by simp [Op.bytesLess] at h
  | a :: x, b :: y, c :: z, h1, h2 => by
    simp only [Op.bytesLess, Bool.or_eq_true, Bool.and_eq_true, decide_eq_true_eq, beq_iff_eq] at h1 h2 ⊢
    rw [UInt8.lt_iff_toNat_lt] at *
    rcases h1 with h1 | ⟨rfl, h1⟩
    · rcases h2 with h2 | ⟨rfl, h2⟩
      · left; omega
      · left; exact h1
    · rcases h2 with h2 | ⟨rfl, h2⟩
      · left; exact h2
      · exact .inr ⟨rfl, less_trans x y z h1 h2⟩

/-- Names rise. -/
theorem names_rise {E : List (ByteArray × Int)} (h : ∀ k, k < E.length → 0 < k → leB (enm E k) (enm E (k - 1)) = false) : ∀ k j, j < k → k < E.length → Op.bytesLess (enm E j).toList (enm E k).toList = true := by
  intro k
  induction k with
  | zero => intro j hj; omega
  | succ k ih =>
    intro j hj hk
    have h1 := h (k + 1) hk (by omega)
    unfold leB at h1
    rw [Bool.or_eq_false_iff, Nat.add_sub_cancel] at h1
    have h2 : Op.bytesLess (enm E k).toList (enm E (k + 1)).toList = true := less_total _ _ h1.1 (by simpa using h1.2)
    by_cases e : j = k
    · subst e; exact h2
    · exact less_trans _ _ _ (ih j (by omega) (by omega)) h2

theorem names_apart {E : List (ByteArray × Int)} (h : ∀ k, k < E.length → 0 < k → leB (enm E k) (enm E (k - 1)) = false) {j k : Nat} (hj : j < k) (hk : k < E.length) : enm E j ≠ enm E k := fun e => by
  have := names_rise h k j hj hk
  rw [e, less_irrefl] at this
  cases this

theorem word_big {l : List Nat} (h : goodN l = true) : 72057594037927936 ≤ wordV l := by
  unfold wordV
  rw [if_pos h, wordN]
  have := (goodN_len h).1
  omega

theorem drop5_get {l : List Int} (k : Nat) : (l.drop 5).getD k 0 = l.getD (5 + k) 0 := by
  rw [List.getD_eq_getElem?_getD, List.getElem?_drop, List.getD_eq_getElem?_getD]

/-- The own blocks' numbers. -/
theorem take_toNat {l : List Int} {c k : Nat} (hk : k < c) (hc : c ≤ l.length) : ((l.take c).map Int.toNat).getD k 0 = (l.getD k 0).toNat := by
  rw [List.getD_eq_getElem?_getD, List.getElem?_map, List.getElem?_take, if_pos hk, List.getD_eq_getElem?_getD, List.getElem?_eq_getElem (by omega)]
  rfl

theorem laid_read {X : List Int} (h64 : In64 X) {q : Nat} (h : ReadOk X (rowL X q)) :
    RightP (readI X (rowL X q)) ∧ (readI X (rowL X q)).F = 1 ∧ (readI X (rowL X q)).B.length = 13 ∧ (ownI X (rowL X q)).length = needN (readI X (rowL X q)) ∧ (∀ c ∈ ownI X (rowL X q), c ≠ 0 ∧ c < 256) ∧ (ownI X (rowL X q)).Nodup ∧ LaidAt X q (readI X (rowL X q)) (ownI X (rowL X q)) := by
  obtain ⟨hno, hS, hen, hF, hR, hrow⟩ := h
  have hr8 := rowL_len X q
  have hr64 : In64 (rowL X q) := fun j => by
    by_cases hj : j < 8
    · rw [rowL_get _ _ _ hj]; exact h64 _
    · rw [List.getD_eq_getElem?_getD, List.getElem?_eq_none (by rw [hr8]; omega)]
      simp
  have h256 := numAll_256 h64 hr64 hr8 hno
  have hll := numAll_len (X := X) hr8
  have hdl : numAll X (rowL X q) = ((rowL X q).drop 2).take 5 ++ (if (rowL X q).getD 7 0 = 0 then List.replicate 8 0 else rowL X (1080 + 8 * ((rowL X q).getD 7 0).toNat)) := rfl
  have hd5 : (numAll X (rowL X q)).drop 5 = if (rowL X q).getD 7 0 = 0 then List.replicate 8 0 else rowL X (1080 + 8 * ((rowL X q).getD 7 0).toNat) := by
    rw [hdl, List.drop_append_of_le_length (by simp [hr8]), List.drop_of_length_le (by simp [hr8])]
    rfl
  have hl7 := hno.1
  have hl70 := (hr64 7).1
  have hl3 := hno.2.2
  clear hdl hno
  have hrd : readI X (rowL X q) = if (tagN (rowL X q)).K = 2 then { tagN (rowL X q) with E := entsE X (numAll X (rowL X q)) ((rowL X q).getD 1 0).toNat } else { tagN (rowL X q) with B := numAll X (rowL X q) } := rfl
  have how : ownI X (rowL X q) = (if (tagN (rowL X q)).K = 2 then ((numAll X (rowL X q)).take (blocksN ((rowL X q).getD 1 0).toNat)).map Int.toNat else []) ++ (if (rowL X q).getD 7 0 = 0 then [] else [((rowL X q).getD 7 0).toNat]) := rfl
  have htB : (tagN (rowL X q)).B = List.replicate 13 0 := rfl
  have htE : (tagN (rowL X q)).E = [] := rfl
  generalize hn : readI X (rowL X q) = n at *
  generalize hoo : ownI X (rowL X q) = own at *
  generalize hlg : numAll X (rowL X q) = l at *
  generalize hlig : (rowL X q).getD 7 0 = li at *
  generalize hmg : ((rowL X q).getD 1 0).toNat = m at *
  generalize hrg : rowL X q = r at *
  have hz0 : blocksN ([] : List (ByteArray × Int)).length = 0 := by decide
  by_cases hK : (tagN r).K = 2
  · -- a directory
    rw [if_pos hK] at hrd how
    obtain ⟨hm24, hlu, hbk⟩ := hen hK
    have hnE : n.E = entsE X l m := by rw [hrd]
    have hnEl : n.E.length = m := by rw [hnE, entsE_len]
    have hnB : n.B = List.replicate 13 0 := by rw [hrd]; exact htB
    have hnK : n.K = 2 := by rw [hrd]; exact hK
    have hc6 : blocksN m ≤ 6 := by unfold blocksN; omega
    have hlz : ∀ k, blocksN m ≤ k → l.getD k 0 = 0 := fun k hk => by
      rw [hlu, uptoL_get hll (by omega), if_neg (by omega)]
    have hdir : DirP n := by
      rcases hR.2.2 with h | h
      · have := h.1; omega
      · exact h.2
    have hlo : ((l.take (blocksN m)).map Int.toNat).length = blocksN m := by rw [List.length_map, List.length_take, hll]; omega
    have hol : own.length = blocksN m + (if li = 0 then 0 else 1) := by
      rw [how, List.length_append, hlo]
      split <;> rfl
    have hget : ∀ k, k < blocksN m → own.getD k 0 = (l.getD k 0).toNat := fun k hk => by
      rw [how, List.getD_eq_getElem?_getD, List.getElem?_append_left (by rw [hlo]; exact hk), ← List.getD_eq_getElem?_getD, take_toNat hk (by rw [hll]; omega)]
    have hgetl : li ≠ 0 → own.getD (blocksN m) 0 = li.toNat := fun h0 => by
      rw [how, List.getD_eq_getElem?_getD, List.getElem?_append_right (by rw [hlo]; omega), hlo, Nat.sub_self, if_neg h0]
      rfl
    have hli : listI n own = li.toNat := by
      unfold listI
      rw [hnEl]
      by_cases h0 : li = 0
      · rw [if_neg (by rw [hol, if_pos h0]; omega), h0]; rfl
      · rw [if_pos (by rw [hol, if_neg h0]; omega), hgetl h0]
    have hlaid : laidL n own = l := by
      have hoc : blocksN n.E.length ≤ own.length := by rw [hnEl, hol]; omega
      refine z_ext (by rw [laidL_len (by rw [hnB]; rfl) (by rw [hnEl]; omega) hoc, hll]) fun k _ => ?_
      rw [laidL_get hoc, hnEl]
      split
      · rename_i hk
        rw [hget k hk, Int.toNat_of_nonneg (h256 k).1]
      · rename_i hk
        rw [hlz k (by omega), hnB, List.getD_eq_getElem?_getD, List.getElem?_replicate]
        split <;> rfl
    have hli6 : li ≠ 0 ↔ 5 < blocksN m := by
      constructor
      · intro h0
        have h1 := hl3.resolve_left h0
        rcases Nat.lt_or_ge 5 (blocksN m) with h | h
        · exact h
        · refine absurd (z_ext (by rw [List.length_drop, hll]; rfl) fun k _ => ?_) h1
          rw [drop5_get, hlz _ (by omega), List.getD_eq_getElem?_getD, List.getElem?_replicate]
          split <;> rfl
      · intro h5 h0
        rw [if_pos h0] at hd5
        have h1 := (hbk 5 h5).1
        have h2 : (l.drop 5).getD 0 0 = 0 := by rw [hd5]; rfl
        rw [drop5_get] at h2
        exact h1 h2
    have hneed : needN n = own.length := by
      unfold needN
      rw [hnEl, hol]
      by_cases h0 : li = 0
      · rw [if_neg, if_pos h0]
        · rfl
        · intro h
          rcases h with h | h
          · exact hli6.2 h h0
          · exact h (by rw [hnB]; rfl)
      · rw [if_pos (.inl (hli6.1 h0)), if_neg h0]
    have hmem : ∀ c ∈ own, c ≠ 0 ∧ c < 256 := fun c hc => by
      obtain ⟨k, hk, rfl⟩ := List.getElem_of_mem hc
      have e : own[k] = own.getD k 0 := by rw [List.getD_eq_getElem?_getD, List.getElem?_eq_getElem hk]; rfl
      rw [e]
      by_cases hkc : k < blocksN m
      · rw [hget k hkc]
        have := (hbk k hkc).1
        have := h256 k
        omega
      · rw [hol] at hk
        split at hk
        · omega
        · rename_i h0
          rw [show k = blocksN m by omega, hgetl h0]
          omega
    have hblk : ∀ k, k < blocksN m → rowL X (1080 + 8 * own.getD k 0) = entRow n.E k := fun k hk => by
      rw [hget k hk, hnE]
      exact (hbk k hk).2.2.symm
    have hlrow : li ≠ 0 → rowL X (1080 + 8 * li.toNat) = l.drop 5 := fun h0 => by rw [hd5, if_neg h0]
    have hfirst : ∀ k, k < blocksN m → (entRow n.E k).getD 0 0 = ((wordV (bl (enm n.E (4 * k))) : Nat) : Int) ∧ 4 * k < n.E.length := fun k hk => by
      have hk4 : 4 * k < m := by unfold blocksN at hk; omega
      refine ⟨?_, by omega⟩
      unfold entRow
      rw [entTo_get _ _ _ _ (by omega), if_pos (by omega), entX, if_pos (by omega)]
      rfl
    have hrise := fun k hk (h0 : 0 < k) => (hdir.2.2.2 k hk).2.2 h0
    refine ⟨hR, by rw [hrd]; exact hF, by rw [hnB]; rfl, hneed.symm, hmem, ?_, ?_⟩
    · rw [List.nodup_iff_pairwise_ne, List.pairwise_iff_getElem]
      intro i j hi hj hij e
      have ei : own[i] = own.getD i 0 := by rw [List.getD_eq_getElem?_getD, List.getElem?_eq_getElem hi]; rfl
      have ej : own[j] = own.getD j 0 := by rw [List.getD_eq_getElem?_getD, List.getElem?_eq_getElem hj]; rfl
      rw [ei, ej] at e
      have hic : i < blocksN m := by rw [hol] at hj; split at hj <;> omega
      obtain ⟨f1, f2⟩ := hfirst i hic
      have b1 := hblk i hic
      have g1 := (hdir.2.2.2 (4 * i) f2).1
      by_cases hjc : j < blocksN m
      · obtain ⟨f3, f4⟩ := hfirst j hjc
        have b2 := hblk j hjc
        rw [e, b2] at b1
        rw [b1, f1] at f3
        have g2 := (hdir.2.2.2 (4 * j) f4).1
        have hw : wordV (bl (enm n.E (4 * i))) = wordV (bl (enm n.E (4 * j))) := by omega
        unfold wordV at hw
        rw [if_pos g1, if_pos g2] at hw
        have n1 := nameN_wordN g1 (bl_lt _)
        have n2 := nameN_wordN g2 (bl_lt _)
        rw [hw, n2] at n1
        exact names_apart hrise (show 4 * i < 4 * j by omega) f4 (bl_inj (Option.some.inj n1)).symm
      · have h0 : li ≠ 0 := fun h0 => by rw [hol, if_pos h0] at hj; omega
        have hje : j = blocksN m := by rw [hol, if_neg h0] at hj; omega
        rw [hje, hgetl h0] at e
        rw [e, hlrow h0] at b1
        have := word_big g1
        rw [← b1, drop5_get] at f1
        have := h256 (5 + 0)
        omega
    · refine ⟨by rw [hlaid, hli, Int.toNat_of_nonneg hl70, hrow, hrg], fun k hk => ?_⟩
      unfold ownRow
      rw [hnEl, hlaid]
      split
      · rename_i hkc
        exact hblk k hkc
      · rename_i hkc
        have h0 : li ≠ 0 := fun h0 => by rw [hol, if_pos h0] at hk; omega
        have hke : k = blocksN m := by rw [hol, if_neg h0] at hk; omega
        rw [hke, hgetl h0, hlrow h0]
  · -- a file
    rw [if_neg hK] at hrd how
    have hnE : n.E = [] := by rw [hrd]; exact htE
    have hnEl : blocksN n.E.length = 0 := by rw [hnE]; exact hz0
    have hnB : n.B = l := by rw [hrd]
    have hol : own = if li = 0 then [] else [li.toNat] := by rw [how, List.nil_append]
    have hlaid : laidL n own = l := by
      unfold laidL
      rw [hnEl, hnB]
      rfl
    have hli : listI n own = li.toNat := by
      unfold listI
      rw [hnEl]
      by_cases h0 : li = 0
      · rw [hol, if_pos h0, if_neg (by simp), h0]; rfl
      · rw [hol, if_neg h0, if_pos (by simp)]; rfl
    refine ⟨hR, by rw [hrd]; exact hF, by rw [hnB, hll], ?_, ?_, ?_, ?_⟩
    · unfold needN
      rw [hnEl, hnB]
      by_cases h0 : li = 0
      · rw [if_pos h0] at hd5
        rw [hol, if_pos h0, if_neg]
        · rfl
        · intro h
          rcases h with h | h
          · omega
          · exact h hd5
      · rw [hol, if_neg h0, if_pos (.inr (hl3.resolve_left h0))]
        rfl
    · rw [hol]
      split
      · simp
      · rename_i h0
        intro c hc
        rw [List.mem_singleton] at hc
        omega
    · rw [hol]
      split <;> simp
    · refine ⟨by rw [hlaid, hli, Int.toNat_of_nonneg hl70, hrow, hrg], fun k hk => ?_⟩
      unfold ownRow
      rw [hnEl, hlaid, if_neg (by omega)]
      have h0 : li ≠ 0 := fun h0 => by rw [hol, if_pos h0] at hk; simp at hk
      rw [hol, if_neg h0] at hk ⊢
      obtain rfl : k = 0 := by simpa using hk
      show rowL X (1080 + 8 * li.toNat) = _
      rw [hd5, if_neg h0]

end Go.Proofs.YtmhcnkjmnbnldaaDoor

namespace Go.Proofs.YtmhcnkjmnbnldaaDoor
open Go.RowKit

/-- The reference's word, once the bytes from i on are in. -/
def refW (l : List Nat) (i : Nat) : Nat := joinN (l.drop i) + 256 ^ (7 - i) * l.length

theorem refW_seven {l : List Nat} (h : l.length ≤ 7) : refW l 7 = l.length := by
  rw [refW, List.drop_of_length_le h]
  simp [joinN]

theorem refW_zero (l : List Nat) : refW l 0 = wordN l := rfl

theorem refW_step {l : List Nat} {i : Nat} (hi : i < 7) : refW l i = refW l (i + 1) * 256 + l.getD i 0 := by
  have e : 256 ^ (7 - i) = 256 * 256 ^ (7 - (i + 1)) := by rw [← Nat.pow_succ']; congr 1; omega
  rw [refW, refW, e]
  by_cases h : i < l.length
  · rw [List.drop_eq_getElem_cons h, joinN, List.getD_eq_getElem?_getD, List.getElem?_eq_getElem h, Option.getD_some, Nat.add_mul, Nat.mul_assoc]
    generalize 256 ^ (7 - (i + 1)) * l.length = z
    omega
  · rw [List.drop_of_length_le (by omega), List.drop_of_length_le (by omega), List.getD_eq_getElem?_getD, List.getElem?_eq_none (by omega), Option.getD_none, Nat.mul_assoc]
    generalize 256 ^ (7 - (i + 1)) * l.length = z
    simp only [joinN]
    omega

theorem refW_lt {l : List Nat} (hl : l.length ≤ 7) (hb : ∀ c ∈ l, c < 256) {i : Nat} (hi : i < 7) : refW l (i + 1) < 2251799813685248 := by
  have h1 := joinN_lt (l := l.drop (i + 1)) fun c hc => hb c (List.mem_of_mem_drop hc)
  have h2 : 256 ^ (l.drop (i + 1)).length ≤ 256 ^ 6 := Nat.pow_le_pow_right (by decide) (by rw [List.length_drop]; omega)
  have h3 : 256 ^ (7 - (i + 1)) ≤ 256 ^ 6 := Nat.pow_le_pow_right (by decide) (by omega)
  rw [show (256 : Nat) ^ 6 = 281474976710656 from rfl] at h2 h3
  have h4 := Nat.mul_le_mul h3 hl
  rw [refW]
  omega

set_option maxHeartbeats 1000000 in
theorem refWord_at (s : ByteArray) (hs : s.size ≤ 7) (w : World) : Calls Tryd.prog 48 #[.string s] w fun e w' => e = .returned (.int .u64 (wordN (bl s) : Nat)) ∧ w = w' := by
  have HL := Lib.hid (bl_len s)
  go_enter Tryd.func48, Tryd.ntmps48
  go_wp2
  go_loopg [3, 4] 7 (fun g s3 s4 wx => ∃ z : Int, z = (g : Int) - 1 ∧ s4 = .int .i64 z ∧ s3 = .int .u64 (refW (bl s) g : Nat) ∧ g ≤ 7 ∧ wx = w)
  case atStart => exact ⟨6, rfl, rfl, by rw [refW_seven (by rw [HL.out]; exact hs), HL.out], by omega, rfl⟩
  case round =>
    obtain ⟨z, hz, rfl, rfl, h7, rfl⟩ := hrel
    cases gk with
    | zero =>
      obtain rfl : z = -1 := by omega
      rw [refW_zero]
      clear hz
      go_wp2_with fail
      go_ret
      exact ⟨rfl, rfl⟩
    | succ g =>
      obtain rfl : z = (g : Int) := by omega
      clear hz
      have hx := refW_lt (l := bl s) (by rw [HL.out]; exact hs) (bl_lt s) (i := g) (by omega)
      have HS := Lib.hid (refW_step (l := bl s) (i := g) (by omega))
      generalize refW (bl s) (g + 1) = x at *
      have hg0 : (0 : Int) ≤ (g : Int) := by omega
      by_cases hlt : g < s.size
      · have HB := Lib.hid (bl_get s g hlt)
        have hlt' : (g : Int) < (s.size : Int) := by omega
        have hc := s[g].toNat_lt
        go_wp2_with fail
        go_roundg g
        case measure => omega
        case rel =>
          refine ⟨(g : Int) - 1, rfl, rfl, ?_, by omega, rfl⟩
          rw [HS.out, HB.out]
          simp
      · have hlt' : ¬ (g : Int) < (s.size : Int) := by omega
        go_wp2_with fail
        go_roundg g
        case measure => omega
        case rel =>
          refine ⟨(g : Int) - 1, rfl, rfl, ?_, by omega, rfl⟩
          rw [HS.out, List.getD_eq_getElem?_getD, List.getElem?_eq_none (by rw [HL.out]; omega)]
          simp

end Go.Proofs.YtmhcnkjmnbnldaaDoor

namespace Go.Proofs.YtmhcnkjmnbnldaaDoor
open Go.RowKit

/-- What a place has, as the reference tells it. -/
def Want (n : Ino) (own : List Nat) (p k : Nat) (x : Int) (ok : Bool) : Prop :=
  (p ≤ k ∧ k < p + 8 → x = (inoRow n (laidL n own) ((listI n own : Nat) : Int)).getD (k - p) 0 ∧ ok = true) ∧
  (¬ (p ≤ k ∧ k < p + 8) → (∀ m, m < own.length → 1080 + 8 * own.getD m 0 ≤ k ∧ k < 1080 + 8 * own.getD m 0 + 8 → x = (ownRow n own m).getD (k - (1080 + 8 * own.getD m 0)) 0 ∧ ok = true) ∧
    ((∀ m, m < own.length → ¬ (1080 + 8 * own.getD m 0 ≤ k ∧ k < 1080 + 8 * own.getD m 0 + 8)) → x = 0 ∧ ok = false))

def WantPost (w : World) (n : Ino) (own : List Nat) (p k : Nat) (e : Ending) (w' : World) : Prop :=
  ∃ x ok, e = .returned (.tuple #[.int .u64 x, .bool ok]) ∧ Want n own p k x ok ∧ Keeps [] w w'

theorem Want.row {n : Ino} {own : List Nat} {p j : Nat} (hj : j < 8) : Want n own p (p + j) ((inoRow n (laidL n own) ((listI n own : Nat) : Int)).getD j 0) true :=
  ⟨fun _ => ⟨by rw [Nat.add_sub_cancel_left], rfl⟩, fun h => absurd ⟨by omega, by omega⟩ h⟩

theorem Want.own {n : Ino} {own : List Nat} {p k m y : Nat} (hn : own.Nodup) (hp : ¬ (p ≤ k ∧ k < p + 8)) (hm : m < own.length) (hy : y < 8) (hk : k = 1080 + 8 * own.getD m 0 + y) : Want n own p k ((ownRow n own m).getD y 0) true := by
  refine ⟨fun h => absurd h hp, fun _ => ⟨fun m' hm' h => ?_, fun h => absurd ⟨by omega, by omega⟩ (h m hm)⟩⟩
  have : own.getD m' 0 = own.getD m 0 := by omega
  obtain rfl := getD_inj hn hm' hm this
  exact ⟨by rw [hk, Nat.add_sub_cancel_left], rfl⟩

theorem Want.none {n : Ino} {own : List Nat} {p k : Nat} (hp : ¬ (p ≤ k ∧ k < p + 8)) (h : ∀ m, m < own.length → ¬ (1080 + 8 * own.getD m 0 ≤ k ∧ k < 1080 + 8 * own.getD m 0 + 8)) : Want n own p k 0 false :=
  ⟨fun h' => absurd h' hp, fun _ => ⟨fun m hm h' => absurd h' (h m hm), fun _ => ⟨rfl, rfl⟩⟩⟩

/-- A list is needed, both ways. -/
theorem any_list {n : Ino} (hB : n.B.length = 13) (h0 : ∀ k, 0 ≤ n.B.getD k 0) : anyTo n.B (blocksN n.E.length) 13 = true ↔ (5 < blocksN n.E.length ∨ n.B.drop 5 ≠ List.replicate 8 0) := by
  unfold anyTo
  rw [List.any_eq_true]
  constructor
  · rintro ⟨j, hj, h⟩
    rw [List.mem_range] at hj
    simp only [Bool.and_eq_true, Bool.or_eq_true, decide_eq_true_eq] at h
    rcases h.2 with h1 | h1
    · right
      intro he
      have e : (n.B.drop 5).getD (j - 5) 0 = 0 := by
        rw [he, List.getD_eq_getElem?_getD, List.getElem?_replicate]
        split <;> rfl
      rw [drop5_get, show 5 + (j - 5) = j by omega] at e
      omega
    · exact .inl h1
  · intro h
    by_cases h5 : 5 < blocksN n.E.length
    · exact ⟨5, by simp, by simp [h5]⟩
    · have h6 := h.resolve_left h5
      rcases Classical.em (∃ j, j < 13 ∧ 5 ≤ j ∧ 0 < n.B.getD j 0) with ⟨j, h1, h2, h3⟩ | hno
      · exact ⟨j, by simpa using h1, by rw [decide_eq_true h2, decide_eq_true h3]; rfl⟩
      · refine absurd (z_ext (by rw [List.length_drop, hB]; rfl) fun k hk => ?_) h6
        rw [List.length_drop, hB] at hk
        have e : (List.replicate 8 (0 : Int)).getD k 0 = 0 := by
          rw [List.getD_eq_getElem?_getD, List.getElem?_replicate]
          split <;> rfl
        rw [drop5_get, e]
        have h7 := h0 (5 + k)
        rcases Int.lt_or_le 0 (n.B.getD (5 + k) 0) with h8 | h8
        · exact absurd ⟨5 + k, by omega, by omega, h8⟩ hno
        · omega

theorem needL_need {n : Ino} (hB : n.B.length = 13) (h0 : ∀ k, 0 ≤ n.B.getD k 0) : needN n = blocksN n.E.length + needL n ∧ needL n ≤ 1 := by
  have h := any_list hB h0
  unfold needN needL
  by_cases hp : 5 < blocksN n.E.length ∨ n.B.drop 5 ≠ List.replicate 8 0
  · rw [if_pos hp, if_pos (h.2 hp)]; exact ⟨rfl, Nat.le_refl _⟩
  · rw [if_neg hp, if_neg (fun h' => hp (h.1 h'))]; exact ⟨rfl, by omega⟩

theorem ent_cond {z m len : Nat} (hz : z < 8) : z < 2 * min 4 (len - 4 * m) ↔ 4 * m + z / 2 < len := by omega

theorem w64_small (x : Nat) (h1 : x < 9000000000) : wrap64 (x : Int) = (x : Int) := by unfold wrap64; omega

theorem five_facts (z : Nat) (hz : z < 8) : 5 + z < 13 ∧ wrap64 ((5 + z : Nat) : Int) = ((5 + z : Nat) : Int) ∧ (5 : Int) + (z : Int) = ((5 + z : Nat) : Int) ∧ (0 : Int) ≤ ((5 + z : Nat) : Int) ∧ ((5 + z : Nat) : Int) < 13 :=
  ⟨by omega, w64_small _ (by omega), by omega, by omega, by omega⟩

theorem lt_three {m j l : Nat} (a : m < l) (b : l ≤ j + 1) (c : m ≠ j) : m < j := by omega

theorem cast_ne {m j : Nat} (c : m ≠ j) : ((m : Int) == (j : Int)) = false := by simp; omega

theorem len_facts {e len : Nat} (h : ¬ len ≤ e) : ¬ (len : Int) ≤ (e : Int) ∧ (e : Int) < (len : Int) ∧ (0 : Int) ≤ (e : Int) ∧ e < len := by omega

theorem half_facts (z m : Nat) (hm : m < 100) (hz : z < 8) : ((z : Nat) : Int).tdiv 2 = ((z / 2 : Nat) : Int) ∧ ((z : Nat) : Int).tmod 2 = ((z % 2 : Nat) : Int) ∧ wrap64 ((z / 2 : Nat) : Int) = ((z / 2 : Nat) : Int) ∧ wrap64 ((z % 2 : Nat) : Int) = ((z % 2 : Nat) : Int) ∧ wrap64 (4 * (m : Int)) = 4 * (m : Int) ∧ 4 * (m : Int) + ((z / 2 : Nat) : Int) = ((4 * m + z / 2 : Nat) : Int) ∧ wrap64 ((4 * m + z / 2 : Nat) : Int) = ((4 * m + z / 2 : Nat) : Int) := by
  refine ⟨by rw [show (2 : Int) = ((2 : Nat) : Int) from rfl, Int.ofNat_tdiv], by rw [show (2 : Int) = ((2 : Nat) : Int) from rfl, Int.ofNat_tmod], w64_small _ (by omega), w64_small _ (by omega), ?_, by omega, w64_small _ (by omega)⟩
  unfold wrap64
  omega

/-- The numbers as the reference lays them. -/
def lTo (n : Ino) (own : List Nat) (k : Nat) : List Int := (own.take k).map (fun x : Nat => (x : Int)) ++ n.B.drop k

theorem lTo_len {n : Ino} {own : List Nat} {k : Nat} (hB : n.B.length = 13) (hk : k ≤ own.length) (h13 : k ≤ 13) : (lTo n own k).length = 13 := by simp [lTo, hB]; omega

theorem lTo_succ {n : Ino} {own : List Nat} {k : Nat} (hB : n.B.length = 13) (hk : k < own.length) (h13 : k < 13) : (lTo n own k).set k ((own.getD k 0 : Nat) : Int) = lTo n own (k + 1) := by
  have h1 : ((own.take k).map (fun x : Nat => (x : Int))).length = k := by rw [List.length_map, List.length_take]; omega
  unfold lTo
  rw [List.set_append_right _ _ (by rw [h1]; exact Nat.le_refl _), h1, Nat.sub_self, List.take_succ_eq_append_getElem hk, List.map_append, List.append_assoc]
  congr 1
  rw [List.drop_eq_getElem_cons (by omega : k < n.B.length), List.set_cons_zero]
  simp [List.getD_eq_getElem?_getD, hk]

set_option maxRecDepth 100000 in
set_option maxHeartbeats 1500000 in
theorem refWordI_at (n : Ino) (v : Value) (g : Nat) (own : List Nat) (vo : Value) (go p k : Nat) (hB : n.B.length = 13) (hR : RightP n) (ho : own.length = needN n) (hm : ∀ c ∈ own, c ≠ 0 ∧ c < 256) (hnd : own.Nodup) (hp : p < 3128) (hk : k < 3128) (w : World) (hE : EReads w v g n.E) (hO : Reads w vo go (i64s own)) :
    Calls Tryd.prog 21 #[.agg (inoC n v), .int .i64 (p : Int), vo, .int .i64 (k : Int)] w (WantPost w n own p k) := by
  have hbl := blocks_le hR
  have hcn := need_le n
  have hoc : blocksN n.E.length ≤ own.length := by omega
  have h256 := laidL_256 hR hB hoc hm
  have hll := laidL_len (own := own) hB (by omega) hoc
  have HTO := Lib.hid (tagOk_right hR)
  have hB0 : ∀ k, 0 ≤ n.B.getD k 0 := fun k => (right_len hR hB k).1
  obtain ⟨hnl, hnl1⟩ := needL_need hB hB0
  obtain ⟨a, cap, rfl, hcap, hmax, HEC⟩ := hE.open
  obtain ⟨ao, co, rfl, hco, hmo, HOC⟩ := ints_cell hO
  have HNEED : Hid (∀ wx, Calls Tryd.prog 19 #[.agg (inoC n (.slice a n.E.length cap))] wx fun e w' => e = .returned (.tuple #[.int .i64 ((blocksN n.E.length : Nat) : Int), .int .i64 ((needL n : Nat) : Int)]) ∧ Keeps [] wx w') := fun wx => refNeed_at n a cap hB (by omega) wx
  have HTAG : Hid (∀ wx, Calls Tryd.prog 47 #[.agg (inoC n (.slice a n.E.length cap))] wx fun e w' => e = .returned (.int .u64 (tagW n)) ∧ Keeps [] wx w') := fun wx => refTag_at n _ hB HTO.out wx
  have HENT : Hid (∀ e, e < n.E.length → goodN (bl (enm n.E e)) = true ∧ 0 ≤ eno n.E e ∧ eno n.E e ≤ 31) := fun e he => by
    have := (hbl.2.2 (by omega)).2.2.2.2 e he
    exact ⟨this.1, this.2.1⟩
  have HPOST : Hid (∀ x ok w', Want n own p k x ok → Keeps [] w w' → WantPost w n own p k (.returned (.tuple #[.int .u64 x, .bool ok])) w') := fun x ok w' h1 h2 => ⟨x, ok, rfl, h1, h2⟩
  have HROW : Hid (∀ j, j < 8 → k = p + j → Want n own p k ((inoRow n (laidL n own) ((listI n own : Nat) : Int)).getD j 0) true) := fun j hj e => by rw [e]; exact Want.row hj
  have HOWN : Hid (¬ (p ≤ k ∧ k < p + 8) → ∀ m y, m < own.length → y < 8 → k = 1080 + 8 * own.getD m 0 + y → Want n own p k ((ownRow n own m).getD y 0) true) := fun hp m y h1 h2 h3 => Want.own hnd hp h1 h2 h3
  have HNONE : Hid (¬ (p ≤ k ∧ k < p + 8) → (∀ m, m < own.length → ¬ (1080 + 8 * own.getD m 0 ≤ k ∧ k < 1080 + 8 * own.getD m 0 + 8)) → Want n own p k 0 false) := fun h1 h2 => Want.none h1 h2
  have hat := inoAt (.slice a n.E.length cap) hB
  have hzn := zero_n13
  have HLI : Hid (∀ wx, Blk wx w.heap.size (inoC n (.slice a n.E.length cap)) 25 → (loadVar 25 ⟨w.heap.size, 0, none⟩).run Tryd.prog wx = .ok (.agg (inoC n (.slice a n.E.length cap))) wx ∧ (loadVar 22 ⟨w.heap.size, 4, none⟩).run Tryd.prog wx = .ok (.agg (zs n.B).toArray) wx) := fun wx hb => ⟨load_ino hb hB, load_B hb hB⟩
  have HS0 : Hid (0 ≤ n.S ∧ n.S < 9223372036854775808) := HTO.out.s
  unfold maxLen at hmax hmo
  have hb0 := Blk.new w (inoC n (.slice a n.E.length cap)) 25
  have H3 := Lib.hid hat.f3
  have H17 := Lib.hid hat.f5
  have HK0 : Hid (Keeps [] w (w.alloc (.cells (inoC n (.slice a n.E.length cap)) 25))) := (Keeps.refl _ _).alloc _
  have hlo : own.length ≤ 7 := by omega
  have hod : own.length ≤ blocksN n.E.length + 1 := by omega
  have HOL : Hid (own.length = blocksN n.E.length + needL n) := by show _ = _; omega
  clear ho hnl hcn
  have HLO : Hid (∀ j, j < own.length → own.getD j 0 < 256) := fun j hj => (hm _ (getD_mem hj)).2
  clear hE hO hat hnd hm hR hB0
  generalize hZg : inoC n (.slice a n.E.length cap) = Z at *
  clear hZg
  have HB0 := Lib.hid hb0
  have HL0 := Lib.hid (HLI.out _ hb0).1
  clear hb0
  go_enter Tryd.func21, Tryd.ntmps21
  go_wp2_with ((with_reducible show wpList _ _ _ (⟨_, .load 25 (.tmp 4), _, _, _, _⟩ :: _) _ _); refine wpList_load_any rfl 25 (.tmp 4) rfl _ rfl _ HL0.out ?_)
  refine (HNEED.out _).mono ?_; rintro e w1 ⟨rfl, hk1⟩
  have HK1 := Lib.hid (HK0.out.trans' hk1)
  have HB1 := Lib.hid (HB0.out.keep hk1 (by simp))
  have HL1 := Lib.hid (HLI.out _ HB1.out).2
  have HN0 := Blk.new w1 (zs (List.replicate 13 0)).toArray 22
  obtain ⟨w2, hst2, hb2, hk2⟩ := store_whole (P := Tryd.prog) (ty := 22) (cs := zs n.B) (by rw [zs_len, hB]; exact size_n13) HN0 (by simp [zs_len, hB]) (zs_one _)
  have HST2 := Lib.hid hst2
  have hk12 : Keeps [] w1 w2 := ((Keeps.refl [] w1).alloc _).trans hk2 (by intro x hx; rw [List.mem_singleton] at hx; omega)
  have HK2 := Lib.hid (HK1.out.trans' hk12)
  have HB2 := Lib.hid (HB1.out.keep hk12 (by simp))
  have HA2 : Hid (Blk w2 w1.heap.size (zs (lTo n own 0)).toArray 22) := hb2
  have hz1 := HK1.out.size
  have hlt1 := HB1.out.lt
  clear hk1 hst2 hb2 hk2 hk12 HN0 HK0 HB0 HL0 HNEED HK1 HB1
  have HNB := Lib.hid hB
  have HLD : Hid (laidL n own = lTo n own (blocksN n.E.length)) := rfl
  generalize hcnt : blocksN n.E.length = d at *
  have HD := Lib.hid hcnt
  clear hcnt
  generalize (zs n.B).toArray = ZB at *
  generalize (zs (List.replicate 13 0)).toArray = ZN at *
  go_wp2_with (first | ((with_reducible show wpList _ _ _ (⟨_, .load 22 (.tmp 23), _, _, _, _⟩ :: _) _ _); refine wpList_load_any rfl 22 (.tmp 23) rfl _ rfl _ HL1.out ?_) | ((with_reducible show wpList _ _ _ (⟨_, .store 22 (.tmp 12) (.tmp 24), _, _, _, _⟩ :: _) _ _); refine wpList_store_any rfl 22 (.tmp 12) (.tmp 24) rfl _ rfl _ rfl _ HST2.out ?_))
  clear hzn HL1 HST2
  generalize w1.heap.size = lb at *
  go_loopg [13] d (fun gh s13 wx => ∃ j : Nat, j + gh = d ∧ s13 = .int .i64 (j : Int) ∧ Hid (Blk wx w.heap.size Z 25 ∧ Blk wx lb (zs (lTo n own j)).toArray 22 ∧ Keeps [] w wx))
  case atStart => exact ⟨0, by omega, rfl, HB2.out, HA2.out, HK2.out⟩
  case round =>
    clear HB2 HA2 HK2
    obtain ⟨j, hj, rfl, HP⟩ := hrel
    obtain ⟨hbr, har, hkr⟩ := HP.out
    cases gk with
    | succ gg =>
      have hjd : j < d := by omega
      have hlt : (j : Int) < (d : Int) := by omega
      have hj0 : (0 : Int) ≤ (j : Int) := by omega
      have hj13 : (j : Int) < 13 := by omega
      have hjo : (j : Int) < (own.length : Int) := by omega
      obtain ⟨hgo, off, rfl, hc⟩ := HOC.out j (by omega)
      have c1 : wr.cell? ⟨go, off + j, none⟩ = some (.int .i64 ((own.getD j 0 : Nat) : Int)) := (World.cell?_of_block (hkr.block go hgo (by simp))).trans hc
      have c2 : wr.cell? ⟨lb, j, none⟩ = some (.int .i64 ((lTo n own j).getD j 0)) := by rw [har.cell, List.getElem?_toArray, zs_get (by rw [lTo_len HNB.out (by omega) (by omega)]; omega)]
      have f2 : wr.frozen? ⟨lb, j, none⟩ = false := har.frozen j
      have HNEW : Hid (Blk (wr.setCell ⟨lb, j, none⟩ (.int .i64 ((own.getD j 0 : Nat) : Int))) w.heap.size Z 25 ∧ Blk (wr.setCell ⟨lb, j, none⟩ (.int .i64 ((own.getD j 0 : Nat) : Int))) lb (zs (lTo n own (j + 1))).toArray 22 ∧ Keeps [] w (wr.setCell ⟨lb, j, none⟩ (.int .i64 ((own.getD j 0 : Nat) : Int)))) := by
        refine ⟨hbr.other (by first | (show lb ≠ w.heap.size; omega) | (show w.heap.size ≠ lb; omega)) _, ?_, hkr.setCell (.inr (by show w.heap.size ≤ lb; omega)) _⟩
        have := har.set j (.int .i64 ((own.getD j 0 : Nat) : Int))
        rw [List.setIfInBounds_toArray, zs_set, lTo_succ HNB.out (by omega) (by omega)] at this
        exact this
      clear HP hbr har hkr hc HOC HEC
      generalize (lTo n own j).getD j 0 = y at *
      generalize ((own.getD j 0 : Nat) : Int) = x at *
      go_wp2_with fail
      go_roundg gg
      case measure => omega
      case rel => exact ⟨j + 1, by omega, by go_num, HNEW.out⟩
    | zero =>
      obtain rfl : j = d := by omega
      have HBR := Lib.hid hbr
      have HAR := Lib.hid har
      have HKR := Lib.hid hkr
      have har2 := har
      rw [← HLD.out] at har2
      have HC : Hid (∀ i, i < 13 → wr.cell? ⟨lb, i, none⟩ = some (.int .i64 ((laidL n own).getD i 0))) := fun i hi => by rw [har2.cell, List.getElem?_toArray, zs_get (by omega)]
      have HLR := Lib.hid (HLI.out _ hbr).1
      have HW : Hid (∀ i, IntKind.u64.wrap ((laidL n own).getD i 0) = (laidL n own).getD i 0) := fun i => wrap_nat64 (h256 i).1 (by have := (h256 i).2; omega)
      clear HP hbr har hkr har2 hj
      generalize wr = wA at *
      clear HLI
      by_cases hin : p ≤ k ∧ k < p + 8
      · obtain ⟨i, hi, hpi⟩ : ∃ i, k = p + i ∧ i < 8 := ⟨k - p, by omega, by omega⟩
        have hsub : wrap64 ((k : Int) - (p : Int)) = (i : Int) := by unfold wrap64; omega
        have hsub0 : (k : Int) - (p : Int) = (i : Int) := by omega
        have HRI := Lib.hid (HROW.out i hpi hi)
        clear HOWN HNONE HROW hin hi
        rcases (show i = 0 ∨ i = 1 ∨ i = 2 ∨ i = 3 ∨ i = 4 ∨ i = 5 ∨ i = 6 ∨ i = 7 by omega) with rfl | rfl | rfl | rfl | rfl | rfl | rfl | rfl
        · go_wp2_with ((with_reducible show wpList _ _ _ (⟨_, .load 25 (.tmp 4), _, _, _, _⟩ :: _) _ _); refine wpList_load_any rfl 25 (.tmp 4) rfl _ rfl _ HLR.out ?_)
          refine (HTAG.out _).mono ?_; rintro e w4 ⟨rfl, hk4⟩
          have HK4 := Lib.hid (HKR.out.trans' hk4)
          clear hk4
          go_wp2_with fail
          go_ret2
          exact HPOST.out _ _ _ HRI.out HK4.out
        · have c3 : wA.cell? ⟨w.heap.size, 3, none⟩ = some (.int .i64 n.S) := by rw [HBR.out.cell]; exact H3.out
          have hws := wrap_nat64 HS0.out.1 HS0.out.2
          have hr1 : (inoRow n (laidL n own) ((listI n own : Nat) : Int)).getD 1 0 = n.S := rfl
          rw [hr1] at HRI
          generalize n.S = s at *
          go_wp2_with fail
          go_ret2
          exact HPOST.out _ _ _ HRI.out HKR.out
        · have c3 := HC.out 0 (by omega)
          have hws := HW.out 0
          have hr1 : (inoRow n (laidL n own) ((listI n own : Nat) : Int)).getD 2 0 = (laidL n own).getD 0 0 := by
            show ((laidL n own).take 5 ++ [((listI n own : Nat) : Int)]).getD 0 0 = _
            rw [List.getD_eq_getElem?_getD, List.getElem?_append_left (by rw [List.length_take, hll]; omega), List.getElem?_take, if_pos (by omega), ← List.getD_eq_getElem?_getD]
          rw [hr1] at HRI
          generalize (laidL n own).getD 0 0 = x at *
          go_wp2_with fail
          go_ret2
          exact HPOST.out _ _ _ HRI.out HKR.out
        · have c3 := HC.out 1 (by omega)
          have hws := HW.out 1
          have hr1 : (inoRow n (laidL n own) ((listI n own : Nat) : Int)).getD 3 0 = (laidL n own).getD 1 0 := by
            show ((laidL n own).take 5 ++ [((listI n own : Nat) : Int)]).getD 1 0 = _
            rw [List.getD_eq_getElem?_getD, List.getElem?_append_left (by rw [List.length_take, hll]; omega), List.getElem?_take, if_pos (by omega), ← List.getD_eq_getElem?_getD]
          rw [hr1] at HRI
          generalize (laidL n own).getD 1 0 = x at *
          go_wp2_with fail
          go_ret2
          exact HPOST.out _ _ _ HRI.out HKR.out
        · have c3 := HC.out 2 (by omega)
          have hws := HW.out 2
          have hr1 : (inoRow n (laidL n own) ((listI n own : Nat) : Int)).getD 4 0 = (laidL n own).getD 2 0 := by
            show ((laidL n own).take 5 ++ [((listI n own : Nat) : Int)]).getD 2 0 = _
            rw [List.getD_eq_getElem?_getD, List.getElem?_append_left (by rw [List.length_take, hll]; omega), List.getElem?_take, if_pos (by omega), ← List.getD_eq_getElem?_getD]
          rw [hr1] at HRI
          generalize (laidL n own).getD 2 0 = x at *
          go_wp2_with fail
          go_ret2
          exact HPOST.out _ _ _ HRI.out HKR.out
        · have c3 := HC.out 3 (by omega)
          have hws := HW.out 3
          have hr1 : (inoRow n (laidL n own) ((listI n own : Nat) : Int)).getD 5 0 = (laidL n own).getD 3 0 := by
            show ((laidL n own).take 5 ++ [((listI n own : Nat) : Int)]).getD 3 0 = _
            rw [List.getD_eq_getElem?_getD, List.getElem?_append_left (by rw [List.length_take, hll]; omega), List.getElem?_take, if_pos (by omega), ← List.getD_eq_getElem?_getD]
          rw [hr1] at HRI
          generalize (laidL n own).getD 3 0 = x at *
          go_wp2_with fail
          go_ret2
          exact HPOST.out _ _ _ HRI.out HKR.out
        · have c3 := HC.out 4 (by omega)
          have hws := HW.out 4
          have hr1 : (inoRow n (laidL n own) ((listI n own : Nat) : Int)).getD 6 0 = (laidL n own).getD 4 0 := by
            show ((laidL n own).take 5 ++ [((listI n own : Nat) : Int)]).getD 4 0 = _
            rw [List.getD_eq_getElem?_getD, List.getElem?_append_left (by rw [List.length_take, hll]; omega), List.getElem?_take, if_pos (by omega), ← List.getD_eq_getElem?_getD]
          rw [hr1] at HRI
          generalize (laidL n own).getD 4 0 = x at *
          go_wp2_with fail
          go_ret2
          exact HPOST.out _ _ _ HRI.out HKR.out
        · rw [inoRow_7 hll] at HRI
          rcases (show needL n = 0 ∨ needL n = 1 by omega) with hl0 | hl0
          · have hli : listI n own = 0 := by have hol := HOL.out; unfold listI; rw [HD.out, if_neg (by omega)]
            rw [hli] at HRI
            rw [hl0]
            go_wp2_with fail
            go_ret2
            exact HPOST.out _ _ _ HRI.out HKR.out
          · have hjl : j < own.length := by have hol := HOL.out; omega
            have hli : listI n own = own.getD j 0 := by unfold listI; rw [HD.out, if_pos hjl]
            obtain ⟨hgo, off, rfl, hc⟩ := HOC.out j hjl
            have c1 : wA.cell? ⟨go, off + j, none⟩ = some (.int .i64 ((own.getD j 0 : Nat) : Int)) := (World.cell?_of_block (HKR.out.block go hgo (by simp))).trans hc
            have hjo : (j : Int) < (own.length : Int) := by omega
            have hj0 : (0 : Int) ≤ (j : Int) := by omega
            have hx256 := HLO.out j hjl
            have hws : IntKind.u64.wrap ((own.getD j 0 : Nat) : Int) = ((own.getD j 0 : Nat) : Int) := wrap_nat64 (by omega) (by omega)
            rw [hli] at HRI
            rw [hl0]
            clear hc hx256
            generalize ((own.getD j 0 : Nat) : Int) = x at *
            go_wp2_with fail
            go_ret2
            exact HPOST.out _ _ _ HRI.out HKR.out
      · obtain ⟨i, hi⟩ : ∃ i : Int, (k : Int) - (p : Int) = i := ⟨_, rfl⟩
        have hsub : wrap64 ((k : Int) - (p : Int)) = i := by rw [hi]; unfold wrap64; omega
        have hior : i < 0 ∨ 8 ≤ i := by omega
        have HOW := Lib.hid (HOWN.out hin)
        have HNN := Lib.hid (HNONE.out hin)
        have i0 : (i == 0) = false := by simp; omega
        have i1 : (i == 1) = false := by simp; omega
        have i7 : (i == 7) = false := by simp; omega
        clear HROW HOWN HNONE hin HTAG HLR HAR
        rcases hior with hio | hio
        · have hi2 : ¬ (2 : Int) ≤ i := by omega
          go_wp2_with fail
          go_loopg [15] own.length (fun gh s15 wx => ∃ m : Nat, m + gh = own.length ∧ s15 = .int .i64 (m : Int) ∧ wx = wA ∧ Hid (∀ i, i < m → ¬ (1080 + 8 * own.getD i 0 ≤ k ∧ k < 1080 + 8 * own.getD i 0 + 8)))
          case atStart => exact ⟨0, by omega, rfl, rfl, by intro i hi; omega⟩
          case round =>
            obtain ⟨m, hm, rfl, rfl, HQ⟩ := hrel
            clear i0 i1 i7 hio hi2 hi hsub
            try clear hi7
            cases gk with
            | zero =>
              obtain rfl : m = own.length := by omega
              have HRI := Lib.hid (HNN.out HQ.out)
              clear HQ HOW HNN HC HW hm
              go_wp2_with fail
              go_ret2
              exact HPOST.out _ _ _ HRI.out HKR.out
            | succ gg =>
              have hml : m < own.length := by omega
              have hmo : (m : Int) < (own.length : Int) := by omega
              have hm0 : (0 : Int) ≤ (m : Int) := by omega
              obtain ⟨hgo, off, rfl, hc⟩ := HOC.out m hml
              have c1 : wr.cell? ⟨go, off + m, none⟩ = some (.int .i64 ((own.getD m 0 : Nat) : Int)) := (World.cell?_of_block (HKR.out.block go hgo (by simp))).trans hc
              have hx256 := HLO.out m hml
              have hs1 : wrap64 ((k : Int) - 1080) = (k : Int) - 1080 := by unfold wrap64; omega
              have hs2 : wrap64 (8 * ((own.getD m 0 : Nat) : Int)) = 8 * ((own.getD m 0 : Nat) : Int) := by unfold wrap64; omega
              obtain ⟨y, hy⟩ : ∃ y : Int, (k : Int) - 1080 - 8 * ((own.getD m 0 : Nat) : Int) = y := ⟨_, rfl⟩
              have hs3 : wrap64 ((k : Int) - 1080 - 8 * ((own.getD m 0 : Nat) : Int)) = y := by rw [hy]; unfold wrap64; omega
              have hwy : wrap64 y = y := by unfold wrap64; omega
              have HNX : Hid ((y < 0 ∨ 7 < y) → ∀ i, i < m + 1 → ¬ (1080 + 8 * own.getD i 0 ≤ k ∧ k < 1080 + 8 * own.getD i 0 + 8)) := fun h i hi => by
                by_cases e : i = m
                · subst e; omega
                · exact HQ.out i (by omega)
              have HOM : Hid (∀ z : Nat, z < 8 → y = (z : Int) → Want n own p k ((ownRow n own m).getD z 0) true) := fun z hz e => HOW.out m z hml hz (by omega)
              clear hc HQ
              by_cases y0 : y < 0
              · have HN2 := Lib.hid (HNX.out (.inl y0))
                clear HOM HOW HNN HC HW HEC HOC HNX hx256
                generalize ((own.getD m 0 : Nat) : Int) = o at *
                go_wp2_with fail
                go_roundg gg
                case measure => omega
                case rel => exact ⟨m + 1, by omega, by go_num, rfl, HN2.out⟩
              · by_cases y7 : 7 < y
                · have HN2 := Lib.hid (HNX.out (.inr y7))
                  clear HOM HOW HNN HC HW HEC HOC HNX hx256
                  generalize ((own.getD m 0 : Nat) : Int) = o at *
                  go_wp2_with fail
                  go_roundg gg
                  case measure => omega
                  case rel => exact ⟨m + 1, by omega, by go_num, rfl, HN2.out⟩
                · obtain ⟨z, hz⟩ : ∃ z : Nat, y = (z : Int) := ⟨y.toNat, by omega⟩
                  have hz8 : z < 8 := by omega
                  have HRI := Lib.hid (HOM.out z hz8 hz)
                  clear HOM HOW HNN HNX hm
                  subst hz
                  generalize ((own.getD m 0 : Nat) : Int) = o at *
                  by_cases hmd : m = j
                  · subst hmd
                    obtain ⟨hix13, hwix, hixb, hix0, hix1⟩ := five_facts z hz8
                    have c3 := HC.out (5 + z) hix13
                    have hws := HW.out (5 + z)
                    rw [ownRow, HD.out, if_neg (Nat.lt_irrefl _), drop5_get] at HRI
                    clear HC HW HEC HOC hx256 h256 hll hbl hoc hnl1 hod hlo hcap hmax hco hk hp hix13 hB
                    generalize (laidL n own).getD (5 + z) 0 = x at *
                    generalize 5 + z = q at *
                    go_wp2_with fail
                    go_ret2
                    exact HPOST.out _ _ _ HRI.out HKR.out
                  · have hmd' := cast_ne hmd
                    have hmj : m < j := lt_three hml hod hmd
                    rw [ownRow, HD.out, if_pos hmj, entRow, entTo_get _ _ _ _ hz8] at HRI
                    clear h256 hll hoc hnl1 hk hp hB hmj
                    obtain ⟨hq2, hm2, hwq, hwm, hw4, hwf, hwee⟩ := half_facts z m (Nat.lt_of_lt_of_le hml (Nat.le_trans hlo (by decide))) hz8
                    have c17 : wr.cell? ⟨w.heap.size, 17, none⟩ = some (.slice a n.E.length cap) := by rw [HBR.out.cell]; exact H17.out
                    obtain ⟨e, he⟩ : ∃ e, e = 4 * m + z / 2 := ⟨_, rfl⟩
                    rw [← he] at hwee hwf
                    have hcond := ent_cond (m := m) (len := n.E.length) hz8
                    rw [← he] at hcond
                    have hel64 : n.E.length ≤ 24 := hbl.1
                    by_cases hel : n.E.length ≤ e
                    · have hel' : (n.E.length : Int) ≤ (e : Int) := Int.ofNat_le.2 hel
                      rw [if_neg (fun h => Nat.not_lt.2 hel (hcond.1 h))] at HRI
                      clear HC HW HEC HOC hx256 hcond he hbl hod hlo hcap hmax hco hel64 hel hmd hm2 hwm
                      generalize z / 2 = z2 at *
                      generalize n.E.length = len at *
                      go_wp2_with fail
                      go_ret2
                      exact HPOST.out _ _ _ HRI.out HKR.out
                    · obtain ⟨hel', hel2, he0, hlt0⟩ := len_facts hel
                      rw [if_pos (hcond.2 (Nat.lt_of_not_le hel))] at HRI
                      clear hcond
                      obtain ⟨hgg, off2, rfl, d1, d2⟩ := HEC.out e hlt0
                      have c4 : wr.cell? ⟨g, off2 + e * 2, none⟩ = some (.string (enm n.E e)) := (World.cell?_of_block (HKR.out.block g hgg (by simp))).trans d1
                      have c5 : wr.cell? ⟨g, off2 + e * 2 + 1, none⟩ = some (.int .i64 (eno n.E e)) := (World.cell?_of_block (HKR.out.block g hgg (by simp))).trans d2
                      obtain ⟨en1, en2, en3⟩ := HENT.out e hlt0
                      unfold entX at HRI
                      rw [← he] at HRI
                      by_cases hz2 : z % 2 = 0
                      · rw [if_pos hz2] at HRI
                        rw [hz2] at hm2 hwm
                        unfold wordV at HRI
                        rw [if_pos en1] at HRI
                        have HWD := Lib.hid (fun wx => refWord_at (enm n.E e) (by have := (goodN_len en1).2; rwa [bl_len] at this) wx)
                        clear HC HW HEC HOC d1 d2 en1 hx256 he hbl hod hlo hcap hmax hco hel64 hel hmd hlt0 hz2
                        generalize enm n.E e = nm at *
                        generalize z / 2 = z2 at *
                        generalize n.E.length = len at *
                        go_wp2_with fail
                        refine (HWD.out _).mono ?_; rintro e w' ⟨rfl, rfl⟩
                        go_wp2_with fail
                        go_ret2
                        exact HPOST.out _ _ _ HRI.out HKR.out
                      · rw [if_neg hz2] at HRI
                        rw [(Nat.mod_two_eq_zero_or_one z).resolve_left hz2] at hm2 hwm
                        have hws : IntKind.u64.wrap (eno n.E e) = eno n.E e := wrap_nat64 en2 (Int.lt_of_le_of_lt en3 (by decide))
                        clear HC HW HEC HOC d1 d2 en1 hx256 he hbl hod hlo hcap hmax hco hel64 hel hmd hlt0 hz2
                        generalize eno n.E e = x at *
                        generalize z / 2 = z2 at *
                        generalize n.E.length = len at *
                        go_wp2_with fail
                        go_ret2
                        exact HPOST.out _ _ _ HRI.out HKR.out
        · have hi2 : (2 : Int) ≤ i := by omega
          have hi7 : ¬ i < 7 := by omega
          go_wp2_with fail
          go_loopg [15] own.length (fun gh s15 wx => ∃ m : Nat, m + gh = own.length ∧ s15 = .int .i64 (m : Int) ∧ wx = wA ∧ Hid (∀ i, i < m → ¬ (1080 + 8 * own.getD i 0 ≤ k ∧ k < 1080 + 8 * own.getD i 0 + 8)))
          case atStart => exact ⟨0, by omega, rfl, rfl, by intro i hi; omega⟩
          case round =>
            obtain ⟨m, hm, rfl, rfl, HQ⟩ := hrel
            clear i0 i1 i7 hio hi2 hi hsub
            try clear hi7
            cases gk with
            | zero =>
              obtain rfl : m = own.length := by omega
              have HRI := Lib.hid (HNN.out HQ.out)
              clear HQ HOW HNN HC HW hm
              go_wp2_with fail
              go_ret2
              exact HPOST.out _ _ _ HRI.out HKR.out
            | succ gg =>
              have hml : m < own.length := by omega
              have hmo : (m : Int) < (own.length : Int) := by omega
              have hm0 : (0 : Int) ≤ (m : Int) := by omega
              obtain ⟨hgo, off, rfl, hc⟩ := HOC.out m hml
              have c1 : wr.cell? ⟨go, off + m, none⟩ = some (.int .i64 ((own.getD m 0 : Nat) : Int)) := (World.cell?_of_block (HKR.out.block go hgo (by simp))).trans hc
              have hx256 := HLO.out m hml
              have hs1 : wrap64 ((k : Int) - 1080) = (k : Int) - 1080 := by unfold wrap64; omega
              have hs2 : wrap64 (8 * ((own.getD m 0 : Nat) : Int)) = 8 * ((own.getD m 0 : Nat) : Int) := by unfold wrap64; omega
              obtain ⟨y, hy⟩ : ∃ y : Int, (k : Int) - 1080 - 8 * ((own.getD m 0 : Nat) : Int) = y := ⟨_, rfl⟩
              have hs3 : wrap64 ((k : Int) - 1080 - 8 * ((own.getD m 0 : Nat) : Int)) = y := by rw [hy]; unfold wrap64; omega
              have hwy : wrap64 y = y := by unfold wrap64; omega
              have HNX : Hid ((y < 0 ∨ 7 < y) → ∀ i, i < m + 1 → ¬ (1080 + 8 * own.getD i 0 ≤ k ∧ k < 1080 + 8 * own.getD i 0 + 8)) := fun h i hi => by
                by_cases e : i = m
                · subst e; omega
                · exact HQ.out i (by omega)
              have HOM : Hid (∀ z : Nat, z < 8 → y = (z : Int) → Want n own p k ((ownRow n own m).getD z 0) true) := fun z hz e => HOW.out m z hml hz (by omega)
              clear hc HQ
              by_cases y0 : y < 0
              · have HN2 := Lib.hid (HNX.out (.inl y0))
                clear HOM HOW HNN HC HW HEC HOC HNX hx256
                generalize ((own.getD m 0 : Nat) : Int) = o at *
                go_wp2_with fail
                go_roundg gg
                case measure => omega
                case rel => exact ⟨m + 1, by omega, by go_num, rfl, HN2.out⟩
              · by_cases y7 : 7 < y
                · have HN2 := Lib.hid (HNX.out (.inr y7))
                  clear HOM HOW HNN HC HW HEC HOC HNX hx256
                  generalize ((own.getD m 0 : Nat) : Int) = o at *
                  go_wp2_with fail
                  go_roundg gg
                  case measure => omega
                  case rel => exact ⟨m + 1, by omega, by go_num, rfl, HN2.out⟩
                · obtain ⟨z, hz⟩ : ∃ z : Nat, y = (z : Int) := ⟨y.toNat, by omega⟩
                  have hz8 : z < 8 := by omega
                  have HRI := Lib.hid (HOM.out z hz8 hz)
                  clear HOM HOW HNN HNX hm
                  subst hz
                  generalize ((own.getD m 0 : Nat) : Int) = o at *
                  by_cases hmd : m = j
                  · subst hmd
                    obtain ⟨hix13, hwix, hixb, hix0, hix1⟩ := five_facts z hz8
                    have c3 := HC.out (5 + z) hix13
                    have hws := HW.out (5 + z)
                    rw [ownRow, HD.out, if_neg (Nat.lt_irrefl _), drop5_get] at HRI
                    clear HC HW HEC HOC hx256 h256 hll hbl hoc hnl1 hod hlo hcap hmax hco hk hp hix13 hB
                    generalize (laidL n own).getD (5 + z) 0 = x at *
                    generalize 5 + z = q at *
                    go_wp2_with fail
                    go_ret2
                    exact HPOST.out _ _ _ HRI.out HKR.out
                  · have hmd' := cast_ne hmd
                    have hmj : m < j := lt_three hml hod hmd
                    rw [ownRow, HD.out, if_pos hmj, entRow, entTo_get _ _ _ _ hz8] at HRI
                    clear h256 hll hoc hnl1 hk hp hB hmj
                    obtain ⟨hq2, hm2, hwq, hwm, hw4, hwf, hwee⟩ := half_facts z m (Nat.lt_of_lt_of_le hml (Nat.le_trans hlo (by decide))) hz8
                    have c17 : wr.cell? ⟨w.heap.size, 17, none⟩ = some (.slice a n.E.length cap) := by rw [HBR.out.cell]; exact H17.out
                    obtain ⟨e, he⟩ : ∃ e, e = 4 * m + z / 2 := ⟨_, rfl⟩
                    rw [← he] at hwee hwf
                    have hcond := ent_cond (m := m) (len := n.E.length) hz8
                    rw [← he] at hcond
                    have hel64 : n.E.length ≤ 24 := hbl.1
                    by_cases hel : n.E.length ≤ e
                    · have hel' : (n.E.length : Int) ≤ (e : Int) := Int.ofNat_le.2 hel
                      rw [if_neg (fun h => Nat.not_lt.2 hel (hcond.1 h))] at HRI
                      clear HC HW HEC HOC hx256 hcond he hbl hod hlo hcap hmax hco hel64 hel hmd hm2 hwm
                      generalize z / 2 = z2 at *
                      generalize n.E.length = len at *
                      go_wp2_with fail
                      go_ret2
                      exact HPOST.out _ _ _ HRI.out HKR.out
                    · obtain ⟨hel', hel2, he0, hlt0⟩ := len_facts hel
                      rw [if_pos (hcond.2 (Nat.lt_of_not_le hel))] at HRI
                      clear hcond
                      obtain ⟨hgg, off2, rfl, d1, d2⟩ := HEC.out e hlt0
                      have c4 : wr.cell? ⟨g, off2 + e * 2, none⟩ = some (.string (enm n.E e)) := (World.cell?_of_block (HKR.out.block g hgg (by simp))).trans d1
                      have c5 : wr.cell? ⟨g, off2 + e * 2 + 1, none⟩ = some (.int .i64 (eno n.E e)) := (World.cell?_of_block (HKR.out.block g hgg (by simp))).trans d2
                      obtain ⟨en1, en2, en3⟩ := HENT.out e hlt0
                      unfold entX at HRI
                      rw [← he] at HRI
                      by_cases hz2 : z % 2 = 0
                      · rw [if_pos hz2] at HRI
                        rw [hz2] at hm2 hwm
                        unfold wordV at HRI
                        rw [if_pos en1] at HRI
                        have HWD := Lib.hid (fun wx => refWord_at (enm n.E e) (by have := (goodN_len en1).2; rwa [bl_len] at this) wx)
                        clear HC HW HEC HOC d1 d2 en1 hx256 he hbl hod hlo hcap hmax hco hel64 hel hmd hlt0 hz2
                        generalize enm n.E e = nm at *
                        generalize z / 2 = z2 at *
                        generalize n.E.length = len at *
                        go_wp2_with fail
                        refine (HWD.out _).mono ?_; rintro e w' ⟨rfl, rfl⟩
                        go_wp2_with fail
                        go_ret2
                        exact HPOST.out _ _ _ HRI.out HKR.out
                      · rw [if_neg hz2] at HRI
                        rw [(Nat.mod_two_eq_zero_or_one z).resolve_left hz2] at hm2 hwm
                        have hws : IntKind.u64.wrap (eno n.E e) = eno n.E e := wrap_nat64 en2 (Int.lt_of_le_of_lt en3 (by decide))
                        clear HC HW HEC HOC d1 d2 en1 hx256 he hbl hod hlo hcap hmax hco hel64 hel hmd hlt0 hz2
                        generalize eno n.E e = x at *
                        generalize z / 2 = z2 at *
                        generalize n.E.length = len at *
                        go_wp2_with fail
                        go_ret2
                        exact HPOST.out _ _ _ HRI.out HKR.out

end Go.Proofs.YtmhcnkjmnbnldaaDoor

namespace Go.Proofs.YtmhcnkjmnbnldaaDoor
open Go.RowKit

/-- What Lay leaves. -/
def LayPost (w : World) (b gp : Nat) (B : List Int) (ps : List (Int × Int)) (i : Int) (n : Ino) (e : Ending) (w' : World) : Prop :=
  ∃ r qs gp', e = .returned (.int .i64 r) ∧ (gp' = gp ∨ (w.heap.size ≤ gp' ∧ gp' < w'.heap.size)) ∧ ShAt w' b gp' B (ps ++ qs) ∧ Keeps [b, gp] w w' ∧ qs.length ≤ 200 ∧
    ((r = 1 ∧ ¬ LayP i n ∧ qs = []) ∨ (r = 7 ∧ LayP i n ∧ (freeL (putAll B ps)).length < needN n ∧ qs = []) ∨
      (r = 0 ∧ LayP i n ∧ needN n ≤ (freeL (putAll B ps)).length ∧ qs = layPs (putAll B ps) i.toNat n ((freeL (putAll B ps)).take (needN n))))

theorem own_in {X : List Int} {m : Nat} : ∀ c ∈ (freeL X).take m, c ≠ 0 ∧ c < 256 := fun c hc => by
  have := freeTo_mem.1 (List.mem_of_mem_take hc)
  exact ⟨this.2.1, this.1⟩

theorem own_nodup {X : List Int} {m : Nat} : ((freeL X).take m).Nodup := List.Sublist.nodup (List.take_sublist _ _) (freeTo_nodup X 256)

theorem own_len {X : List Int} {m : Nat} (h : m ≤ (freeL X).length) : ((freeL X).take m).length = m := by rw [List.length_take, Nat.min_eq_left h]

theorem layPs_len {X : List Int} {i : Nat} {n : Ino} {own : List Nat} (hB : blocksN n.E.length ≤ 6) (hm : ∀ c ∈ own, c ≠ 0 ∧ c < 256) (ho : own.length ≤ 7) : (layPs X i n own).length ≤ 200 := by
  unfold layPs rowsPs listPs
  rw [List.length_append, List.length_append, List.length_append, takePs_len _ _ hm, entPs_len, rowPs_len]
  split
  · rw [rowPs_len]; omega
  · simp only [List.length_nil]; omega

theorem lay_any {w : World} {b gp : Nat} {B : List Int} {ps : List (Int × Int)} (h : ShAt w b gp B ps) (h64 : In64 (putAll B ps)) (hT : TabAt w) (hgp : gp < w.heap.size) (hps : ps.length ≤ 800000) (i : Int) (n : Ino) (v : Value) (g : Nat) (hB : n.B.length = 13) (hE : EReads w v g n.E)
    (hN : ∀ k, k < n.E.length → (enm n.E k).size ≤ 9223372036854775807) (hgg : n.E.length ≠ 0 → g ≠ b ∧ g ≠ gp) :
    Calls Tryd.prog 11 #[.pointer (some ⟨b, 0, none⟩), .int .i64 i, .agg (inoC n v)] w (LayPost w b gp B ps i n) := by
  by_cases hok : LayP i n
  · by_cases hn : needN n ≤ (freeL (putAll B ps)).length
    · refine (lay_ok h h64 hT hgp hps i n v g hB hE hN hok hgg hn).mono fun e w' he => ?_
      obtain ⟨he, gp', h1, h2, h3⟩ := he
      have hbl := blocks_le hok.2.2
      have hcn := need_le n
      exact ⟨0, _, gp', he, h1, h2, h3, layPs_len hbl.2.1 own_in (by rw [own_len hn]; omega), .inr (.inr ⟨rfl, hok, hn, rfl⟩)⟩
    · refine (lay_space h h64 i n v g hB hE hN hok (by omega)).mono fun e w' he => ?_
      exact ⟨7, [], gp, he.1, .inl rfl, by rw [List.append_nil]; exact h.keep he.2 (by simp) (by simp), he.2.mono (by simp), by simp, .inr (.inl ⟨rfl, hok, by omega, rfl⟩)⟩
  · refine (lay_arg i n v g hB hE hN hok).mono fun e w' he => ?_
    exact ⟨1, [], gp, he.1, .inl rfl, by rw [List.append_nil]; exact h.keep he.2 (by simp) (by simp), he.2.mono (by simp), by simp, .inl ⟨rfl, hok, rfl⟩⟩

theorem want_row {Y : List Int} {p k : Nat} {n : Ino} {own : List Nat} {x : Int} {ok : Bool} (hL : LaidAt Y p n own) (hk : p ≤ k ∧ k < p + 8) (h : Want n own p k x ok) : Y.getD k 0 = x ∧ ok = true := by
  obtain ⟨h1, h2⟩ := h.1 hk
  have h3 := rowL_get Y p (k - p) (by omega)
  rw [show p + (k - p) = k by omega, hL.row] at h3
  exact ⟨by rw [h1, h3], h2⟩

theorem want_own {Y : List Int} {p k m y : Nat} {n : Ino} {own : List Nat} {x : Int} {ok : Bool} (hL : LaidAt Y p n own) (hp : ¬ (p ≤ k ∧ k < p + 8)) (hm : m < own.length) (hy : y < 8) (hk : k = 1080 + 8 * own.getD m 0 + y) (h : Want n own p k x ok) : Y.getD k 0 = x ∧ ok = true := by
  obtain ⟨h1, h2⟩ := (h.2 hp).1 m hm (by omega)
  have h3 := rowL_get Y (1080 + 8 * own.getD m 0) y hy
  rw [← hk, hL.own m hm] at h3
  exact ⟨by rw [h1, ← h3, hk, Nat.add_sub_cancel_left], h2⟩

/-- Each word is what the reference wants, where all but what is laid is 0. -/
theorem want_laid {Y : List Int} {p k : Nat} {n : Ino} {own : List Nat} {x : Int} {ok : Bool} (hL : LaidAt Y p n own) (h0 : ¬ (p ≤ k ∧ k < p + 8) → ¬ (1080 ≤ k ∧ (k - 1080) / 8 ∈ own) → Y.getD k 0 = 0) (h : Want n own p k x ok) : Y.getD k 0 = x ∧ (ok = false → x = 0) := by
  by_cases hp : p ≤ k ∧ k < p + 8
  · obtain ⟨h1, h2⟩ := want_row hL hp h
    exact ⟨h1, fun h => by rw [h2] at h; cases h⟩
  · by_cases hm : 1080 ≤ k ∧ (k - 1080) / 8 ∈ own
    · obtain ⟨m, hml, hme⟩ := List.getElem_of_mem hm.2
      have e : own.getD m 0 = (k - 1080) / 8 := by rw [List.getD_eq_getElem?_getD, List.getElem?_eq_getElem hml, ← hme]; rfl
      obtain ⟨h1, h2⟩ := want_own (y := (k - 1080) % 8) hL hp hml (by omega) (by rw [e]; omega) h
      exact ⟨h1, fun h => by rw [h2] at h; cases h⟩
    · have h1 := (h.2 hp).2 fun m hml hin => hm ⟨by omega, by
        have : own.getD m 0 = (k - 1080) / 8 := by omega
        rw [← this]
        exact getD_mem hml⟩
      rw [h0 hp hm]
      exact ⟨h1.1.symm, fun _ => h1.1⟩

/-- A slice's first m numbers. -/
theorem reads_take {w : World} {a : Option Addr} {m cap g : Nat} {l : List Nat} (h : Reads w (.slice a l.length cap) g (i64s l)) (hm : m ≤ l.length) : Reads w (.slice a m cap) g (i64s (l.take m)) := by
  obtain ⟨a', cap', h1, h2, h3, h4⟩ := h
  injection h1 with e1 e2 e3
  subst e1 e3
  have hl : (i64s (l.take m)).length = m := by rw [i64s_len, List.length_take, Nat.min_eq_left hm]
  rw [i64s_len] at h2
  refine ⟨a, cap, by rw [hl], by rw [hl]; omega, h3, fun h0 => ?_⟩
  have hm0 : m ≠ 0 := by
    intro e
    apply h0
    rw [e, List.take_zero]
    rfl
  obtain ⟨h5, off, h6, h7⟩ := h4 (by intro e; have := congrArg List.length e; rw [i64s_len, List.length_nil] at this; omega)
  refine ⟨h5, off, h6, fun j hj => ?_⟩
  rw [hl] at hj
  rw [h7 j (by rw [i64s_len]; omega), i64s_get (by omega), i64s_get (by rw [List.length_take]; omega)]
  simp [List.getD_eq_getElem?_getD, hj]

/-- An inode is stored into a new variable. -/
theorem store_ino {w : World} {g : Nat} {cur : Array Value} {n : Ino} (hb : Blk w g cur 25) (hc : cur.size = 18) (hB : n.B.length = 13) {v : Value} (h1 : v.oneCell' = true) :
    ∃ w', (storeVar 25 ⟨g, 0, none⟩ (.agg (inoC n v))).run Tryd.prog w = .ok () w' ∧ Blk w' g (inoC n v) 25 ∧ Keeps [g] w w' :=
  store_whole (P := Tryd.prog) (ty := 25) (cs := inoL n v) (by rw [inoL_len, hB]; exact size_ino) hb (by rw [hc, inoL_len, hB]) (inoL_one h1)

theorem reads_one {w : World} {v : Value} {g : Nat} {E : List (ByteArray × Int)} (h : EReads w v g E) : v.oneCell' = true := by
  obtain ⟨a, cap, rfl, -⟩ := h
  rfl

end Go.Proofs.YtmhcnkjmnbnldaaDoor

namespace Go.Proofs.YtmhcnkjmnbnldaaDoor
open Go.RowKit

/-- What Few leaves. -/
def FewPost (w : World) (n : Ino) (e : Ending) (w' : World) : Prop := (∃ b, e = .returned (.bool b) ∧ (b = true → n.E.length ≤ 40 ∧ ∀ k, k < n.E.length → (enm n.E k).size ≤ 50)) ∧ Keeps [] w w'

set_option maxRecDepth 100000 in
set_option maxHeartbeats 2000000 in
theorem refFew_at (n : Ino) (v : Value) (g : Nat) (hB : n.B.length = 13) (w : World) (hE : EReads w v g n.E) :
    Calls Tryd.prog 9 #[.agg (inoC n v)] w (FewPost w n) := by
  have HFP : Hid (∀ b w', (b = true → n.E.length ≤ 40 ∧ ∀ k, k < n.E.length → (enm n.E k).size ≤ 50) → Keeps [] w w' → FewPost w n (.returned (.bool b)) w') := fun b w' h hk => ⟨⟨b, rfl, h⟩, hk⟩
  obtain ⟨a, cap, rfl, hcap, hmax, HEC⟩ := hE.open
  have hat := inoAt (.slice a n.E.length cap) hB
  generalize inoC n (.slice a n.E.length cap) = Z at *
  have hb0 := Blk.new w Z 25
  have c17 : (w.alloc (.cells Z 25)).cell? ⟨w.heap.size, 17, none⟩ = some (.slice a n.E.length cap) := by rw [hb0.cell]; exact hat.f5
  have HK : Hid (Keeps [] w (w.alloc (.cells Z 25))) := (Keeps.refl [] w).alloc _
  unfold maxLen at hmax
  clear hb0 hat hB hE
  generalize hm : n.E.length = m at *
  clear hm
  go_enter Tryd.func9, Tryd.ntmps9
  go_wp2_with fail
  go_loopg [3] 50 (fun gh s3 wx => ∃ k : Nat, k + gh = 50 ∧ k ≤ m ∧ s3 = .int .i64 (k : Int) ∧ wx = w.alloc (.cells Z 25) ∧ Hid (∀ i, i < k → (enm n.E i).size ≤ 50))
  case atStart => exact ⟨0, by omega, by omega, rfl, rfl, by intro i hi; omega⟩
  case round =>
    obtain ⟨k, hk, hkm, rfl, rfl, HP⟩ := hrel
    by_cases hlt : k < m
    · have h1 : (k : Int) < (m : Int) := by omega
      cases gk with
      | zero =>
        have h50 : ¬ (k : Int) < 50 := by omega
        have h40 : ¬ (m : Int) ≤ 40 := by omega
        go_wp2_with fail
        go_ret
        exact HFP.out _ _ (fun h => (by cases h)) HK.out
      | succ gg =>
        have h50 : (k : Int) < 50 := by omega
        have hk0 : (0 : Int) ≤ (k : Int) := by omega
        obtain ⟨hg, off, rfl, e0, -⟩ := HEC.out k hlt
        have c0 : (w.alloc (.cells Z 25)).cell? ⟨g, off + k * 2, none⟩ = some (.string (enm n.E k)) := (World.cell?_of_block (w := w) (a := ⟨g, off + k * 2, none⟩) (HK.out.block g hg (by simp))).trans e0
        clear e0
        by_cases hs : 50 < (enm n.E k).size
        · have hs' : (50 : Int) < ((enm n.E k).size : Int) := by omega
          clear HEC HP
          generalize enm n.E k = nm at *
          go_wp2_with fail
          go_ret
          exact HFP.out _ _ (fun h => (by cases h)) HK.out
        · have hs' : ¬ (50 : Int) < ((enm n.E k).size : Int) := by omega
          have HP2 : Hid (∀ i, i < k + 1 → (enm n.E i).size ≤ 50) := fun i hi => by
            by_cases e : i = k
            · subst e; omega
            · exact HP.out i (by omega)
          clear HEC HP
          generalize enm n.E k = nm at *
          go_wp2_with fail
          go_roundg gg
          case measure => omega
          case rel => exact ⟨k + 1, by omega, by omega, by go_num, rfl, HP2⟩
    · have h1 : ¬ (k : Int) < (m : Int) := by omega
      obtain rfl : k = m := by omega
      have HQ := Lib.hid HP.out
      go_wp2_with fail
      go_ret
      exact HFP.out _ _ (fun h => ⟨by have := of_decide_eq_true h; omega, HQ.out⟩) HK.out

end Go.Proofs.YtmhcnkjmnbnldaaDoor

namespace Go.Proofs.YtmhcnkjmnbnldaaDoor
open Go.RowKit

set_option maxRecDepth 100000 in
set_option maxHeartbeats 4000000 in
theorem sames_at (l : List Nat) (v1 v2 : Value) (g1 g2 : Nat) (w : World) (h1 : Reads w v1 g1 (i64s l)) (h2 : Reads w v2 g2 (i64s l)) :
    Calls Tryd.prog 22 #[v1, v2] w fun e w' => e = .returned (.bool true) ∧ Keeps [] w w' := by
  obtain ⟨a1, c1, rfl, hc1, hm1, HE1⟩ := ints_cell h1
  obtain ⟨a2, c2, rfl, hc2, hm2, HE2⟩ := ints_cell h2
  unfold maxLen at hm1 hm2
  clear h1 h2
  generalize hm : l.length = m at *
  clear hm
  go_enter Tryd.func22, Tryd.ntmps22
  go_wp2_with fail
  go_loopg [5] m (fun gh s5 wx => ∃ k : Nat, k + gh = m ∧ s5 = .int .i64 (k : Int) ∧ Hid (Keeps [] w wx))
  case atStart => exact ⟨0, by omega, rfl, Keeps.refl _ _⟩
  case round =>
    obtain ⟨k, hk, rfl, HP⟩ := hrel
    cases gk with
    | zero =>
      obtain rfl : k = m := by omega
      go_wp2_with fail
      go_ret
      exact ⟨rfl, HP.out⟩
    | succ gg =>
      have hkm : k < m := by omega
      have hlt : (k : Int) < (m : Int) := by omega
      have hk0 : (0 : Int) ≤ (k : Int) := by omega
      obtain ⟨hgg1, off1, rfl, d1⟩ := HE1.out k hkm
      obtain ⟨hgg2, off2, rfl, d2⟩ := HE2.out k hkm
      have hcc : Hid (∀ wx, Keeps [] wr wx → wx.cell? ⟨g1, off1 + k, none⟩ = some (.int .i64 ((l.getD k 0 : Nat) : Int)) ∧ wx.cell? ⟨g2, off2 + k, none⟩ = some (.int .i64 ((l.getD k 0 : Nat) : Int))) := fun wx hk' =>
        ⟨(World.cell?_of_block ((HP.out.trans' hk').block g1 hgg1 (by simp))).trans d1, (World.cell?_of_block ((HP.out.trans' hk').block g2 hgg2 (by simp))).trans d2⟩
      clear d1 d2
      generalize ((l.getD k 0 : Nat) : Int) = x at *
      go_wp2_with fail
      refine wp_region_each (S := fun wx => Keeps [] wr wx) (by kernel_rfl) (by kernel_rfl) (fun d _ _ _ _ h => by cases d <;> exact h) ((Keeps.refl _ _).drew) (by kernel_rfl) ?_
      repeat (first
        | (refine EachList.cons (.int .i64 x) (EachIf.val rfl ?h) ?_; (case h => (intro wx hx; have hcq := hcc.out wx hx; have hq1 := hcq.1; have hq2 := hcq.2; clear hcq hx; go_simp; done)); simp only [Act.put, List.setIfInBounds_toArray, List.set_cons_zero, List.set_cons_succ])
        | (refine EachList.cons ?_ (EachIf.val rfl ?h) ?_; (case h => (intro wx hx; clear hx; go_simp; rfl)); simp only [Act.put, List.setIfInBounds_toArray, List.set_cons_zero, List.set_cons_succ]))
      refine EachList.done fun wx hx => ?_
      have HKX := Lib.hid (HP.out.trans' hx)
      clear hx
      go_wp2_with fail
      go_roundg gg
      case measure => omega
      case rel => exact ⟨k + 1, by omega, by go_num, HKX.out⟩

theorem freeTo_succ (X : List Int) (c : Nat) : freeTo X (c + 1) = if c ≠ 0 ∧ usedN X c = false then freeTo X c ++ [c] else freeTo X c := by
  unfold freeTo
  rw [List.range_succ, List.filter_append]
  by_cases h : c ≠ 0 ∧ usedN X c = false
  · rw [if_pos h]
    simp [h.1, h.2]
  · rw [if_neg h]
    have : (c != 0 && !usedN X c) = false := by
      cases hu : usedN X c
      · have : c = 0 := Classical.not_not.1 fun h0 => h ⟨h0, hu⟩
        simp [this]
      · simp
    simp [this]

theorem used_bits (ws : List Nat) (c : Nat) (hc : c < 256) : (bitsB ws 256).getD c false = usedN (laidX ws 4 1080) c := by
  rw [bitsB_get _ _ _ hc, if_pos hc, usedN, bw, laidX_get _ _ _ _ (by omega), if_pos (by omega), Int.toNat_natCast, Nat.add_sub_cancel_left]

/-- What Free leaves. -/
def FreePost (w : World) (l : List Nat) (e : Ending) (w' : World) : Prop :=
  ∃ v g, e = .returned v ∧ Reads w' v g (i64s l) ∧ w.heap.size ≤ g ∧ Keeps [] w w'

set_option maxRecDepth 100000 in
set_option maxHeartbeats 4000000 in
theorem refFree_at (ws : List Nat) (v : Value) (g : Nat) (w : World) (h : Owns w v g 4 1 256 (bools (bitsB ws 256))) :
    Calls Tryd.prog 17 #[v] w (FreePost w (freeL (laidX ws 4 1080))) := by
  obtain ⟨⟨cap, rfl, hcap, hmax⟩, -, -⟩ := bools_getO h (bitsB_len _ _) (j := 0) (by omega)
  have hg : g < w.heap.size := by
    obtain ⟨h1, -⟩ := h.cell (by omega)
    exact h1
  have HC : Hid (∀ wx, Keeps [] w wx → ∀ c, c < 256 → wx.cell? ⟨g, c, none⟩ = some (.bool (usedN (laidX ws 4 1080) c))) := fun wx hk c hc => by
    rw [World.cell?_of_block (hk.block g hg (by simp)), (bools_getO h (bitsB_len _ _) hc).2.1, used_bits ws c hc]
  unfold maxLen at hmax
  obtain ⟨i0, hi, hz0, hz1, hz2⟩ := info_parts Tryd.info_int
  clear h
  have HLEN : Hid (∀ c, c ≤ 256 → (freeTo (laidX ws 4 1080) c).length ≤ 256) := fun c hc => by
    have := List.length_filter_le (fun b => b != 0 && !usedN (laidX ws 4 1080) b) (List.range c)
    rw [List.length_range] at this
    unfold freeTo
    omega
  generalize laidX ws 4 1080 = X at *
  go_enter Tryd.func17, Tryd.ntmps17
  go_wp2_with fail
  go_loopg [3, 4] 255 (fun gh s3 s4 wx => ∃ c : Nat, c + gh = 256 ∧ 1 ≤ c ∧ s4 = .int .i64 (c : Int) ∧ Hid (wx.ownsRow w.heap.size 3 1 s3 (freeTo X c).length (i64s (freeTo X c)) ∧ Keeps [] w wx))
  case atStart =>
    have e : freeTo X 1 = [] := by rw [show (1 : Nat) = 0 + 1 from rfl, freeTo_succ, if_neg (by simp)]; rfl
    refine ⟨1, by omega, by omega, rfl, ?_, Keeps.refl _ _⟩
    rw [e]
    exact ⟨by simp [i64s], .inl ⟨rfl, by simp⟩⟩
  case round =>
    obtain ⟨c, hc, hc1, rfl, HP⟩ := hrel
    cases gk with
    | zero =>
      obtain rfl : c = 256 := by omega
      have HFIN : Hid (FreePost w (freeL X) (.returned u3) wr) := by
        obtain ⟨hown, hkp⟩ := HP.out
        obtain ⟨g', ho, hg'⟩ := Owns.of_row hown
        have hr := ho.reads
        by_cases h0 : (freeTo X 256).length = 0
        · obtain ⟨a, cap', e1, e2, e3, -⟩ := hr
          refine ⟨u3, w.heap.size, rfl, ⟨a, cap', e1, e2, e3, fun h => absurd ?_ h⟩, Nat.le_refl _, hkp⟩
          rw [show freeL X = [] from List.eq_nil_of_length_eq_zero h0]
          rfl
        · exact ⟨u3, g', rfl, hr, (hg' h0).1, hkp⟩
      clear HP
      go_wp2_with fail
      go_ret
      exact HFIN.out
    | succ gg =>
      have hlt : (c : Int) < 256 := by omega
      have hc0 : (0 : Int) ≤ (c : Int) := by omega
      have hcell := HC.out wr HP.out.2 c (by omega)
      have HS := Lib.hid (freeTo_succ X c)
      have hl256 := HLEN.out c (by omega)
      have hz := HP.out.2.size
      cases hu : usedN X c
      · have HS2 : Hid (freeTo X (c + 1) = freeTo X c ++ [c]) := by
          have := HS.out
          rwa [if_pos ⟨by omega, hu⟩] at this
        rw [hu] at hcell
        obtain ⟨a, cap', rfl, q1, q2⟩ := ownsRow_val HP.out.1
        have HOWN := Lib.hid HP.out.1
        have HKP := Lib.hid HP.out.2
        have HI : Hid (i64s (freeTo X (c + 1)) = i64s (freeTo X c) ++ [.int .i64 (c : Int)]) := by
          show _ = _
          rw [HS2.out, i64s_append]
          rfl
        have HLL : Hid ((freeTo X (c + 1)).length = (freeTo X c).length + 1) := by show _ = _; rw [HS2.out]; simp
        clear HP HS HS2 hu
        generalize (freeTo X c).length = q at *
        go_wp2_with (at_builtin; refine wpList_append_own _ rfl _ _ 34 rfl w.heap.size 3 i0 (.int .i64 0) 1 8 Tryd.underlying34 hi hz0 hz1 hz2 rfl (by decide) (.slice a q cap') q _ rfl (HOWN.out.alloc _) ⟨wr.heap.size, 0, none⟩ 1 1 [.int .i64 (c : Int)] rfl rfl ?c1 ?c2 (by unfold maxLen; omega) (by omega) (by simp; omega) ?_)
        case c1 => exact new_cells _ [_] _ _ rfl
        case c2 => simp [Value.oneCell']
        intro v' w1 hown1 hgrow hnil
        have HO1 := Lib.hid hown1
        have HK1 := Lib.hid ((HKP.out.alloc _).grown hgrow (ownsRow_block HOWN.out))
        clear hown1 hgrow hnil
        go_wp2_with fail
        go_roundg gg
        case measure => omega
        case rel =>
          refine ⟨c + 1, by omega, by omega, by go_num, ?_, HK1.out⟩
          rw [HLL.out, HI.out]
          exact HO1.out
      · have HS2 : Hid (freeTo X (c + 1) = freeTo X c) := by
          have := HS.out
          rwa [if_neg (by simp [hu])] at this
        rw [hu] at hcell
        clear HS hu
        go_wp2_with fail
        go_roundg gg
        case measure => omega
        case rel => exact ⟨c + 1, by omega, by omega, by go_num, by rw [HS2.out]; exact HP.out⟩

end Go.Proofs.YtmhcnkjmnbnldaaDoor
