/-
  Layer 5 (palloc): the bits of four words as plain lists: which blocks are used, which are free, what is put to set one, and to take some. Nothing of the program is named here.
-/
import Derived.Test.YtpndogcdmoeemaaDoorPaM
import Derived.Test.YtpndogcdmoeemaaDoorTxM
namespace Go.Proofs.YtpndogcdmoeemaaDoor

theorem filter_range_cut (p q : Nat → Bool) (n c : Nat) (hc : c < n) (hlow : ∀ j, j < c → p j = false ∧ q j = false) (hp : p c = true) (hq : q c = false) (hup : ∀ j, c < j → p j = q j) :
    (List.range n).filter p = c :: (List.range n).filter q := by
  obtain ⟨d, rfl⟩ : ∃ d, n = c + (1 + d) := ⟨n - c - 1, by omega⟩
  have e1 : ∀ r : Nat → Bool, (∀ j, j < c → r j = false) → (List.range c).filter r = [] := by
    intro r hr
    rw [List.filter_eq_nil_iff]
    intro j hj
    rw [List.mem_range] at hj
    simp [hr j hj]
  rw [filter_range_add p, filter_range_add q, e1 p fun j h => (hlow j h).1, e1 q fun j h => (hlow j h).2, filter_range_add _ 1 d, filter_range_add _ 1 d]
  have s1 : (List.range 1).filter (fun j => p (c + j)) = [0] := by simp [List.range_succ, hp]
  have s2 : (List.range 1).filter (fun j => q (c + j)) = [] := by simp [List.range_succ, hq]
  have s3 : (List.range d).filter (fun j => p (c + (1 + j))) = (List.range d).filter (fun j => q (c + (1 + j))) := List.filter_congr fun j _ => hup _ (by omega)
  rw [s1, s2, s3]
  simp

theorem testBit_pow_mul (k m j : Nat) : (2 ^ k * m).testBit j = (decide (k ≤ j) && m.testBit (j - k)) := by
  rw [Nat.mul_comm, Nat.testBit_mul_two_pow]

/-- The lowest set bit is taken away. -/
theorem bitL_next (x : Nat) (h0 : x ≠ 0) (hx : x < 18446744073709551616) : Lib.ctz 64 x < 64 ∧ bitL x = Lib.ctz 64 x :: bitL (x &&& (x - 1)) := by
  have hx' : x < 2 ^ 64 := hx
  obtain ⟨m, hm, hk⟩ := Lib.ctzFrom_spec 64 x (by omega) hx'
  have e : Lib.ctz 64 x = Lib.ctzFrom 64 x := by simp [Lib.ctz, h0]
  rw [e]
  refine ⟨hk, ?_⟩
  generalize Lib.ctzFrom 64 x = k at *
  clear e
  have hp : 0 < 2 ^ k := Nat.two_pow_pos k
  have e1 : x - 1 = 2 ^ k * (2 * m) + (2 ^ k - 1) := by
    rw [hm, Nat.mul_add, Nat.mul_one]; omega
  have t0 : ∀ j, (2 ^ k * (2 * m)).testBit j = (decide (k < j) && m.testBit (j - k - 1)) := by
    intro j
    rw [testBit_pow_mul]
    by_cases h : k < j
    · obtain ⟨d, rfl⟩ : ∃ d, j = k + (d + 1) := ⟨j - k - 1, by omega⟩
      have e2 : k + (d + 1) - k = d + 1 := by omega
      rw [e2, Nat.testBit_succ, show 2 * m / 2 = m by omega]
      simp
    · have : k ≤ j → (2 * m).testBit (j - k) = false := by
        intro hkj
        rw [show j - k = 0 by omega, Nat.testBit_zero]
        simp
      by_cases h2 : k ≤ j
      · simp [this h2, h]
      · simp [h2, h]
  have tx : ∀ j, x.testBit j = (decide (j = k) || (decide (k < j) && m.testBit (j - k - 1))) := by
    intro j
    rw [hm, testBit_pow_mul]
    by_cases h : k < j
    · obtain ⟨d, rfl⟩ : ∃ d, j = k + (d + 1) := ⟨j - k - 1, by omega⟩
      have e2 : k + (d + 1) - k = d + 1 := by omega
      rw [e2, Nat.testBit_succ, show (2 * m + 1) / 2 = m by omega]
      simp
    · by_cases h2 : k = j
      · subst h2; simp [Nat.testBit_zero]
      · have h3 : ¬ k ≤ j := by omega
        have h4 : ¬ j = k := by omega
        simp [h, h3, h4]
  have ty : ∀ j, (x &&& (x - 1)).testBit j = (decide (k < j) && m.testBit (j - k - 1)) := by
    intro j
    rw [Nat.testBit_and, tx, e1, Nat.testBit_two_pow_mul_add _ (by omega)]
    by_cases h : j < k
    · have h2 : ¬ j = k := by omega
      have h3 : ¬ k < j := by omega
      simp [h2, h3]
    · rw [if_neg h]
      by_cases h2 : k < j
      · obtain ⟨d, rfl⟩ : ∃ d, j = k + (d + 1) := ⟨j - k - 1, by omega⟩
        have e2 : k + (d + 1) - k = d + 1 := by omega
        rw [e2, Nat.testBit_succ, show 2 * m / 2 = m by omega]
        simp
      · obtain rfl : j = k := by omega
        simp [Nat.testBit_zero]
  unfold bitL
  refine filter_range_cut _ _ 64 k hk ?_ ?_ ?_ ?_
  · intro j hj
    rw [tx, ty]
    have h2 : ¬ j = k := by omega
    have h3 : ¬ k < j := by omega
    simp [h2, h3]
  · rw [tx]; simp
  · rw [ty]; simp
  · intro j hj
    rw [tx, ty]
    have h2 : ¬ j = k := by omega
    simp [h2]

theorem bitL_zero : bitL 0 = [] := by simp [bitL]
theorem bitL_len (x : Nat) : (bitL x).length ≤ 64 := by
  unfold bitL
  have := List.length_filter_le (fun j => x.testBit j) (List.range 64)
  simpa using this

/-- The words are words. -/
def In64 (X : List Int) : Prop := ∀ i, 0 ≤ X.getD i 0 ∧ X.getD i 0 < 18446744073709551616

theorem In64.set {X : List Int} (h : In64 X) (i : Nat) (x : Int) (h0 : 0 ≤ x) (h1 : x < 18446744073709551616) : In64 (X.set i x) := by
  intro j
  rw [List.getD_eq_getElem?_getD, List.getElem?_set]
  split
  · split
    · exact ⟨h0, h1⟩
    · exact ⟨by simp, by simp⟩
  · rw [← List.getD_eq_getElem?_getD]; exact h j

theorem In64.put {ps : List (Int × Int)} : ∀ {X : List Int}, In64 X → (∀ p ∈ ps, 0 ≤ p.2 ∧ p.2 < 18446744073709551616) → In64 (putAll X ps) := by
  induction ps with
  | nil => intro X h _; exact h
  | cons p ps ih =>
    intro X h hp
    show In64 (putAll (X.set p.1.toNat p.2) ps)
    have := hp p (by simp)
    exact ih (h.set _ _ this.1 this.2) fun q hq => hp q (by simp [hq])

/-- The k-th word of the bits. -/
def bw (X : List Int) (k : Nat) : Nat := (X.getD (816 + k) 0).toNat

theorem bw_lt {X : List Int} (h : In64 X) (k : Nat) : bw X k < 18446744073709551616 := by have := h (816 + k); unfold bw; omega
theorem bw_cast {X : List Int} (h : In64 X) (k : Nat) : ((bw X k : Nat) : Int) = X.getD (816 + k) 0 := by have := h (816 + k); unfold bw; omega

/-- Whether a block is used. -/
def usedN (X : List Int) (b : Nat) : Bool := (bw X (b / 64)).testBit (b % 64)

/-- The free blocks of the k-th word, as bits: the block 0 is none. -/
def frW (X : List Int) (k : Nat) : Nat := if k = 0 then (18446744073709551615 - bw X 0) &&& (18446744073709551615 - 1) else 18446744073709551615 - bw X k

theorem testBit_not (x j : Nat) (hx : x < 18446744073709551616) : (18446744073709551615 - x).testBit j = (decide (j < 64) && !x.testBit j) := by
  have := Nat.testBit_two_pow_sub_succ (x := x) (n := 64) hx j
  rw [← this]
  congr 1
  show _ = 18446744073709551616 - (x + 1)
  omega

theorem frW_lt (X : List Int) (k : Nat) : frW X k < 18446744073709551616 := by
  unfold frW
  split
  · have : (18446744073709551615 - bw X 0) &&& (18446744073709551615 - 1) ≤ 18446744073709551615 - bw X 0 := Nat.and_le_left
    omega
  · omega

theorem testBit_frW {X : List Int} (h : In64 X) (k j : Nat) : (frW X k).testBit j = (decide (j < 64) && !(bw X k).testBit j && !(decide (k = 0) && decide (j = 0))) := by
  unfold frW
  split
  · rename_i hk
    subst hk
    rw [Nat.testBit_and, testBit_not _ _ (bw_lt h 0), testBit_not _ _ (by omega), show (1 : Nat) = 2 ^ 0 from rfl, Nat.testBit_two_pow]
    by_cases h1 : j < 64 <;> by_cases h2 : j = 0 <;> simp [h1, h2] <;> (intro; omega)
  · rename_i hk
    rw [testBit_not _ _ (bw_lt h k)]
    simp [hk]

/-- The free blocks below n, rising. -/
def freeTo (X : List Int) (n : Nat) : List Nat := (List.range n).filter fun b => b != 0 && !usedN X b

def freeL (X : List Int) : List Nat := freeTo X 256

theorem freeTo_zero (X : List Int) : freeTo X 0 = [] := rfl

theorem freeTo_word {X : List Int} (h : In64 X) (k : Nat) : freeTo X (64 * (k + 1)) = freeTo X (64 * k) ++ (bitL (frW X k)).map (64 * k + ·) := by
  unfold freeTo bitL
  rw [show 64 * (k + 1) = 64 * k + 64 by omega, filter_range_add]
  congr 2
  apply List.filter_congr
  intro j hj
  rw [List.mem_range] at hj
  rw [testBit_frW h, usedN, show (64 * k + j) / 64 = k by omega, show (64 * k + j) % 64 = j by omega]
  by_cases h1 : k = 0 <;> by_cases h2 : j = 0
  · subst h1; subst h2; simp
  · simp [h1, h2, hj]
  · have h3 : ¬ (64 * k = 0) := by omega
    simp [h1, h2, h3]
  · have : ¬ (64 * k + j = 0) := by omega
    simp [h1, h2, hj]

theorem freeTo_mem {X : List Int} {n b : Nat} : b ∈ freeTo X n ↔ b < n ∧ b ≠ 0 ∧ usedN X b = false := by
  unfold freeTo
  rw [List.mem_filter, List.mem_range]
  simp

theorem freeTo_nodup (X : List Int) (n : Nat) : (freeTo X n).Nodup := List.Pairwise.filter _ List.nodup_range

theorem freeL_len (X : List Int) : (freeL X).length ≤ 255 := by
  unfold freeL freeTo
  rw [show (256 : Nat) = 1 + 255 from rfl, filter_range_add, List.length_append]
  have h1 : ((List.range 1).filter fun b => b != 0 && !usedN X b).length = 0 := by simp [List.range_succ]
  have h2 := List.length_filter_le (fun j => (1 + j) != 0 && !usedN X (1 + j)) (List.range 255)
  rw [List.length_map, h1]
  simp only [List.length_range] at h2
  omega

/-- How many are free below a word. -/
theorem freeTo_len {X : List Int} (h : In64 X) (k : Nat) : (freeTo X (64 * (k + 1))).length = (freeTo X (64 * k)).length + ones 64 (frW X k) := by
  rw [freeTo_word h, List.length_append, List.length_map, ones_bitL]

/-- A word of which one bit is set, or taken back. -/
def setW (x j : Nat) (u : Bool) : Nat := if u = true then (x &&& (18446744073709551615 - 2 ^ j)) ||| 2 ^ j else x &&& (18446744073709551615 - 2 ^ j)

theorem pow_lt64 {j : Nat} (hj : j < 64) : 2 ^ j < 18446744073709551616 := Nat.lt_of_lt_of_le (Nat.pow_lt_pow_right (by decide) hj) (by decide)

theorem setW_lt {x j : Nat} (hx : x < 18446744073709551616) (hj : j < 64) (u : Bool) : setW x j u < 18446744073709551616 := by
  have h1 : x &&& (18446744073709551615 - 2 ^ j) < 2 ^ 64 := Nat.lt_of_le_of_lt Nat.and_le_left hx
  unfold setW
  split
  · exact Nat.or_lt_two_pow h1 (pow_lt64 hj)
  · exact h1

theorem testBit_setW {x j : Nat} (hx : x < 18446744073709551616) (hj : j < 64) (u : Bool) (i : Nat) : (setW x j u).testBit i = if i = j then u else x.testBit i := by
  have h64 : ¬ i < 64 → x.testBit i = false := by
    intro h
    apply Nat.testBit_lt_two_pow
    exact Nat.lt_of_lt_of_le hx (Nat.pow_le_pow_right (n := 2) (i := 64) (by decide) (by omega))
  have h1 : (x &&& (18446744073709551615 - 2 ^ j)).testBit i = (x.testBit i && !decide (i = j)) := by
    rw [Nat.testBit_and, testBit_not _ _ (pow_lt64 hj), Nat.testBit_two_pow]
    by_cases h : i < 64
    · by_cases h2 : i = j
      · simp [h2]
      · have : ¬ j = i := fun e => h2 e.symm
        simp [h, h2, this]
    · simp [h64 h]
  unfold setW
  split
  · rename_i hu
    rw [Nat.testBit_or, h1, Nat.testBit_two_pow, hu]
    by_cases h2 : i = j
    · simp [h2]
    · have : ¬ j = i := fun e => h2 e.symm
      simp [h2, this]
  · rename_i hu
    rw [h1]
    have : u = false := by simpa using hu
    subst this
    by_cases h2 : i = j <;> simp [h2]

/-- What is put to set a block's bit. -/
def setPs (X : List Int) (b : Nat) (u : Bool) : List (Int × Int) := if b = 0 ∨ 256 ≤ b then [] else [((816 + b / 64 : Nat), (setW (bw X (b / 64)) (b % 64) u : Nat))]

theorem setPs_in {X : List Int} (h : In64 X) (b : Nat) (u : Bool) : ∀ p ∈ setPs X b u, 0 ≤ p.2 ∧ p.2 < 18446744073709551616 := by
  intro p hp
  unfold setPs at hp
  split at hp
  · simp at hp
  · rw [List.mem_singleton] at hp
    subst hp
    have := setW_lt (bw_lt h (b / 64)) (Nat.mod_lt b (by decide : 0 < 64)) u
    exact ⟨by simp, by show ((_ : Nat) : Int) < _; omega⟩

theorem getD_setI (l : List Int) (i j : Nat) (x : Int) (hi : i < l.length) : (l.set i x).getD j 0 = if i = j then x else l.getD j 0 := by
  rw [List.getD_eq_getElem?_getD, List.getElem?_set]
  by_cases e : i = j
  · subst e; simp [hi]
  · rw [if_neg e, if_neg e, List.getD_eq_getElem?_getD]

theorem usedN_set {X : List Int} (h : In64 X) (hl : X.length = 3128) (b : Nat) (h0 : b ≠ 0) (hb : b < 256) (u : Bool) (c : Nat) : usedN (putAll X (setPs X b u)) c = if c = b then u else usedN X c := by
  unfold setPs
  rw [if_neg (by omega), putAll_one, Int.toNat_natCast]
  unfold usedN bw
  rw [getD_setI _ _ _ _ (by omega)]
  by_cases e : 816 + b / 64 = 816 + c / 64
  · rw [if_pos e, Int.toNat_natCast, show (X.getD (816 + b / 64) 0).toNat = bw X (b / 64) from rfl, testBit_setW (bw_lt h (b / 64)) (Nat.mod_lt b (by decide : 0 < 64))]
    have e2 : c / 64 = b / 64 := by omega
    rw [e2]
    by_cases e3 : c = b
    · rw [if_pos e3, if_pos (by rw [e3])]
    · rw [if_neg e3, if_neg (by omega)]; rfl
  · rw [if_neg e, if_neg (by intro e2; subst e2; exact e rfl)]

/-- What is put to empty a block. -/
def emptyTo (b k : Nat) : List (Int × Int) := (List.range k).map fun (j : Nat) => (((1080 + b * 8 + j : Nat) : Int), (0 : Int))
def emptyPs (b : Nat) : List (Int × Int) := emptyTo b 8

theorem emptyTo_succ (b k : Nat) : emptyTo b (k + 1) = emptyTo b k ++ [(((1080 + b * 8 + k : Nat) : Int), (0 : Int))] := by
  unfold emptyTo
  rw [List.range_succ, List.map_append]
  rfl

theorem emptyTo_len (b k : Nat) : (emptyTo b k).length = k := by simp [emptyTo]

theorem emptyPs_mem {b : Nat} {p : Int × Int} (h : p ∈ emptyPs b) : ∃ j, j < 8 ∧ p = (((1080 + b * 8 + j : Nat) : Int), (0 : Int)) := by
  unfold emptyPs emptyTo at h
  rw [List.mem_map] at h
  obtain ⟨j, hj, rfl⟩ := h
  exact ⟨j, List.mem_range.1 hj, rfl⟩

theorem usedN_other {X : List Int} {ps : List (Int × Int)} (h : ∀ p ∈ ps, 1080 ≤ p.1) (c : Nat) (hc : c < 256) : usedN (putAll X ps) c = usedN X c := by
  unfold usedN bw
  rw [putAll_other _ _ _ fun p hp => by have := h p hp; omega]

/-- What is put to take these blocks. -/
def takePs (X : List Int) : List Nat → List (Int × Int)
  | [] => []
  | b :: l => (setPs X b true ++ emptyPs b) ++ takePs (putAll X (setPs X b true ++ emptyPs b)) l

theorem take1_in {X : List Int} (h : In64 X) (b : Nat) : ∀ p ∈ setPs X b true ++ emptyPs b, 0 ≤ p.2 ∧ p.2 < 18446744073709551616 := by
  intro p hp
  rw [List.mem_append] at hp
  rcases hp with hp | hp
  · exact setPs_in h b true p hp
  · obtain ⟨j, -, rfl⟩ := emptyPs_mem hp
    exact ⟨Int.le_refl 0, by show (0 : Int) < _; omega⟩

theorem usedN_take1 {X : List Int} (h : In64 X) (hl : X.length = 3128) (b : Nat) (h0 : b ≠ 0) (hb : b < 256) (c : Nat) (hc : c < 256) : usedN (putAll X (setPs X b true ++ emptyPs b)) c = (usedN X c || decide (c = b)) := by
  rw [putAll_append, usedN_other (fun p hp => by obtain ⟨j, -, rfl⟩ := emptyPs_mem hp; show (1080 : Int) ≤ ((_ : Nat) : Int); omega) c hc, usedN_set h hl b h0 hb]
  by_cases e : c = b <;> simp [e]

theorem setPs_len (X : List Int) (b : Nat) (h0 : b ≠ 0) (hb : b < 256) (u : Bool) : (setPs X b u).length = 1 := by
  unfold setPs
  rw [if_neg (by omega)]
  rfl

theorem takePs_len (l : List Nat) : ∀ X : List Int, (∀ b ∈ l, b ≠ 0 ∧ b < 256) → (takePs X l).length = 9 * l.length := by
  induction l with
  | nil => intro X _; rfl
  | cons b l ih =>
    intro X h
    obtain ⟨h0, h1⟩ := h b (by simp)
    show ((setPs X b true ++ emptyPs b) ++ takePs _ l).length = _
    rw [List.length_append, List.length_append, setPs_len X b h0 h1, emptyPs, emptyTo_len, ih _ fun c hc => h c (by simp [hc])]
    simp only [List.length_cons]
    omega

theorem takePs_snoc (l : List Nat) (b : Nat) : ∀ X : List Int, takePs X (l ++ [b]) = takePs X l ++ (setPs (putAll X (takePs X l)) b true ++ emptyPs b) := by
  induction l with
  | nil => intro X; show (setPs X b true ++ emptyPs b) ++ [] = [] ++ _; rw [List.append_nil]; rfl
  | cons c l ih =>
    intro X
    have e : putAll X (takePs X (c :: l)) = putAll (putAll X (setPs X c true ++ emptyPs c)) (takePs (putAll X (setPs X c true ++ emptyPs c)) l) := putAll_append _ _ _
    rw [e]
    show (setPs X c true ++ emptyPs c) ++ takePs (putAll X (setPs X c true ++ emptyPs c)) (l ++ [b]) = ((setPs X c true ++ emptyPs c) ++ takePs (putAll X (setPs X c true ++ emptyPs c)) l) ++ _
    rw [ih, List.append_assoc (setPs X c true ++ emptyPs c)]

theorem takePs_state (l : List Nat) : ∀ X : List Int, In64 X → X.length = 3128 → (∀ b ∈ l, b ≠ 0 ∧ b < 256) →
    In64 (putAll X (takePs X l)) ∧ (putAll X (takePs X l)).length = 3128 ∧ ∀ c, c < 256 → usedN (putAll X (takePs X l)) c = (usedN X c || decide (c ∈ l)) := by
  induction l with
  | nil => intro X h hl _; exact ⟨h, hl, fun c _ => by simp [takePs, putAll]⟩
  | cons b l ih =>
    intro X h hl hb
    obtain ⟨h0, h1⟩ := hb b (by simp)
    have hX : In64 (putAll X (setPs X b true ++ emptyPs b)) := h.put (take1_in h b)
    obtain ⟨k1, k2, k3⟩ := ih (putAll X (setPs X b true ++ emptyPs b)) hX (by rw [putAll_len]; exact hl) fun c hc => hb c (by simp [hc])
    have e : putAll X (takePs X (b :: l)) = putAll (putAll X (setPs X b true ++ emptyPs b)) (takePs (putAll X (setPs X b true ++ emptyPs b)) l) := putAll_append _ _ _
    rw [e]
    refine ⟨k1, k2, fun c hc => ?_⟩
    rw [k3 c hc, usedN_take1 h hl b h0 h1 c hc]
    by_cases e1 : c = b <;> by_cases e2 : c ∈ l <;> simp [e1, e2]

theorem filter_drop_take {l : List Nat} (hn : l.Nodup) (n : Nat) : l.filter (fun c => !decide (c ∈ l.take n)) = l.drop n := by
  have h1 : l.filter (fun c => !decide (c ∈ l.take n)) = (l.take n ++ l.drop n).filter (fun c => !decide (c ∈ l.take n)) := by rw [List.take_append_drop]
  rw [h1, List.filter_append]
  have hd : ∀ c, c ∈ l.take n → c ∈ l.drop n → False := by
    rw [← List.take_append_drop n l] at hn
    intro c h2 h3
    exact (List.nodup_append.1 hn).2.2 c h2 c h3 rfl
  have e1 : (l.take n).filter (fun c => !decide (c ∈ l.take n)) = [] := by
    rw [List.filter_eq_nil_iff]; intro c hc; simp [hc]
  have e2 : (l.drop n).filter (fun c => !decide (c ∈ l.take n)) = l.drop n := by
    rw [List.filter_eq_self]; intro c hc
    have : c ∉ l.take n := fun h => hd c h hc
    simp [this]
  rw [e1, e2, List.nil_append]

/-- Behind a take of the first n the others are free. -/
theorem freeL_take {X : List Int} (h : In64 X) (hl : X.length = 3128) (n : Nat) : In64 (putAll X (takePs X ((freeL X).take n))) ∧ (putAll X (takePs X ((freeL X).take n))).length = 3128 ∧ freeL (putAll X (takePs X ((freeL X).take n))) = (freeL X).drop n := by
  have hm : ∀ b ∈ (freeL X).take n, b ≠ 0 ∧ b < 256 := fun b hb => by
    have := freeTo_mem.1 (List.mem_of_mem_take hb)
    exact ⟨this.2.1, this.1⟩
  obtain ⟨k1, k2, k3⟩ := takePs_state ((freeL X).take n) X h hl hm
  refine ⟨k1, k2, ?_⟩
  have hd := filter_drop_take (freeTo_nodup X 256) n
  have e : ∀ Y, freeTo Y 256 = (List.range 256).filter (fun b => b != 0 && !usedN Y b) := fun _ => rfl
  have k3' : ∀ c, c < 256 → usedN (putAll X (takePs X (List.take n (freeTo X 256)))) c = (usedN X c || decide (c ∈ List.take n (freeTo X 256))) := k3
  clear k3 k1 k2 hm
  show freeTo (putAll X (takePs X (List.take n (freeTo X 256)))) 256 = List.drop n (freeTo X 256)
  generalize List.take n (freeTo X 256) = L at *
  rw [← hd, e X, e, List.filter_filter]
  apply List.filter_congr
  intro c hc
  rw [List.mem_range] at hc
  rw [k3' c hc]
  by_cases e1 : c ∈ L <;> simp [e1]

end Go.Proofs.YtpndogcdmoeemaaDoor
