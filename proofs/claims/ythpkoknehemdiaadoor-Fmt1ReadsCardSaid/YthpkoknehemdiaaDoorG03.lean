/-
  Layer 5 (palloc): the bits of a word as plain numbers: how many are set, which, and how the counting of math/bits comes to it. Nothing of the program is named here. Layer 5 (palloc): the bits of four words as plain lists: which blocks are used, which are free, what is put to set one, and to take some. Nothing of the program is named here. Layer 6 (fmt1), plain: the entries that words tell. Nothing of the program is named here. Layer 6 (fmt1): tagged, inodeRow, listRow. Layer 4 (tx): Block. Layer 6 (fmt1): numbersOf. Layer 2 (pack): Name; the reference's Word and Byte.
-/
import Derived.Lib.TrailingZeros
import Derived.Test.YthpkoknehemdiaaDoorG00
import Derived.Test.YthpkoknehemdiaaDoorG02
import Derived.IntWalk
import Derived.Test.YthpkoknehemdiaaDoorG01
namespace Go.Proofs.YthpkoknehemdiaaDoor

/-- How many of the lowest n bits are set. -/
def ones (n x : Nat) : Nat := ((List.range n).filter fun j => x.testBit j).length

/-- Which of 64 bits are set, rising. -/
def bitL (x : Nat) : List Nat := (List.range 64).filter fun j => x.testBit j

theorem ones_bitL (x : Nat) : ones 64 x = (bitL x).length := rfl

theorem testBit_byte (b a j : Nat) (hb : b < 256) : (b + 256 * a).testBit j = if j < 8 then b.testBit j else a.testBit (j - 8) := by
  have := Nat.testBit_two_pow_mul_add a (b := b) (i := 8) (by simpa using hb) j
  rw [Nat.add_comm]
  simpa using this

theorem and_byte (b m a M : Nat) (hb : b < 256) (hm : m < 256) : (b + 256 * a) &&& (m + 256 * M) = (b &&& m) + 256 * (a &&& M) := by
  apply Nat.eq_of_testBit_eq
  intro j
  have hbm : b &&& m < 256 := Nat.lt_of_le_of_lt Nat.and_le_left hb
  rw [Nat.testBit_and, testBit_byte b a j hb, testBit_byte m M j hm, testBit_byte _ _ j hbm]
  split <;> simp [Nat.testBit_and]

theorem filter_range_add (p : Nat → Bool) (m n : Nat) : (List.range (m + n)).filter p = (List.range m).filter p ++ ((List.range n).filter fun j => p (m + j)).map (m + ·) := by
  rw [List.range_add, List.filter_append, List.filter_map]
  rfl

theorem ones_byte (n b a : Nat) (hb : b < 256) : ones (8 + n) (b + 256 * a) = ones 8 b + ones n a := by
  unfold ones
  rw [filter_range_add, List.length_append, List.length_map]
  congr 1
  · congr 1
    apply List.filter_congr
    intro j hj
    rw [List.mem_range] at hj
    rw [testBit_byte b a j hb, if_pos hj]
  · congr 1
    apply List.filter_congr
    intro j _
    rw [testBit_byte b a _ hb, if_neg (by omega), Nat.add_sub_cancel_left]

/-- The byte m, n times. -/
def rep (m : Nat) : Nat → Nat
  | 0 => 0
  | n + 1 => m + 256 * rep m n

def q1 (b : Nat) : Nat := (b / 2 &&& 85) + (b &&& 85)
def q2 (b : Nat) : Nat := (b / 4 &&& 51) + (b &&& 51)
def q3 (b : Nat) : Nat := (b / 16 + b) % 16

def st1 (n x : Nat) : Nat := (x / 2 &&& rep 85 n) + (x &&& rep 85 n)
def st2 (n x : Nat) : Nat := (x / 4 &&& rep 51 n) + (x &&& rep 51 n)
def st3 (n x : Nat) : Nat := (x / 16 + x) &&& rep 15 n

theorem q1_carry : ∀ b : Fin 256, ∀ c : Fin 2, (b.val / 2 + 128 * c.val) &&& 85 = b.val / 2 &&& 85 := by decide +kernel
theorem q2_carry : ∀ b : Fin 256, ∀ c : Fin 4, (b.val / 4 + 64 * c.val) &&& 51 = b.val / 4 &&& 51 := by decide +kernel
theorem q_all : ∀ b : Fin 256, q1 b.val < 256 ∧ q2 (q1 b.val) < 256 ∧ q2 (q1 b.val) / 16 ≤ 4 ∧ q2 (q1 b.val) % 16 ≤ 4 ∧ q3 (q2 (q1 b.val)) = ones 8 b.val ∧ ones 8 b.val ≤ 8 := by decide +kernel

theorem st1_succ (n b a : Nat) (hb : b < 256) : st1 (n + 1) (b + 256 * a) = q1 b + 256 * st1 n a := by
  unfold st1 q1
  have e : (b + 256 * a) / 2 = (b / 2 + 128 * (a % 2)) + 256 * (a / 2) := by omega
  have c := q1_carry ⟨b, hb⟩ ⟨a % 2, by omega⟩
  simp only at c
  rw [e, rep, and_byte _ _ _ _ (by omega) (by omega), and_byte _ _ _ _ hb (by omega), c]
  omega

theorem st2_succ (n b a : Nat) (hb : b < 256) : st2 (n + 1) (b + 256 * a) = q2 b + 256 * st2 n a := by
  unfold st2 q2
  have e : (b + 256 * a) / 4 = (b / 4 + 64 * (a % 4)) + 256 * (a / 4) := by omega
  have c := q2_carry ⟨b, hb⟩ ⟨a % 4, by omega⟩
  simp only at c
  rw [e, rep, and_byte _ _ _ _ (by omega) (by omega), and_byte _ _ _ _ hb (by omega), c]
  omega

theorem and15 (x : Nat) : x &&& 15 = x % 16 := by
  have := Nat.and_two_pow_sub_one_eq_mod x 4
  simpa using this

theorem st3_succ (n b a : Nat) (h1 : b / 16 ≤ 4) (h2 : b % 16 ≤ 4) (h3 : a % 16 ≤ 4) : st3 (n + 1) (b + 256 * a) = q3 b + 256 * st3 n a := by
  unfold st3 q3
  have e : (b + 256 * a) / 16 + (b + 256 * a) = (b / 16 + b + 16 * (a % 16)) + 256 * (a / 16 + a) := by omega
  rw [e, rep, and_byte _ _ _ _ (by omega) (by omega), and15]
  omega

theorem st1_zero : st1 0 0 = 0 := rfl
theorem st2_zero : st2 0 0 = 0 := rfl
theorem st3_zero : st3 0 0 = 0 := rfl

/-- Eight bytes. -/
def by8 (a b c d e f g h : Nat) : Nat := a + 256 * (b + 256 * (c + 256 * (d + 256 * (e + 256 * (f + 256 * (g + 256 * (h + 256 * 0)))))))

theorem by8_split (x : Nat) (hx : x < 18446744073709551616) : ∃ a b c d e f g h, (a < 256 ∧ b < 256 ∧ c < 256 ∧ d < 256 ∧ e < 256 ∧ f < 256 ∧ g < 256 ∧ h < 256) ∧ x = by8 a b c d e f g h := by
  refine ⟨x % 256, x / 256 % 256, x / 65536 % 256, x / 16777216 % 256, x / 4294967296 % 256, x / 1099511627776 % 256, x / 281474976710656 % 256, x / 72057594037927936, ?_, ?_⟩
  · omega
  · unfold by8; omega

theorem step_lt {a y K : Nat} (ha : a < 256) (hy : y < K) : a + 256 * y < 256 * K := by omega
theorem step_le {a y K : Nat} (ha : a ≤ 68) (hy : y ≤ K) : a + 256 * y ≤ 68 + 256 * K := by omega

theorem by8_lt {a b c d e f g h : Nat} (ha : a < 256) (hb : b < 256) (hc : c < 256) (hd : d < 256) (he : e < 256) (hf : f < 256) (hg : g < 256) (hh : h < 256) : by8 a b c d e f g h < 18446744073709551616 :=
  Nat.lt_of_lt_of_le (step_lt ha (step_lt hb (step_lt hc (step_lt hd (step_lt he (step_lt hf (step_lt hg (step_lt hh (Nat.zero_lt_one))))))))) (by decide)

theorem by8_le {a b c d e f g h : Nat} (ha : a ≤ 68) (hb : b ≤ 68) (hc : c ≤ 68) (hd : d ≤ 68) (he : e ≤ 68) (hf : f ≤ 68) (hg : g ≤ 68) (hh : h ≤ 68) : by8 a b c d e f g h ≤ 4919131752989213764 :=
  Nat.le_trans (step_le ha (step_le hb (step_le hc (step_le hd (step_le he (step_le hf (step_le hg (step_le hh (Nat.le_refl 0))))))))) (by decide)

set_option maxHeartbeats 2000000 in
theorem by8_sum (a3 b3 c3 d3 e3 f3 g3 h3 : Nat) (A6 : a3 ≤ 8) (B6 : b3 ≤ 8) (C6 : c3 ≤ 8) (D6 : d3 ≤ 8) (E6 : e3 ≤ 8) (F6 : f3 ≤ 8) (G6 : g3 ≤ 8) (H6 : h3 ≤ 8) : ∃ x4 x5 x6, by8 a3 b3 c3 d3 e3 f3 g3 h3 + by8 a3 b3 c3 d3 e3 f3 g3 h3 / 256 = x4 ∧ x4 + x4 / 65536 = x5 ∧ x5 + x5 / 4294967296 = x6 ∧
    x4 < 9223372036854775808 ∧ x5 < 9223372036854775808 ∧ x6 < 9223372036854775808 ∧ x6 % 128 = a3 + (b3 + (c3 + (d3 + (e3 + (f3 + (g3 + (h3 + 0))))))) := by
  refine ⟨_, _, _, rfl, rfl, rfl, ?_⟩
  unfold by8
  have k3 : (a3 + 256 * (b3 + 256 * (c3 + 256 * (d3 + 256 * (e3 + 256 * (f3 + 256 * (g3 + 256 * (h3 + 256 * 0)))))))) / 256 = b3 + 256 * (c3 + 256 * (d3 + 256 * (e3 + 256 * (f3 + 256 * (g3 + 256 * h3))))) := by omega
  rw [k3]
  clear k3
  generalize hy : a3 + 256 * (b3 + 256 * (c3 + 256 * (d3 + 256 * (e3 + 256 * (f3 + 256 * (g3 + 256 * (h3 + 256 * 0))))))) + (b3 + 256 * (c3 + 256 * (d3 + 256 * (e3 + 256 * (f3 + 256 * (g3 + 256 * h3)))))) = y
  have hy' : y = (a3 + b3 + 256 * (b3 + c3)) + 65536 * ((c3 + d3 + 256 * (d3 + e3)) + 65536 * ((e3 + f3 + 256 * (f3 + g3)) + 65536 * (g3 + h3 + 256 * h3))) := by omega
  clear hy
  have k4 : y / 65536 = (c3 + d3 + 256 * (d3 + e3)) + 65536 * ((e3 + f3 + 256 * (f3 + g3)) + 65536 * (g3 + h3 + 256 * h3)) := by omega
  rw [k4]
  subst hy'
  clear k4
  generalize hz : a3 + b3 + 256 * (b3 + c3) + 65536 * (c3 + d3 + 256 * (d3 + e3) + 65536 * (e3 + f3 + 256 * (f3 + g3) + 65536 * (g3 + h3 + 256 * h3))) + (c3 + d3 + 256 * (d3 + e3) + 65536 * (e3 + f3 + 256 * (f3 + g3) + 65536 * (g3 + h3 + 256 * h3))) = z
  have hz' : z = (a3 + b3 + c3 + d3 + 256 * (b3 + c3 + d3 + e3) + 65536 * (c3 + d3 + e3 + f3 + 256 * (d3 + e3 + f3 + g3))) + 4294967296 * ((e3 + f3 + g3 + h3) + 256 * (f3 + g3 + h3) + 65536 * (g3 + h3 + 256 * h3)) := by omega
  clear hz
  have k5 : z / 4294967296 = (e3 + f3 + g3 + h3) + 256 * (f3 + g3 + h3) + 65536 * (g3 + h3 + 256 * h3) := by omega
  rw [k5]
  refine ⟨by omega, by omega, by omega, ?_⟩
  omega


/-- What the counting comes to: each of its six steps, and the sum. -/
theorem count_steps (x : Nat) (hx : x < 18446744073709551616) : ∃ x1 x2 x3 x4 x5 x6, st1 8 x = x1 ∧ st2 8 x1 = x2 ∧ st3 8 x2 = x3 ∧ x3 + x3 / 256 = x4 ∧ x4 + x4 / 65536 = x5 ∧ x5 + x5 / 4294967296 = x6 ∧
    x1 < 18446744073709551616 ∧ x2 < 18446744073709551616 ∧ x2 / 16 + x2 < 18446744073709551616 ∧ x3 < 18446744073709551616 ∧ x4 < 9223372036854775808 ∧ x5 < 9223372036854775808 ∧ x6 < 9223372036854775808 ∧ x6 % 128 = ones 64 x := by
  obtain ⟨a, b, c, d, e, f, g, h, ⟨ha, hb, hc, hd, he, hf, hg, hh⟩, rfl⟩ := by8_split x hx
  have A := q_all ⟨a, ha⟩; have B := q_all ⟨b, hb⟩; have C := q_all ⟨c, hc⟩; have D := q_all ⟨d, hd⟩
  have E := q_all ⟨e, he⟩; have F := q_all ⟨f, hf⟩; have G := q_all ⟨g, hg⟩; have H := q_all ⟨h, hh⟩
  simp only at A B C D E F G H
  have hs1 : st1 8 (by8 a b c d e f g h) = by8 (q1 a) (q1 b) (q1 c) (q1 d) (q1 e) (q1 f) (q1 g) (q1 h) := by
    unfold by8
    rw [st1_succ _ _ _ ha, st1_succ _ _ _ hb, st1_succ _ _ _ hc, st1_succ _ _ _ hd, st1_succ _ _ _ he, st1_succ _ _ _ hf, st1_succ _ _ _ hg, st1_succ _ _ _ hh, st1_zero]
  have hs2 : st2 8 (by8 (q1 a) (q1 b) (q1 c) (q1 d) (q1 e) (q1 f) (q1 g) (q1 h)) = by8 (q2 (q1 a)) (q2 (q1 b)) (q2 (q1 c)) (q2 (q1 d)) (q2 (q1 e)) (q2 (q1 f)) (q2 (q1 g)) (q2 (q1 h)) := by
    unfold by8
    rw [st2_succ _ _ _ A.1, st2_succ _ _ _ B.1, st2_succ _ _ _ C.1, st2_succ _ _ _ D.1, st2_succ _ _ _ E.1, st2_succ _ _ _ F.1, st2_succ _ _ _ G.1, st2_succ _ _ _ H.1, st2_zero]
  have hs3 : st3 8 (by8 (q2 (q1 a)) (q2 (q1 b)) (q2 (q1 c)) (q2 (q1 d)) (q2 (q1 e)) (q2 (q1 f)) (q2 (q1 g)) (q2 (q1 h))) = by8 (ones 8 a) (ones 8 b) (ones 8 c) (ones 8 d) (ones 8 e) (ones 8 f) (ones 8 g) (ones 8 h) := by
    unfold by8
    rw [st3_succ _ _ _ A.2.2.1 A.2.2.2.1 (by omega), st3_succ _ _ _ B.2.2.1 B.2.2.2.1 (by omega), st3_succ _ _ _ C.2.2.1 C.2.2.2.1 (by omega), st3_succ _ _ _ D.2.2.1 D.2.2.2.1 (by omega),
      st3_succ _ _ _ E.2.2.1 E.2.2.2.1 (by omega), st3_succ _ _ _ F.2.2.1 F.2.2.2.1 (by omega), st3_succ _ _ _ G.2.2.1 G.2.2.2.1 (by omega), st3_succ _ _ _ H.2.2.1 H.2.2.2.1 (by omega), st3_zero,
      A.2.2.2.2.1, B.2.2.2.2.1, C.2.2.2.2.1, D.2.2.2.2.1, E.2.2.2.2.1, F.2.2.2.2.1, G.2.2.2.2.1, H.2.2.2.2.1]
  have ho : ones 64 (by8 a b c d e f g h) = ones 8 a + (ones 8 b + (ones 8 c + (ones 8 d + (ones 8 e + (ones 8 f + (ones 8 g + (ones 8 h + 0))))))) := by
    unfold by8
    rw [show (64 : Nat) = 8 + (8 + (8 + (8 + (8 + (8 + (8 + (8 + 0))))))) from rfl, ones_byte _ _ _ ha, ones_byte _ _ _ hb, ones_byte _ _ _ hc, ones_byte _ _ _ hd, ones_byte _ _ _ he, ones_byte _ _ _ hf, ones_byte _ _ _ hg, ones_byte _ _ _ hh]
    rfl
  obtain ⟨x4, x5, x6, p4, p5, p6, b4, b5, b6, hm⟩ := by8_sum _ _ _ _ _ _ _ _ A.2.2.2.2.2 B.2.2.2.2.2 C.2.2.2.2.2 D.2.2.2.2.2 E.2.2.2.2.2 F.2.2.2.2.2 G.2.2.2.2.2 H.2.2.2.2.2
  have l2 : by8 (q2 (q1 a)) (q2 (q1 b)) (q2 (q1 c)) (q2 (q1 d)) (q2 (q1 e)) (q2 (q1 f)) (q2 (q1 g)) (q2 (q1 h)) ≤ 4919131752989213764 := by
    apply by8_le
    · have := A.2.2.1; have := A.2.2.2.1; omega
    · have := B.2.2.1; have := B.2.2.2.1; omega
    · have := C.2.2.1; have := C.2.2.2.1; omega
    · have := D.2.2.1; have := D.2.2.2.1; omega
    · have := E.2.2.1; have := E.2.2.2.1; omega
    · have := F.2.2.1; have := F.2.2.2.1; omega
    · have := G.2.2.1; have := G.2.2.2.1; omega
    · have := H.2.2.1; have := H.2.2.2.1; omega
  refine ⟨_, _, _, x4, x5, x6, hs1, hs2, hs3, p4, p5, p6, by8_lt A.1 B.1 C.1 D.1 E.1 F.1 G.1 H.1, ?_, ?_, ?_, b4, b5, b6, ?_⟩
  · clear A B C D E F G H hs1 hs2 hs3 ho p4 p5 p6 hm; omega
  · clear A B C D E F G H hs1 hs2 hs3 ho p4 p5 p6 hm; omega
  · clear A B C D E F G H hs1 hs2 hs3 ho p5 p6 hm; omega
  · rw [ho]; exact hm

end Go.Proofs.YthpkoknehemdiaaDoor

namespace Go.Proofs.YthpkoknehemdiaaDoor

theorem filter_range_cut (p q : Nat → Bool) (n c : Nat) (hc : c < n) (hlow : ∀ j, j < c → p j = false ∧ q j = false) (hp : p c = true) (hq : q c = false) (hup : ∀ j, c < j → p j = q j) :
    (List.range n).filter p = c :: (List.range n).filter q := by
  obtain ⟨d, rfl⟩ : ∃ d, n = c + (1 + d) := ⟨n - c - 1, by omega⟩
  have e1 : ∀ r : Nat → Bool, (∀ j, j < c → r j = false) → (List.range c).filter r = [] := by
    intro r hr
    rw [List.filter_eq_nil_iff]
    intro j hj
    rw [List.mem_range] at hj
    simp [hr j hj]
  rw [filter_range_add p, filter_range_add q, e1 p fun j h => (hlow j h).1, e1 q fun j h => (hlow j h).2, filter_range_add _ 1 d, filter_range_add _ 1 d]
  have s1 : (List.range 1).filter (fun j => p (c + j)) = [0] := by simp [List.range_succ, hp]
  have s2 : (List.range 1).filter (fun j => q (c + j)) = [] := by simp [List.range_succ, hq]
  have s3 : (List.range d).filter (fun j => p (c + (1 + j))) = (List.range d).filter (fun j => q (c + (1 + j))) := List.filter_congr fun j _ => hup _ (by omega)
  rw [s1, s2, s3]
  simp

theorem testBit_pow_mul (k m j : Nat) : (2 ^ k * m).testBit j = (decide (k ≤ j) && m.testBit (j - k)) := by
  rw [Nat.mul_comm, Nat.testBit_mul_two_pow]

/-- The lowest set bit is taken away. -/
theorem bitL_next (x : Nat) (h0 : x ≠ 0) (hx : x < 18446744073709551616) : Lib.ctz 64 x < 64 ∧ bitL x = Lib.ctz 64 x :: bitL (x &&& (x - 1)) := by
  have hx' : x < 2 ^ 64 := hx
  obtain ⟨m, hm, hk⟩ := Lib.ctzFrom_spec 64 x (by omega) hx'
  have e : Lib.ctz 64 x = Lib.ctzFrom 64 x := by simp [Lib.ctz, h0]
  rw [e]
  refine ⟨hk, ?_⟩
  generalize Lib.ctzFrom 64 x = k at *
  clear e
  have hp : 0 < 2 ^ k := Nat.two_pow_pos k
  have e1 : x - 1 = 2 ^ k * (2 * m) + (2 ^ k - 1) := by
    rw [hm, Nat.mul_add, Nat.mul_one]; omega
  have t0 : ∀ j, (2 ^ k * (2 * m)).testBit j = (decide (k < j) && m.testBit (j - k - 1)) := by
    intro j
    rw [testBit_pow_mul]
    by_cases h : k < j
    · obtain ⟨d, rfl⟩ : ∃ d, j = k + (d + 1) := ⟨j - k - 1, by omega⟩
      have e2 : k + (d + 1) - k = d + 1 := by omega
      rw [e2, Nat.testBit_succ, show 2 * m / 2 = m by omega]
      simp
    · have : k ≤ j → (2 * m).testBit (j - k) = false := by
        intro hkj
        rw [show j - k = 0 by omega, Nat.testBit_zero]
        simp
      by_cases h2 : k ≤ j
      · simp [this h2, h]
      · simp [h2, h]
  have tx : ∀ j, x.testBit j = (decide (j = k) || (decide (k < j) && m.testBit (j - k - 1))) := by
    intro j
    rw [hm, testBit_pow_mul]
    by_cases h : k < j
    · obtain ⟨d, rfl⟩ : ∃ d, j = k + (d + 1) := ⟨j - k - 1, by omega⟩
      have e2 : k + (d + 1) - k = d + 1 := by omega
      rw [e2, Nat.testBit_succ, show (2 * m + 1) / 2 = m by omega]
      simp
    · by_cases h2 : k = j
      · subst h2; simp [Nat.testBit_zero]
      · have h3 : ¬ k ≤ j := by omega
        have h4 : ¬ j = k := by omega
        simp [h, h3, h4]
  have ty : ∀ j, (x &&& (x - 1)).testBit j = (decide (k < j) && m.testBit (j - k - 1)) := by
    intro j
    rw [Nat.testBit_and, tx, e1, Nat.testBit_two_pow_mul_add _ (by omega)]
    by_cases h : j < k
    · have h2 : ¬ j = k := by omega
      have h3 : ¬ k < j := by omega
      simp [h2, h3]
    · rw [if_neg h]
      by_cases h2 : k < j
      · obtain ⟨d, rfl⟩ : ∃ d, j = k + (d + 1) := ⟨j - k - 1, by omega⟩
        have e2 : k + (d + 1) - k = d + 1 := by omega
        rw [e2, Nat.testBit_succ, show 2 * m / 2 = m by omega]
        simp
      · obtain rfl : j = k := by omega
        simp [Nat.testBit_zero]
  unfold bitL
  refine filter_range_cut _ _ 64 k hk ?_ ?_ ?_ ?_
  · intro j hj
    rw [tx, ty]
    have h2 : ¬ j = k := by omega
    have h3 : ¬ k < j := by omega
    simp [h2, h3]
  · rw [tx]; simp
  · rw [ty]; simp
  · intro j hj
    rw [tx, ty]
    have h2 : ¬ j = k := by omega
    simp [h2]

theorem bitL_zero : bitL 0 = [] := by simp [bitL]
theorem bitL_len (x : Nat) : (bitL x).length ≤ 64 := by
  unfold bitL
  have := List.length_filter_le (fun j => x.testBit j) (List.range 64)
  simpa using this

/-- The words are words. -/
def In64 (X : List Int) : Prop := ∀ i, 0 ≤ X.getD i 0 ∧ X.getD i 0 < 18446744073709551616

theorem In64.set {X : List Int} (h : In64 X) (i : Nat) (x : Int) (h0 : 0 ≤ x) (h1 : x < 18446744073709551616) : In64 (X.set i x) := by
  intro j
  rw [List.getD_eq_getElem?_getD, List.getElem?_set]
  split
  · split
    · exact ⟨h0, h1⟩
    · exact ⟨by simp, by simp⟩
  · rw [← List.getD_eq_getElem?_getD]; exact h j

theorem In64.put {ps : List (Int × Int)} : ∀ {X : List Int}, In64 X → (∀ p ∈ ps, 0 ≤ p.2 ∧ p.2 < 18446744073709551616) → In64 (putAll X ps) := by
  induction ps with
  | nil => intro X h _; exact h
  | cons p ps ih =>
    intro X h hp
    show In64 (putAll (X.set p.1.toNat p.2) ps)
    have := hp p (by simp)
    exact ih (h.set _ _ this.1 this.2) fun q hq => hp q (by simp [hq])

/-- The k-th word of the bits. -/
def bw (X : List Int) (k : Nat) : Nat := (X.getD (816 + k) 0).toNat

theorem bw_lt {X : List Int} (h : In64 X) (k : Nat) : bw X k < 18446744073709551616 := by have := h (816 + k); unfold bw; omega
theorem bw_cast {X : List Int} (h : In64 X) (k : Nat) : ((bw X k : Nat) : Int) = X.getD (816 + k) 0 := by have := h (816 + k); unfold bw; omega

/-- Whether a block is used. -/
def usedN (X : List Int) (b : Nat) : Bool := (bw X (b / 64)).testBit (b % 64)

/-- The free blocks of the k-th word, as bits: the block 0 is none. -/
def frW (X : List Int) (k : Nat) : Nat := if k = 0 then (18446744073709551615 - bw X 0) &&& (18446744073709551615 - 1) else 18446744073709551615 - bw X k

theorem testBit_not (x j : Nat) (hx : x < 18446744073709551616) : (18446744073709551615 - x).testBit j = (decide (j < 64) && !x.testBit j) := by
  have := Nat.testBit_two_pow_sub_succ (x := x) (n := 64) hx j
  rw [← this]
  congr 1
  show _ = 18446744073709551616 - (x + 1)
  omega

theorem frW_lt (X : List Int) (k : Nat) : frW X k < 18446744073709551616 := by
  unfold frW
  split
  · have : (18446744073709551615 - bw X 0) &&& (18446744073709551615 - 1) ≤ 18446744073709551615 - bw X 0 := Nat.and_le_left
    omega
  · omega

theorem testBit_frW {X : List Int} (h : In64 X) (k j : Nat) : (frW X k).testBit j = (decide (j < 64) && !(bw X k).testBit j && !(decide (k = 0) && decide (j = 0))) := by
  unfold frW
  split
  · rename_i hk
    subst hk
    rw [Nat.testBit_and, testBit_not _ _ (bw_lt h 0), testBit_not _ _ (by omega), show (1 : Nat) = 2 ^ 0 from rfl, Nat.testBit_two_pow]
    by_cases h1 : j < 64 <;> by_cases h2 : j = 0 <;> simp [h1, h2] <;> (intro; omega)
  · rename_i hk
    rw [testBit_not _ _ (bw_lt h k)]
    simp [hk]

/-- The free blocks below n, rising. -/
def freeTo (X : List Int) (n : Nat) : List Nat := (List.range n).filter fun b => b != 0 && !usedN X b

def freeL (X : List Int) : List Nat := freeTo X 256

theorem freeTo_zero (X : List Int) : freeTo X 0 = [] := rfl

theorem freeTo_word {X : List Int} (h : In64 X) (k : Nat) : freeTo X (64 * (k + 1)) = freeTo X (64 * k) ++ (bitL (frW X k)).map (64 * k + ·) := by
  unfold freeTo bitL
  rw [show 64 * (k + 1) = 64 * k + 64 by omega, filter_range_add]
  congr 2
  apply List.filter_congr
  intro j hj
  rw [List.mem_range] at hj
  rw [testBit_frW h, usedN, show (64 * k + j) / 64 = k by omega, show (64 * k + j) % 64 = j by omega]
  by_cases h1 : k = 0 <;> by_cases h2 : j = 0
  · subst h1; subst h2; simp
  · simp [h1, h2, hj]
  · have h3 : ¬ (64 * k = 0) := by omega
    simp [h1, h2, h3]
  · have : ¬ (64 * k + j = 0) := by omega
    simp [h1, h2, hj]

theorem freeTo_mem {X : List Int} {n b : Nat} : b ∈ freeTo X n ↔ b < n ∧ b ≠ 0 ∧ usedN X b = false := by
  unfold freeTo
  rw [List.mem_filter, List.mem_range]
  simp

theorem freeTo_nodup (X : List Int) (n : Nat) : (freeTo X n).Nodup := List.Pairwise.filter _ List.nodup_range

theorem freeL_len (X : List Int) : (freeL X).length ≤ 255 := by
  unfold freeL freeTo
  rw [show (256 : Nat) = 1 + 255 from rfl, filter_range_add, List.length_append]
  have h1 : ((List.range 1).filter fun b => b != 0 && !usedN X b).length = 0 := by simp [List.range_succ]
  have h2 := List.length_filter_le (fun j => (1 + j) != 0 && !usedN X (1 + j)) (List.range 255)
  rw [List.length_map, h1]
  simp only [List.length_range] at h2
  omega

/-- How many are free below a word. -/
theorem freeTo_len {X : List Int} (h : In64 X) (k : Nat) : (freeTo X (64 * (k + 1))).length = (freeTo X (64 * k)).length + ones 64 (frW X k) := by
  rw [freeTo_word h, List.length_append, List.length_map, ones_bitL]

/-- A word of which one bit is set, or taken back. -/
def setW (x j : Nat) (u : Bool) : Nat := if u = true then (x &&& (18446744073709551615 - 2 ^ j)) ||| 2 ^ j else x &&& (18446744073709551615 - 2 ^ j)

theorem pow_lt64 {j : Nat} (hj : j < 64) : 2 ^ j < 18446744073709551616 := Nat.lt_of_lt_of_le (Nat.pow_lt_pow_right (by decide) hj) (by decide)

theorem setW_lt {x j : Nat} (hx : x < 18446744073709551616) (hj : j < 64) (u : Bool) : setW x j u < 18446744073709551616 := by
  have h1 : x &&& (18446744073709551615 - 2 ^ j) < 2 ^ 64 := Nat.lt_of_le_of_lt Nat.and_le_left hx
  unfold setW
  split
  · exact Nat.or_lt_two_pow h1 (pow_lt64 hj)
  · exact h1

theorem testBit_setW {x j : Nat} (hx : x < 18446744073709551616) (hj : j < 64) (u : Bool) (i : Nat) : (setW x j u).testBit i = if i = j then u else x.testBit i := by
  have h64 : ¬ i < 64 → x.testBit i = false := by
    intro h
    apply Nat.testBit_lt_two_pow
    exact Nat.lt_of_lt_of_le hx (Nat.pow_le_pow_right (n := 2) (i := 64) (by decide) (by omega))
  have h1 : (x &&& (18446744073709551615 - 2 ^ j)).testBit i = (x.testBit i && !decide (i = j)) := by
    rw [Nat.testBit_and, testBit_not _ _ (pow_lt64 hj), Nat.testBit_two_pow]
    by_cases h : i < 64
    · by_cases h2 : i = j
      · simp [h2]
      · have : ¬ j = i := fun e => h2 e.symm
        simp [h, h2, this]
    · simp [h64 h]
  unfold setW
  split
  · rename_i hu
    rw [Nat.testBit_or, h1, Nat.testBit_two_pow, hu]
    by_cases h2 : i = j
    · simp [h2]
    · have : ¬ j = i := fun e => h2 e.symm
      simp [h2, this]
  · rename_i hu
    rw [h1]
    have : u = false := by simpa using hu
    subst this
    by_cases h2 : i = j <;> simp [h2]

/-- What is put to set a block's bit. -/
def setPs (X : List Int) (b : Nat) (u : Bool) : List (Int × Int) := if b = 0 ∨ 256 ≤ b then [] else [((816 + b / 64 : Nat), (setW (bw X (b / 64)) (b % 64) u : Nat))]

theorem setPs_in {X : List Int} (h : In64 X) (b : Nat) (u : Bool) : ∀ p ∈ setPs X b u, 0 ≤ p.2 ∧ p.2 < 18446744073709551616 := by
  intro p hp
  unfold setPs at hp
  split at hp
  · simp at hp
  · rw [List.mem_singleton] at hp
    subst hp
    have := setW_lt (bw_lt h (b / 64)) (Nat.mod_lt b (by decide : 0 < 64)) u
    exact ⟨by simp, by show ((_ : Nat) : Int) < _; omega⟩

theorem getD_setI (l : List Int) (i j : Nat) (x : Int) (hi : i < l.length) : (l.set i x).getD j 0 = if i = j then x else l.getD j 0 := by
  rw [List.getD_eq_getElem?_getD, List.getElem?_set]
  by_cases e : i = j
  · subst e; simp [hi]
  · rw [if_neg e, if_neg e, List.getD_eq_getElem?_getD]

theorem usedN_set {X : List Int} (h : In64 X) (hl : X.length = 3128) (b : Nat) (h0 : b ≠ 0) (hb : b < 256) (u : Bool) (c : Nat) : usedN (putAll X (setPs X b u)) c = if c = b then u else usedN X c := by
  unfold setPs
  rw [if_neg (by omega), putAll_one, Int.toNat_natCast]
  unfold usedN bw
  rw [getD_setI _ _ _ _ (by omega)]
  by_cases e : 816 + b / 64 = 816 + c / 64
  · rw [if_pos e, Int.toNat_natCast, show (X.getD (816 + b / 64) 0).toNat = bw X (b / 64) from rfl, testBit_setW (bw_lt h (b / 64)) (Nat.mod_lt b (by decide : 0 < 64))]
    have e2 : c / 64 = b / 64 := by omega
    rw [e2]
    by_cases e3 : c = b
    · rw [if_pos e3, if_pos (by rw [e3])]
    · rw [if_neg e3, if_neg (by omega)]; rfl
  · rw [if_neg e, if_neg (by intro e2; subst e2; exact e rfl)]

/-- What is put to empty a block. -/
def emptyTo (b k : Nat) : List (Int × Int) := (List.range k).map fun (j : Nat) => (((1080 + b * 8 + j : Nat) : Int), (0 : Int))
def emptyPs (b : Nat) : List (Int × Int) := emptyTo b 8

theorem emptyTo_succ (b k : Nat) : emptyTo b (k + 1) = emptyTo b k ++ [(((1080 + b * 8 + k : Nat) : Int), (0 : Int))] := by
  unfold emptyTo
  rw [List.range_succ, List.map_append]
  rfl

theorem emptyTo_len (b k : Nat) : (emptyTo b k).length = k := by simp [emptyTo]

theorem emptyPs_mem {b : Nat} {p : Int × Int} (h : p ∈ emptyPs b) : ∃ j, j < 8 ∧ p = (((1080 + b * 8 + j : Nat) : Int), (0 : Int)) := by
  unfold emptyPs emptyTo at h
  rw [List.mem_map] at h
  obtain ⟨j, hj, rfl⟩ := h
  exact ⟨j, List.mem_range.1 hj, rfl⟩

theorem usedN_other {X : List Int} {ps : List (Int × Int)} (h : ∀ p ∈ ps, 1080 ≤ p.1) (c : Nat) (hc : c < 256) : usedN (putAll X ps) c = usedN X c := by
  unfold usedN bw
  rw [putAll_other _ _ _ fun p hp => by have := h p hp; omega]

/-- What is put to take these blocks. -/
def takePs (X : List Int) : List Nat → List (Int × Int)
  | [] => []
  | b :: l => (setPs X b true ++ emptyPs b) ++ takePs (putAll X (setPs X b true ++ emptyPs b)) l

theorem take1_in {X : List Int} (h : In64 X) (b : Nat) : ∀ p ∈ setPs X b true ++ emptyPs b, 0 ≤ p.2 ∧ p.2 < 18446744073709551616 := by
  intro p hp
  rw [List.mem_append] at hp
  rcases hp with hp | hp
  · exact setPs_in h b true p hp
  · obtain ⟨j, -, rfl⟩ := emptyPs_mem hp
    exact ⟨Int.le_refl 0, by show (0 : Int) < _; omega⟩

theorem usedN_take1 {X : List Int} (h : In64 X) (hl : X.length = 3128) (b : Nat) (h0 : b ≠ 0) (hb : b < 256) (c : Nat) (hc : c < 256) : usedN (putAll X (setPs X b true ++ emptyPs b)) c = (usedN X c || decide (c = b)) := by
  rw [putAll_append, usedN_other (fun p hp => by obtain ⟨j, -, rfl⟩ := emptyPs_mem hp; show (1080 : Int) ≤ ((_ : Nat) : Int); omega) c hc, usedN_set h hl b h0 hb]
  by_cases e : c = b <;> simp [e]

theorem setPs_len (X : List Int) (b : Nat) (h0 : b ≠ 0) (hb : b < 256) (u : Bool) : (setPs X b u).length = 1 := by
  unfold setPs
  rw [if_neg (by omega)]
  rfl

theorem takePs_len (l : List Nat) : ∀ X : List Int, (∀ b ∈ l, b ≠ 0 ∧ b < 256) → (takePs X l).length = 9 * l.length := by
  induction l with
  | nil => intro X _; rfl
  | cons b l ih =>
    intro X h
    obtain ⟨h0, h1⟩ := h b (by simp)
    show ((setPs X b true ++ emptyPs b) ++ takePs _ l).length = _
    rw [List.length_append, List.length_append, setPs_len X b h0 h1, emptyPs, emptyTo_len, ih _ fun c hc => h c (by simp [hc])]
    simp only [List.length_cons]
    omega

theorem takePs_snoc (l : List Nat) (b : Nat) : ∀ X : List Int, takePs X (l ++ [b]) = takePs X l ++ (setPs (putAll X (takePs X l)) b true ++ emptyPs b) := by
  induction l with
  | nil => intro X; show (setPs X b true ++ emptyPs b) ++ [] = [] ++ _; rw [List.append_nil]; rfl
  | cons c l ih =>
    intro X
    have e : putAll X (takePs X (c :: l)) = putAll (putAll X (setPs X c true ++ emptyPs c)) (takePs (putAll X (setPs X c true ++ emptyPs c)) l) := putAll_append _ _ _
    rw [e]
    show (setPs X c true ++ emptyPs c) ++ takePs (putAll X (setPs X c true ++ emptyPs c)) (l ++ [b]) = ((setPs X c true ++ emptyPs c) ++ takePs (putAll X (setPs X c true ++ emptyPs c)) l) ++ _
    rw [ih, List.append_assoc (setPs X c true ++ emptyPs c)]

theorem takePs_state (l : List Nat) : ∀ X : List Int, In64 X → X.length = 3128 → (∀ b ∈ l, b ≠ 0 ∧ b < 256) →
    In64 (putAll X (takePs X l)) ∧ (putAll X (takePs X l)).length = 3128 ∧ ∀ c, c < 256 → usedN (putAll X (takePs X l)) c = (usedN X c || decide (c ∈ l)) := by
  induction l with
  | nil => intro X h hl _; exact ⟨h, hl, fun c _ => by simp [takePs, putAll]⟩
  | cons b l ih =>
    intro X h hl hb
    obtain ⟨h0, h1⟩ := hb b (by simp)
    have hX : In64 (putAll X (setPs X b true ++ emptyPs b)) := h.put (take1_in h b)
    obtain ⟨k1, k2, k3⟩ := ih (putAll X (setPs X b true ++ emptyPs b)) hX (by rw [putAll_len]; exact hl) fun c hc => hb c (by simp [hc])
    have e : putAll X (takePs X (b :: l)) = putAll (putAll X (setPs X b true ++ emptyPs b)) (takePs (putAll X (setPs X b true ++ emptyPs b)) l) := putAll_append _ _ _
    rw [e]
    refine ⟨k1, k2, fun c hc => ?_⟩
    rw [k3 c hc, usedN_take1 h hl b h0 h1 c hc]
    by_cases e1 : c = b <;> by_cases e2 : c ∈ l <;> simp [e1, e2]

theorem filter_drop_take {l : List Nat} (hn : l.Nodup) (n : Nat) : l.filter (fun c => !decide (c ∈ l.take n)) = l.drop n := by
  have h1 : l.filter (fun c => !decide (c ∈ l.take n)) = (l.take n ++ l.drop n).filter (fun c => !decide (c ∈ l.take n)) := by rw [List.take_append_drop]
  rw [h1, List.filter_append]
  have hd : ∀ c, c ∈ l.take n → c ∈ l.drop n → False := by
    rw [← List.take_append_drop n l] at hn
    intro c h2 h3
    exact (List.nodup_append.1 hn).2.2 c h2 c h3 rfl
  have e1 : (l.take n).filter (fun c => !decide (c ∈ l.take n)) = [] := by
    rw [List.filter_eq_nil_iff]; intro c hc; simp [hc]
  have e2 : (l.drop n).filter (fun c => !decide (c ∈ l.take n)) = l.drop n := by
    rw [List.filter_eq_self]; intro c hc
    have : c ∉ l.take n := fun h => hd c h hc
    simp [this]
  rw [e1, e2, List.nil_append]

/-- Behind a take of the first n the others are free. -/
theorem freeL_take {X : List Int} (h : In64 X) (hl : X.length = 3128) (n : Nat) : In64 (putAll X (takePs X ((freeL X).take n))) ∧ (putAll X (takePs X ((freeL X).take n))).length = 3128 ∧ freeL (putAll X (takePs X ((freeL X).take n))) = (freeL X).drop n := by
  have hm : ∀ b ∈ (freeL X).take n, b ≠ 0 ∧ b < 256 := fun b hb => by
    have := freeTo_mem.1 (List.mem_of_mem_take hb)
    exact ⟨this.2.1, this.1⟩
  obtain ⟨k1, k2, k3⟩ := takePs_state ((freeL X).take n) X h hl hm
  refine ⟨k1, k2, ?_⟩
  have hd := filter_drop_take (freeTo_nodup X 256) n
  have e : ∀ Y, freeTo Y 256 = (List.range 256).filter (fun b => b != 0 && !usedN Y b) := fun _ => rfl
  have k3' : ∀ c, c < 256 → usedN (putAll X (takePs X (List.take n (freeTo X 256)))) c = (usedN X c || decide (c ∈ List.take n (freeTo X 256))) := k3
  clear k3 k1 k2 hm
  show freeTo (putAll X (takePs X (List.take n (freeTo X 256)))) 256 = List.drop n (freeTo X 256)
  generalize List.take n (freeTo X 256) = L at *
  rw [← hd, e X, e, List.filter_filter]
  apply List.filter_congr
  intro c hc
  rw [List.mem_range] at hc
  rw [k3' c hc]
  by_cases e1 : c ∈ L <;> simp [e1]

end Go.Proofs.YthpkoknehemdiaaDoor

namespace Go.Proofs.YthpkoknehemdiaaDoor
open Go.RowKit

/-- The place of the e-th entry's name. -/
def entAt (l : List Int) (e : Nat) : Nat := 1080 + 8 * (l.getD (e / 4) 0).toNat + 2 * (e % 4)

def entW (X l : List Int) (e : Nat) : Nat := (X.getD (entAt l e) 0).toNat
def entI (X l : List Int) (e : Nat) : Int := X.getD (entAt l e + 1) 0

/-- So many entries, as the words of a directory's blocks tell them. -/
def entsE (X l : List Int) (m : Nat) : List (ByteArray × Int) := (List.range m).map fun e => (strN ((nameN (entW X l e)).getD []), entI X l e)

theorem entsE_len (X l : List Int) (m : Nat) : (entsE X l m).length = m := by simp [entsE]

theorem entsE_get (X l : List Int) (m e : Nat) (h : e < m) : enm (entsE X l m) e = strN ((nameN (entW X l e)).getD []) ∧ eno (entsE X l m) e = entI X l e := by
  have : (entsE X l m).getD e (ByteArray.empty, 0) = (strN ((nameN (entW X l e)).getD []), entI X l e) := by
    rw [entsE, List.getD_eq_getElem?_getD, List.getElem?_map, List.getElem?_range h]
    rfl
  rw [enm, eno, this]
  exact ⟨rfl, rfl⟩

theorem take_ent (E : List (ByteArray × Int)) (n e : Nat) (h : e < n) : enm (E.take n) e = enm E e ∧ eno (E.take n) e = eno E e := by
  have : (E.take n).getD e (ByteArray.empty, 0) = E.getD e (ByteArray.empty, 0) := by simp [List.getD_eq_getElem?_getD, h]
  rw [enm, eno, this]
  exact ⟨rfl, rfl⟩

theorem take_snocE (E : List (ByteArray × Int)) (n : Nat) (h : n < E.length) : E.take (n + 1) = E.take n ++ [(enm E n, eno E n)] := by
  rw [List.take_succ_eq_append_getElem h]
  have : E.getD n (ByteArray.empty, 0) = E[n] := by simp [List.getD_eq_getElem?_getD, h]
  rw [enm, eno, this]

/-- The row of a block hangs on the entries up to it alone. -/
theorem entRow_take (E : List (ByteArray × Int)) (k c : Nat) (hc : c = min 4 (E.length - 4 * k)) (hk : 4 * k < E.length) : entRow (E.take (4 * k + c)) k = entRow E k := by
  unfold entRow
  rw [List.length_take, show min 4 (min (4 * k + c) E.length - 4 * k) = c by omega, ← hc]
  refine z_ext (by rw [entTo_len, entTo_len]) fun i hi => ?_
  rw [entTo_len] at hi
  rw [entTo_get _ _ _ _ hi, entTo_get _ _ _ _ hi]
  by_cases h : i < 2 * c
  · rw [if_pos h, if_pos h]
    obtain ⟨h1, h2⟩ := take_ent E (4 * k + c) (4 * k + i / 2) (by omega)
    rw [entX, entX, h1, h2]
  · rw [if_neg h, if_neg h]

/-- The k-th block of a directory of m entries is one. -/
def BlkOk (X l : List Int) (m k : Nat) : Prop :=
  l.getD k 0 ≠ 0 ∧ (∀ j, j < min 4 (m - 4 * k) → (nameN (entW X l (4 * k + j))).isSome = true ∧ entI X l (4 * k + j) < 32) ∧ entRow (entsE X l m) k = rowL X (1080 + 8 * (l.getD k 0).toNat)

def EntsOk (X l : List Int) (m : Nat) : Prop := m ≤ 24 ∧ l = uptoL l (blocksN m) ∧ ∀ k, k < blocksN m → BlkOk X l m k

theorem ent_place (l : List Int) (k j : Nat) (hj : j < 4) : entAt l (4 * k + j) = 1080 + 8 * (l.getD k 0).toNat + 2 * j := by
  rw [entAt, show (4 * k + j) / 4 = k by omega, show (4 * k + j) % 4 = j by omega]

theorem nameN_some {W : Nat} {l : List Nat} (h : nameN W = some l) : l.length ≤ 7 ∧ (∀ c ∈ l, c < 256) ∧ goodN l = true ∧ wordN l = W := by
  unfold nameN at h
  split at h
  · rename_i hc
    cases h
    exact ⟨by rw [List.length_take]; omega, fun c hc' => byts_lt W c (List.mem_of_mem_take hc'), hc.2.1, hc.2.2⟩
  · cases h

theorem name_size (W : Nat) : (strN ((nameN W).getD [])).size ≤ 7 := by
  rw [strN_size]
  cases h : nameN W with
  | none => simp
  | some l => exact (nameN_some h).1

end Go.Proofs.YthpkoknehemdiaaDoor

namespace Go.Proofs.YthpkoknehemdiaaDoor
open Go.RowKit

/-- What the tag's and the size's words tell. -/
def tagN (w : List Int) : Ino := ⟨w.getD 0 0 % 256, w.getD 0 0 / 256 % 256, w.getD 0 0 / 65536 % 65536, w.getD 1 0, List.replicate 13 0, []⟩

theorem build_ino (a b c d : Int) (w : World) : (Instr.build 25 #[(0, .int .i64 a), (1, .int .i64 b), (2, .int .i64 c), (3, .int .i64 d)]).run Tryd.prog w = .ok (.agg #[.int .i64 a, .int .i64 b, .int .i64 c, .int .i64 d, .int .i64 0, .int .i64 0, .int .i64 0, .int .i64 0, .int .i64 0, .int .i64 0, .int .i64 0, .int .i64 0, .int .i64 0, .int .i64 0, .int .i64 0, .int .i64 0, .int .i64 0, .slice none 0 0]) w := run_build w 25 _ _ (by kernel_rfl)

theorem tag_parts (x : Nat) (hx : x < 18446744073709551616) : bits .and .u64 (x : Int) 255 = ((x % 256 : Nat) : Int) ∧ bits .and .u64 ((x : Int) / 256) 255 = ((x / 256 % 256 : Nat) : Int) ∧ bits .and .u64 ((x : Int) / 65536) 65535 = ((x / 65536 % 65536 : Nat) : Int) := by
  have h1 := Nat.div_le_self x 256
  have h2 := Nat.div_le_self x 65536
  refine ⟨?_, ?_, ?_⟩
  · rw [show (255 : Int) = ((255 : Nat) : Int) from rfl, u64_and_nat x 255 hx (by omega), show x &&& 255 = x % 2 ^ 8 from Nat.and_two_pow_sub_one_eq_mod x 8]
  · rw [show (x : Int) / 256 = ((x / 256 : Nat) : Int) by omega, show (255 : Int) = ((255 : Nat) : Int) from rfl, u64_and_nat (x / 256) 255 (by omega) (by omega), show x / 256 &&& 255 = x / 256 % 2 ^ 8 from Nat.and_two_pow_sub_one_eq_mod _ 8]
  · rw [show (x : Int) / 65536 = ((x / 65536 : Nat) : Int) by omega, show (65535 : Int) = ((65535 : Nat) : Int) from rfl, u64_and_nat (x / 65536) 65535 (by omega) (by omega), show x / 65536 &&& 65535 = x / 65536 % 2 ^ 16 from Nat.and_two_pow_sub_one_eq_mod _ 16]

set_option maxRecDepth 100000 in
set_option maxHeartbeats 4000000 in
theorem tagged_at (l : List Int) (hl : l.length = 8) (h0 : 0 ≤ l.getD 0 0 ∧ l.getD 0 0 < 18446744073709551616) (h1 : 0 ≤ l.getD 1 0 ∧ l.getD 1 0 ≤ 832) (w : World) :
    Calls Tryd.prog 34 #[.agg (u64s l).toArray] w fun e w' => e = .returned (.agg (inoC (tagN l) (.slice none 0 0))) ∧ Keeps [] w w' := by
  have hb0 := (Blk.new w (u64s l).toArray 63).alloc (.cells (inoC inoZ (.slice none 0 0)) 25)
  have hbr : Blk ((w.alloc (.cells (u64s l).toArray 63)).alloc (.cells (inoC inoZ (.slice none 0 0)) 25)) (w.heap.size + 1) (inoC inoZ (.slice none 0 0)) 25 := by
    have := Blk.new (w.alloc (.cells (u64s l).toArray 63)) (inoC inoZ (.slice none 0 0)) 25
    have e : (w.alloc (.cells (u64s l).toArray 63)).heap.size = w.heap.size + 1 := by simp
    rw [e] at this
    exact this
  have c0 : ((w.alloc (.cells (u64s l).toArray 63)).alloc (.cells (inoC inoZ (.slice none 0 0)) 25)).cell? ⟨w.heap.size, 0, none⟩ = some (.int .u64 (l.getD 0 0)) := by
    rw [hb0.cell, List.getElem?_toArray, u64s_get (by omega)]
  have c1 : ((w.alloc (.cells (u64s l).toArray 63)).alloc (.cells (inoC inoZ (.slice none 0 0)) 25)).cell? ⟨w.heap.size, 1, none⟩ = some (.int .u64 (l.getD 1 0)) := by
    rw [hb0.cell, List.getElem?_toArray, u64s_get (by omega)]
  obtain ⟨w2, hS, hb3, hk2⟩ := store_whole (P := Tryd.prog) (ty := 25) (cs := inoL (tagN l) (.slice none 0 0)) (by rw [inoL_len]; exact size_ino) hbr rfl (inoL_one rfl)
  have hL2 := load_ino (n := tagN l) (v := .slice none 0 0) hb3 rfl
  have HK : Hid (Keeps [] w w2) := (((Keeps.refl [] w).alloc _).alloc _).trans hk2 (by simp)
  have HS := Lib.hid hS
  have HL2 := Lib.hid hL2
  have hzv := zero_ino
  clear hb0 hbr hS hL2 hb3 hk2
  have HT : Hid ((inoL (tagN l) (.slice none 0 0)).toArray = inoC (tagN l) (.slice none 0 0)) := rfl
  rw [HT.out] at HS
  obtain ⟨x, hx⟩ : ∃ x : Nat, l.getD 0 0 = (x : Int) := ⟨(l.getD 0 0).toNat, by omega⟩
  obtain ⟨y, hy⟩ : ∃ y : Nat, l.getD 1 0 = (y : Int) := ⟨(l.getD 1 0).toNat, by omega⟩
  have hI : inoC (tagN l) (.slice none 0 0) = #[.int .i64 ((x % 256 : Nat) : Int), .int .i64 ((x / 256 % 256 : Nat) : Int), .int .i64 ((x / 65536 % 65536 : Nat) : Int), .int .i64 (y : Int), .int .i64 0, .int .i64 0, .int .i64 0, .int .i64 0, .int .i64 0, .int .i64 0, .int .i64 0, .int .i64 0, .int .i64 0, .int .i64 0, .int .i64 0, .int .i64 0, .int .i64 0, .slice none 0 0] := by
    unfold tagN
    rw [hx, hy]
    rfl
  have hz0 : inoC inoZ (.slice none 0 0) = #[.int .i64 0, .int .i64 0, .int .i64 0, .int .i64 0, .int .i64 0, .int .i64 0, .int .i64 0, .int .i64 0, .int .i64 0, .int .i64 0, .int .i64 0, .int .i64 0, .int .i64 0, .int .i64 0, .int .i64 0, .int .i64 0, .int .i64 0, .slice none 0 0] := rfl
  rw [hI] at HS HL2 HT
  rw [hI]
  rw [hz0] at HS c0 c1
  rw [hz0] at hzv
  clear HT hz0
  generalize (u64s l).toArray = Z at *
  rw [hx] at c0 h0
  rw [hy] at c1 h1
  obtain ⟨p1, p2, p3⟩ := tag_parts x (by omega)
  clear hx hy
  have q1 : x % 256 < 256 := Nat.mod_lt _ (by decide)
  have q2 : x / 256 % 256 < 256 := Nat.mod_lt _ (by decide)
  have q3 : x / 65536 % 65536 < 65536 := Nat.mod_lt _ (by decide)
  generalize x % 256 = a at *
  generalize x / 256 % 256 = b at *
  generalize x / 65536 % 65536 = c at *
  go_enter Tryd.func34, Tryd.ntmps34
  go_wp2_with (first | ((with_reducible show wpList _ _ _ (⟨_, .store 25 (.tmp 2) (.tmp 20), _, _, _, _⟩ :: _) _ _); refine wpList_store_any rfl 25 (.tmp 2) (.tmp 20) rfl _ rfl _ rfl _ HS.out ?_))
  exact bodyPost_ret (results_cell Tryd.results34 rfl HL2.out) rfl ⟨rfl, HK.out⟩

end Go.Proofs.YthpkoknehemdiaaDoor

namespace Go.Proofs.YthpkoknehemdiaaDoor
open Go.RowKit

def blockN (b : Int) : Int := if b < 0 ∨ 256 ≤ b then -1 else 1080 + b * 8

set_option maxHeartbeats 400000 in
theorem txBlock_at (b : Int) (w : World) : Calls Tryd.prog 28 #[.int .i64 b] w fun e w' => e = .returned (.int .i64 (blockN b)) ∧ w = w' := by
  rcases (show b < 0 ∨ 256 ≤ b ∨ (0 ≤ b ∧ b < 256) by omega) with h | h | ⟨h1, h2⟩
  · rw [blockN, if_pos (.inl h)]
    go_enter Tryd.func28, Tryd.ntmps28
    go_wp2
    go_ret
    exact ⟨rfl, rfl⟩
  · rw [blockN, if_pos (.inr h)]
    have h0 : ¬ b < 0 := by omega
    go_enter Tryd.func28, Tryd.ntmps28
    go_wp2
    go_ret
    exact ⟨rfl, rfl⟩
  · rw [blockN, if_neg (by omega)]
    go_enter Tryd.func28, Tryd.ntmps28
    go_wp2
    go_ret
    exact ⟨rfl, rfl⟩

end Go.Proofs.YthpkoknehemdiaaDoor

namespace Go.Proofs.YthpkoknehemdiaaDoor
open Go.RowKit

/-- copy(d[o:], s[so:so+m]), of words. -/
theorem copy_words {w : World} {b T o n cap gs Ts so m mc : Nat} {dl sl : List Int} (hb : Blk w b (u64s dl).toArray T) (hs : Blk w gs (u64s sl).toArray Ts) (hm : m ≤ n) (hfit : o + m ≤ dl.length) (hsl : so + m ≤ sl.length) :
    ∃ v w', (∀ ty, (Builtin.copy_ #[44, 44] ty #[.slice (some ⟨b, o, none⟩) n cap, .slice (some ⟨gs, so, none⟩) m mc]).run Tryd.prog w = .ok v w') ∧ Blk w' b (u64s (dl.take o ++ (sl.drop so).take m ++ dl.drop (o + m))).toArray T ∧ Keeps [b] w w' := by
  have hl : (u64s ((sl.drop so).take m)).length = min m n := by rw [u64s_len, List.length_take, List.length_drop]; omega
  refine ⟨_, _, fun ty => run_copy_row (P := Tryd.prog) w 44 44 ty 30 b o n cap ⟨gs, so, none⟩ m mc (u64s dl).toArray T (u64s ((sl.drop so).take m)) Tryd.underlying44 size_u64 hb hl ?_ ?_ ?_, ?_, (Keeps.refl _ _).setRow (by simp) _⟩
  · intro j u hu
    have hj : j < m := by
      have := (List.getElem?_eq_some_iff.1 hu).1
      rw [hl] at this
      omega
    rw [u64s_get (by rw [List.length_take, List.length_drop]; omega)] at hu
    rw [add_plain, hs.cell, List.getElem?_toArray, u64s_get (by omega), ← hu]
    simp [List.getD_eq_getElem?_getD, hj]
  · rw [hl, List.size_toArray, u64s_len]; omega
  · exact fun u hu => u64s_one _ u hu
  · have e : ((u64s dl).toArray.toList.take o ++ u64s ((sl.drop so).take m) ++ (u64s dl).toArray.toList.drop (o + (u64s ((sl.drop so).take m)).length)).toArray = (u64s (dl.take o ++ (sl.drop so).take m ++ dl.drop (o + m))).toArray := by
      rw [hl, Nat.min_eq_left hm]
      simp [u64s, List.map_take, List.map_drop]
    rw [e]
    exact setRow_blk hb

theorem slice_all13 (b : Nat) (w : World) : (Instr.sliceAt 93 (.pointer (some ⟨b, 0, none⟩)) none none none).run Tryd.prog w = .ok (.slice (some ⟨b, 0, none⟩) 13 13) w := by show Sem.run _ _ _ = _; kernel_rfl
theorem slice_five13 (b : Nat) (w : World) : (Instr.sliceAt 93 (.pointer (some ⟨b, 0, none⟩)) (some (.int .i64 5)) none none).run Tryd.prog w = .ok (.slice (some ⟨b, 5, none⟩) 8 8) w := by show Sem.run _ _ _ = _; kernel_rfl
theorem slice_all8 (b : Nat) (w : World) : (Instr.sliceAt 63 (.pointer (some ⟨b, 0, none⟩)) none none none).run Tryd.prog w = .ok (.slice (some ⟨b, 0, none⟩) 8 8) w := by show Sem.run _ _ _ = _; kernel_rfl
theorem slice_mid8 (b : Nat) (w : World) : (Instr.sliceAt 63 (.pointer (some ⟨b, 0, none⟩)) (some (.int .i64 2)) (some (.int .i64 7)) none).run Tryd.prog w = .ok (.slice (some ⟨b, 2, none⟩) 5 6) w := by show Sem.run _ _ _ = _; kernel_rfl

/-- The numbers of all blocks, of an inode's row r, as the words X have them. -/
def numAll (X r : List Int) : List Int := (r.drop 2).take 5 ++ (if r.getD 7 0 = 0 then List.replicate 8 0 else rowL X (1080 + 8 * (r.getD 7 0).toNat))

/-- All are blocks' numbers, and a list has some. -/
def NumOk (X r : List Int) : Prop := r.getD 7 0 < 256 ∧ (∀ k, k < 13 → (numAll X r).getD k 0 < 256) ∧ (r.getD 7 0 = 0 ∨ (numAll X r).drop 5 ≠ List.replicate 8 0)

instance (X r : List Int) : Decidable (NumOk X r) := by unfold NumOk; infer_instance

theorem numAll_len {X r : List Int} (hr : r.length = 8) : (numAll X r).length = 13 := by
  unfold numAll
  split
  · simp [hr]
  · simp [hr, rowL_len]

theorem second_cells (f row : List Int) (hf : f.length = 5) (hr : row.length = 8) : (f ++ List.replicate 8 (0 : Int)).take 5 ++ (row.drop 0).take 8 ++ (f ++ List.replicate 8 (0 : Int)).drop (5 + 8) = f ++ row := by
  rw [List.take_left' hf, List.drop_zero, List.take_of_length_le (by omega), List.drop_of_length_le (by simp [hf]), List.append_nil]

/-- What numbersOf leaves. -/
def NumPost (w : World) (X r : List Int) (e : Ending) (w' : World) : Prop :=
  ∃ la li ok, e = .returned (.tuple #[.agg (zs la).toArray, .int .i64 li, .bool ok]) ∧ (ok = true → NumOk X r ∧ la = numAll X r ∧ li = r.getD 7 0) ∧ (ok = false → ¬ NumOk X r) ∧ la.length = 13 ∧ Keeps [] w w'

set_option maxRecDepth 100000 in
set_option maxHeartbeats 4000000 in
theorem numbersOf_at {w : World} {b gp : Nat} {B : List Int} {ps : List (Int × Int)} (h : ShAt w b gp B ps) (h64 : In64 (putAll B ps)) (r : List Int) (hr : r.length = 8) (hr64 : In64 r) :
    Calls Tryd.prog 33 #[.pointer (some ⟨b, 0, none⟩), .agg (u64s r).toArray] w (NumPost w (putAll B ps) r) := by
  have HS := Lib.hid h
  have H64 := Lib.hid h64
  have HR64 := Lib.hid hr64
  have hzn := zero_n13
  have hzr := zero_r13
  -- the world behind the three variables
  have hb0 := ((Blk.new w (u64s r).toArray 63).alloc (.cells (zs (List.replicate 13 0)).toArray 22)).alloc (.cells (u64s (List.replicate 13 0)).toArray 93)
  have hb1 := (Blk.new (w.alloc (.cells (u64s r).toArray 63)) (zs (List.replicate 13 0)).toArray 22).alloc (.cells (u64s (List.replicate 13 0)).toArray 93)
  have hb2 := Blk.new ((w.alloc (.cells (u64s r).toArray 63)).alloc (.cells (zs (List.replicate 13 0)).toArray 22)) (u64s (List.replicate 13 0)).toArray 93
  rw [show (w.alloc (.cells (u64s r).toArray 63)).heap.size = w.heap.size + 1 by simp] at hb1
  rw [show ((w.alloc (.cells (u64s r).toArray 63)).alloc (.cells (zs (List.replicate 13 0)).toArray 22)).heap.size = w.heap.size + 1 + 1 by simp] at hb2
  obtain ⟨v1, w1, hcp, hbc, hkc⟩ := copy_words (o := 0) (n := 13) (cap := 13) (so := 2) (m := 5) (mc := 6) hb2.drew hb0.drew (by omega) (by simp) (by omega)
  have hk1 : Keeps [] w w1 := (((((Keeps.refl [] w).alloc _).alloc _).alloc _).drew).trans hkc (by intro x hx; rw [List.mem_singleton] at hx; omega)
  have hb01 := hb0.drew.keep hkc (by rw [List.mem_singleton]; omega)
  have hb11 := hb1.drew.keep hkc (by rw [List.mem_singleton]; omega)
  have hfirst : (List.replicate 13 (0 : Int)).take 0 ++ (r.drop 2).take 5 ++ (List.replicate 13 (0 : Int)).drop (0 + 5) = (r.drop 2).take 5 ++ List.replicate 8 0 := by simp
  rw [hfirst] at hbc
  have HCP := Lib.hid hcp
  have HBC := Lib.hid hbc
  have HB0 := Lib.hid hb01
  have HB1 := Lib.hid hb11
  have HK1 := Lib.hid hk1
  have hs13 := slice_all13 (w.heap.size + 1 + 1)
  have hs8 := slice_mid8 w.heap.size
  have c7 : w1.cell? ⟨w.heap.size, 7, none⟩ = some (.int .u64 (r.getD 7 0)) := by rw [hb01.cell, List.getElem?_toArray, u64s_get (by omega)]
  have HALL : Hid (numAll (putAll B ps) r = (r.drop 2).take 5 ++ (if r.getD 7 0 = 0 then List.replicate 8 0 else rowL (putAll B ps) (1080 + 8 * (r.getD 7 0).toNat))) := rfl
  have HAL := Lib.hid (numAll_len (X := putAll B ps) hr)
  have HNO : Hid (NumOk (putAll B ps) r ↔ r.getD 7 0 < 256 ∧ (∀ k, k < 13 → (numAll (putAll B ps) r).getD k 0 < 256) ∧ (r.getD 7 0 = 0 ∨ (numAll (putAll B ps) r).drop 5 ≠ List.replicate 8 0)) := Iff.rfl
  have HA64 : Hid (In64 (numAll (putAll B ps) r)) := by
    intro i
    have e : numAll (putAll B ps) r = (r.drop 2).take 5 ++ (if r.getD 7 0 = 0 then List.replicate 8 0 else rowL (putAll B ps) (1080 + 8 * (r.getD 7 0).toNat)) := rfl
    by_cases hi : i < 5
    · have : (numAll (putAll B ps) r).getD i 0 = r.getD (2 + i) 0 := by
        rw [e]
        simp only [List.getD_eq_getElem?_getD]
        rw [List.getElem?_append_left (by simp [hr]; omega), List.getElem?_take, if_pos hi, List.getElem?_drop]
      rw [this]
      exact hr64 _
    · have h2 : (numAll (putAll B ps) r).getD i 0 = (if r.getD 7 0 = 0 then List.replicate 8 0 else rowL (putAll B ps) (1080 + 8 * (r.getD 7 0).toNat)).getD (i - 5) 0 := by
        rw [e]
        simp only [List.getD_eq_getElem?_getD]
        rw [List.getElem?_append_right (by simp [hr]; omega)]
        simp [hr]
      rw [h2]
      split
      · rw [List.getD_eq_getElem?_getD, List.getElem?_replicate]
        split <;> simp
      · by_cases h8 : i - 5 < 8
        · rw [rowL_get _ _ _ h8]
          exact h64 _
        · rw [List.getD_eq_getElem?_getD, List.getElem?_eq_none (by rw [rowL_len]; omega)]
          simp
  have hli := hr64 7
  clear hb0 hb1 hb2 hcp hbc hkc hk1 hb01 hb11 h h64 hr64 hfirst
  generalize hzl : r.getD 7 0 = li at *
  have HZL := Lib.hid hzl
  clear hzl
  generalize (u64s r).toArray = Z at *
  generalize hzz : (zs (List.replicate 13 0)).toArray = ZN at *
  have HZZ := Lib.hid hzz
  clear hzz
  generalize (u64s (List.replicate 13 0)).toArray = ZR at *
  have HSZ : Hid (∀ wx, Blk wx (w.heap.size + 1) ZN 22 → ∃ w', (storeVar 22 ⟨w.heap.size + 1, 0, none⟩ (.agg ZN)).run Tryd.prog wx = .ok () w' ∧ (loadVar 22 ⟨w.heap.size + 1, 0, none⟩).run Tryd.prog w' = .ok (.agg ZN) w' ∧ Keeps [w.heap.size + 1] wx w') := fun wx hb => by
    have hz := HZZ.out
    obtain ⟨w', h1, h2, h3⟩ := store_whole (P := Tryd.prog) (ty := 22) (cs := zs (List.replicate 13 0)) (by rw [zs_len]; exact size_n13) hb (by rw [← hz]; simp) (zs_one _)
    have h4 := load_n13 (l := List.replicate 13 0) (off := 0) h2 (by simp) (fun k hk => by rw [Nat.zero_add, List.getElem?_toArray, zs_get (by simpa using hk)])
    rw [hz] at h1 h4
    exact ⟨w', h1, h4, h3⟩
  by_cases hbig : 256 ≤ li
  · have HF : Hid (¬ NumOk (putAll B ps) r) := fun h => by have := (HNO.out.1 h).1; omega
    obtain ⟨w2, hst, hld, hk2⟩ := HSZ.out w1 HB1.out
    have HST := Lib.hid hst
    have HLD := Lib.hid hld
    have HK2 := Lib.hid (HK1.out.trans hk2 (by simp))
    clear hst hld hk2 HALL HNO HA64
    go_enter Tryd.func33, Tryd.ntmps33
    go_wp2_with fail
    refine wp_region_last (l := [_, _]) (o := _) (S := fun wx => wx = (((w.alloc (.cells Z 63)).alloc (.cells ZN 22)).alloc (.cells ZR 93)).drew) (by kernel_rfl) rfl (by kernel_rfl) (fun d _ _ _ _ h => by cases d <;> exact h) rfl (by kernel_rfl) (by kernel_rfl) ?_
    repeat (refine EachList.cons ?_ (EachIf.val rfl ?h) ?_; (case h => (intro wx hx; go_simp; rfl)); simp only [Act.put, List.setIfInBounds_toArray, List.set_cons_zero, List.set_cons_succ])
    refine EachList.done fun wx hx => ?_
    subst hx
    refine wpList_copy_any rfl (.tmp 13) (.tmp 14) 44 44 rfl _ _ rfl rfl (HCP.out _) ?_
    go_wp2_with ((with_reducible show wpList _ _ _ (⟨_, .store 22 (.tmp 4) (.tmp 20), _, _, _, _⟩ :: _) _ _); refine wpList_store_any rfl 22 (.tmp 4) (.tmp 20) rfl _ rfl _ rfl _ HST.out ?_)
    refine bodyPost_ret (results_cell3 Tryd.results33 rfl HLD.out rfl rfl) rfl ⟨List.replicate 13 0, 0, false, ?_, fun h => (by cases h), fun _ => HF.out, by simp, HK2.out⟩
    rw [HZZ.out]
    rfl
  · have hwli : wrap64 li = li := by unfold wrap64; omega
    have hzr8 := zero_r8
    have HWLI : Hid (IntKind.i64.wrap li = li) := IntWalk.i64_in _ (by omega)
    by_cases hl0 : li = 0
    · have HBA : Hid (Blk w1 (w.heap.size + 1 + 1) (u64s (numAll (putAll B ps) r)).toArray 93) := by
        have e := HALL.out
        rw [if_pos hl0] at e
        show Blk _ _ _ _
        rw [e]
        exact HBC.out
      have HLE : Hid (li = 0 ∨ (numAll (putAll B ps) r).drop 5 ≠ List.replicate 8 0 ↔ True) := ⟨fun _ => trivial, fun _ => .inl hl0⟩
      have HBZ := HB1
      have HKA := HK1
      have e0 : (li == 0) = true := beq_iff_eq.2 hl0
      have e1 : (li != 0) = false := by rw [bne, e0]; rfl
      go_enter Tryd.func33, Tryd.ntmps33
      go_wp2_with fail
      refine wp_region_last (l := [_, _]) (o := _) (S := fun wx => wx = (((w.alloc (.cells Z 63)).alloc (.cells ZN 22)).alloc (.cells ZR 93)).drew) (by kernel_rfl) rfl (by kernel_rfl) (fun d _ _ _ _ h => by cases d <;> exact h) rfl (by kernel_rfl) (by kernel_rfl) ?_
      repeat (refine EachList.cons ?_ (EachIf.val rfl ?h) ?_; (case h => (intro wx hx; go_simp; rfl)); simp only [Act.put, List.setIfInBounds_toArray, List.set_cons_zero, List.set_cons_succ])
      refine EachList.done fun wx hx => ?_
      subst hx
      refine wpList_copy_any rfl (.tmp 13) (.tmp 14) 44 44 rfl _ _ rfl rfl (HCP.out _) ?_
      clear HALL
      generalize w1 = wA at *
      have HBL0 := Lib.hid (Blk.new wA ZN 22)
      have HL93 := Lib.hid (load_r13 (HBA.out.alloc (.cells ZN 22)) HAL.out)
      have HU : Hid (∀ k, k < 13 → (u64s (numAll (putAll B ps) r)).toArray[k]? = some (.int .u64 ((numAll (putAll B ps) r).getD k 0))) := fun k hk => by rw [List.getElem?_toArray, u64s_get (by rw [HAL.out]; exact hk)]
      have HWA : Hid (w.heap.size + 1 + 1 < wA.heap.size) := HBA.out.lt
      clear HBA
      generalize hal : numAll (putAll B ps) r = al at *
      have HALE := Lib.hid hal
      clear hal
      generalize (u64s al).toArray = UA at *
      go_wp2_with ((with_reducible show wpList _ _ _ (⟨_, .load 93 (.tmp 7), _, _, _, _⟩ :: _) _ _); refine wpList_load_any rfl 93 (.tmp 7) rfl _ rfl _ HL93.out ?_)
      clear hzr HL93
      go_loopg [32] 13 (fun gh s32 wx => ∃ k : Nat, k + gh = 13 ∧ s32 = .int .i64 (k : Int) ∧ Hid (Blk wx wA.heap.size (zs (fillTo 0 al k)).toArray 22 ∧ Blk wx (w.heap.size + 1) ZN 22 ∧ (∀ i, i < k → al.getD i 0 < 256) ∧ Keeps [] w wx))
      case atStart =>
        refine ⟨0, by omega, rfl, ?_, HBZ.out.alloc _, by simp, HKA.out.alloc _⟩
        rw [fillTo_zero, HAL.out, HZZ.out]
        exact HBL0.out
      case round =>
        clear HBZ HKA HBL0
        obtain ⟨k, hk, rfl, HP⟩ := hrel
        obtain ⟨hb1, hb2, hpre, hkp⟩ := HP.out
        cases gk with
        | zero =>
          obtain rfl : k = 13 := by omega
          rw [show fillTo 0 al 13 = al by rw [← HAL.out]; exact fillTo_all 0 al] at hb1
          have hnA : wA.heap.size ∉ [w.heap.size + 1] := by have := HWA.out; rw [List.mem_singleton]; omega
          have HLB := Lib.hid (fun (wx : World) (hk : Keeps [w.heap.size + 1] wr wx) => load_n13 (off := 0) (hb1.keep hk hnA) HAL.out (fun k hk => by rw [Nat.zero_add, List.getElem?_toArray, zs_get (by rw [HAL.out]; exact hk)]))
          have HSB : Hid (∀ wx, Blk wx (w.heap.size + 1) ZN 22 → ∃ w', (storeVar 22 ⟨w.heap.size + 1, 0, none⟩ (.agg (zs al).toArray)).run Tryd.prog wx = .ok () w' ∧ Blk w' (w.heap.size + 1) (zs al).toArray 22 ∧ Keeps [w.heap.size + 1] wx w') := fun wx hb => by
            have hz := HZZ.out
            exact store_whole (P := Tryd.prog) (ty := 22) (cs := zs al) (by rw [zs_len, HAL.out]; exact size_n13) hb (by rw [← hz, zs_len, HAL.out]; simp [zs_len]) (zs_one _)
          have HLF : Hid (∀ wx, Blk wx (w.heap.size + 1) (zs al).toArray 22 → (loadVar 22 ⟨w.heap.size + 1, 0, none⟩).run Tryd.prog wx = .ok (.agg (zs al).toArray) wx) := fun wx hb => load_n13 (off := 0) hb HAL.out (fun k hk => by rw [Nat.zero_add, List.getElem?_toArray, zs_get (by rw [HAL.out]; exact hk)])
          have HKP := Lib.hid hkp
          have HBN := Lib.hid hb2
          have hwn1 : w.heap.size ≤ w.heap.size + 1 := by omega
          have HF : Hid (NumOk (putAll B ps) r) := HNO.out.2 ⟨by omega, hpre, .inl hl0⟩
          clear HP hb1 hb2 hpre hkp hk HNO HBC HB0 HB1 HK1 hnA
          generalize hza : (zs al).toArray = ZA at *
          have HZA := Lib.hid hza
          clear hza
          go_wp2_with fail
          refine wp_region_store (l := [_, _, _, _, _, _, _, _, _, _, _]) (f := _) (mid := [_]) (o := _) (tl := []) (S := fun b wx => Keeps [w.heap.size + 1] wr wx ∧ Blk wx (w.heap.size + 1) (cond b ZA ZN) 22) (by kernel_rfl) rfl (by kernel_rfl) (fun d _ _ _ _ h => by cases d <;> exact h) ⟨(Keeps.refl _ _).drew, HBN.out.drew⟩ (by kernel_rfl) (by kernel_rfl) ?_
          repeat (first
            | (refine EachListB.cons (.agg ZA) (fun b => EachIf.load rfl 22 (.tmp 10) rfl _ rfl fun wx hx => HLB.out wx hx.1) ?_; simp only [Act.put, List.setIfInBounds_toArray, List.set_cons_zero, List.set_cons_succ])
            | (refine EachListB.cons undef (fun b => EachIf.off rfl) ?_; simp only [Act.put, List.setIfInBounds_toArray, List.set_cons_zero, List.set_cons_succ])
            | (refine EachListB.cons ?_ (fun b => EachIf.val rfl ?h) ?_; (case h => (intro wx hx; clear hx; go_simp; rfl)); simp only [Act.put, List.setIfInBounds_toArray, List.set_cons_zero, List.set_cons_succ]))
          refine EachListB.done ⟨undef, Each2.store rfl 22 (.tmp 4) (.tmp 44) rfl _ rfl _ rfl (fun wx hx => ?_), ?_⟩
          · obtain ⟨w', h1, h2, h3⟩ := HSB.out wx hx.2
            exact ⟨w', h1, hx.1.trans' h3, h2⟩
          refine EachList.cons ?_ (EachIf.val rfl ?h) ?_
          case h => intro wx hx; clear hx; go_simp; rfl
          simp only [Act.put, List.setIfInBounds_toArray, List.set_cons_zero, List.set_cons_succ]
          refine EachList.done fun wx hx => ?_
          have HLD6 := Lib.hid (HLF.out wx hx.2)
          have HK6 := Lib.hid (HKP.out.trans hx.1 (by intro x hx; rw [List.mem_singleton] at hx; omega))
          clear hx
          go_wp2_with fail
          refine bodyPost_ret (results_cell3 Tryd.results33 rfl HLD6.out rfl rfl) rfl ⟨al, 0, true, ?_, fun _ => ⟨HF.out, HALE.out.symm, by rw [HZL.out]; exact hl0.symm⟩, fun h => (by cases h), HAL.out, HK6.out⟩
          rw [HZA.out]
          rfl
        | succ gg =>
          have hk13 : k < 13 := by omega
          have hlt : (k : Int) < 13 := by omega
          have hk0 : (0 : Int) ≤ (k : Int) := by omega
          have hix := index_r13 hk13 (HU.out k hk13)
          have hx0 := HA64.out k
          by_cases hbx : 256 ≤ al.getD k 0
          · have HF : Hid (¬ NumOk (putAll B ps) r) := fun h => by have := (HNO.out.1 h).2.1 k hk13; omega
            obtain ⟨w5, hst5, hld5, hk5⟩ := HSZ.out wr hb2
            have HST5 := Lib.hid hst5
            have HLD5 := Lib.hid hld5
            have HK5 := Lib.hid (hkp.trans hk5 (by simp))
            clear hst5 hld5 hk5 HP hb1 hb2 hpre hkp hk
            generalize al.getD k 0 = x at *
            go_wp2_with ((with_reducible show wpList _ _ _ (⟨_, .store 22 (.tmp 4) (.tmp 38), _, _, _, _⟩ :: _) _ _); refine wpList_store_any rfl 22 (.tmp 4) (.tmp 38) rfl _ rfl _ rfl _ HST5.out ?_)
            refine bodyPost_ret (results_cell3 Tryd.results33 rfl HLD5.out rfl rfl) rfl ⟨List.replicate 13 0, 0, false, ?_, fun h => (by cases h), fun _ => HF.out, by simp, HK5.out⟩
            rw [HZZ.out]
            rfl
          · have hwx : wrap64 (al.getD k 0) = al.getD k 0 := by unfold wrap64; omega
            have hcell : wr.cell? ⟨wA.heap.size, k, none⟩ = some (.int .i64 ((fillTo 0 al k).getD k 0)) := by
              rw [hb1.cell, List.getElem?_toArray, zs_get (by rw [fillTo_len _ _ _ (by rw [HAL.out]; omega), HAL.out]; exact hk13)]
            have hfz : wr.frozen? ⟨wA.heap.size, k, none⟩ = false := hb1.frozen k
            have HR : Hid (Blk (wr.setCell ⟨wA.heap.size, k, none⟩ (.int .i64 (al.getD k 0))) wA.heap.size (zs (fillTo 0 al (k + 1))).toArray 22 ∧ Blk (wr.setCell ⟨wA.heap.size, k, none⟩ (.int .i64 (al.getD k 0))) (w.heap.size + 1) ZN 22 ∧ (∀ i, i < k + 1 → al.getD i 0 < 256) ∧ Keeps [] w (wr.setCell ⟨wA.heap.size, k, none⟩ (.int .i64 (al.getD k 0)))) := by
              have hlA := HWA.out
              refine ⟨?_, hb2.other (by show w.heap.size + 1 ≠ wA.heap.size; omega) _, fun i hi => ?_, hkp.setCell (.inr (by show w.heap.size ≤ wA.heap.size; omega)) _⟩
              · have := hb1.set k (.int .i64 (al.getD k 0))
                rw [List.setIfInBounds_toArray, zs_set, fillTo_succ 0 al k (by rw [HAL.out]; exact hk13) (al.getD k 0) (by simp [List.getD_eq_getElem?_getD, show k < al.length by rw [HAL.out]; exact hk13])] at this
                exact this
              · by_cases e : i = k
                · subst e; omega
                · exact hpre i (by omega)
            clear HP hb1 hb2 hpre hkp
            generalize al.getD k 0 = x at *
            generalize (fillTo 0 al k).getD k 0 = y at *
            go_wp2_with fail
            go_roundg gg
            case measure => omega
            case rel => exact ⟨k + 1, by omega, by go_num, HR.out⟩
    · have e0 : (li == 0) = false := beq_eq_false_iff_ne.2 hl0
      have e1 : (li != 0) = true := bne_iff_ne.2 hl0
      obtain ⟨q, hq⟩ : ∃ q : Nat, li = (q : Int) := ⟨li.toNat, by omega⟩
      have HBLK := Lib.hid (txBlock_at li w1)
      have hblk : blockN li = ((1080 + 8 * q : Nat) : Int) := by unfold blockN; rw [if_neg (by omega)]; omega
      rw [hblk] at HBLK
      have HROW : Hid (∀ wx, Keeps [] w wx → Calls Tryd.prog 32 #[.pointer (some ⟨b, 0, none⟩), .int .i64 ((1080 + 8 * q : Nat) : Int)] wx fun e w' => e = .returned (.agg (u64s (rowL (putAll B ps) (1080 + 8 * q))).toArray) ∧ Keeps [] wx w') := fun wx hk => rowAt_at (HS.out.keep hk (by simp) (by simp)) (1080 + 8 * q) (by omega)
      have HALL2 : Hid (numAll (putAll B ps) r = (r.drop 2).take 5 ++ rowL (putAll B ps) (1080 + 8 * q)) := by
        have e := HALL.out
        rw [if_neg hl0, hq, Int.toNat_natCast] at e
        exact e
      have HRL := Lib.hid (rowL_len (putAll B ps) (1080 + 8 * q))
      have hs5 := slice_five13 (w.heap.size + 1 + 1)
      have hs88 := slice_all8
      clear HALL hblk hq
      generalize rowL (putAll B ps) (1080 + 8 * q) = row at *
      generalize ((1080 + 8 * q : Nat) : Int) = p at *
      generalize hz8 : (u64s (List.replicate 8 0)).toArray = Z8 at *
      go_enter Tryd.func33, Tryd.ntmps33
      go_wp2_with fail
      refine wp_region_last (l := [_, _]) (o := _) (S := fun wx => wx = (((w.alloc (.cells Z 63)).alloc (.cells ZN 22)).alloc (.cells ZR 93)).drew) (by kernel_rfl) rfl (by kernel_rfl) (fun d _ _ _ _ h => by cases d <;> exact h) rfl (by kernel_rfl) (by kernel_rfl) ?_
      repeat (refine EachList.cons ?_ (EachIf.val rfl ?h) ?_; (case h => (intro wx hx; go_simp; rfl)); simp only [Act.put, List.setIfInBounds_toArray, List.set_cons_zero, List.set_cons_succ])
      refine EachList.done fun wx hx => ?_
      subst hx
      refine wpList_copy_any rfl (.tmp 13) (.tmp 14) 44 44 rfl _ _ rfl rfl (HCP.out _) ?_
      go_wp2_with fail
      refine HBLK.out.mono ?_; rintro e w' ⟨rfl, rfl⟩
      go_wp2_with fail
      refine (HROW.out _ HK1.out).mono ?_; rintro e w2 ⟨rfl, hk2⟩
      obtain ⟨w3, hst, hb9, hk3⟩ := store_whole (P := Tryd.prog) (ty := 63) (cs := u64s row) (by rw [u64s_len, HRL.out]; exact size_r8) (Blk.new w2 Z8 63) (by rw [← hz8]; simp [u64s_len, HRL.out]) (u64s_one _)
      have hlt2 : w.heap.size + 1 + 1 < w2.heap.size := Nat.lt_of_lt_of_le HBC.out.lt hk2.size
      have hkA : Keeps [] w (w3.drew) := ((((HK1.out.trans' hk2).alloc (.cells Z8 63)).trans hk3 (by intro x hx; rw [List.mem_singleton] at hx; have := HK1.out.size; have := hk2.size; omega))).drew
      have hbA := ((HBC.out.keep hk2 (by simp)).alloc (.cells Z8 63)).keep hk3 (by rw [List.mem_singleton]; omega)
      have hbZ := ((HB1.out.keep hk2 (by simp)).alloc (.cells Z8 63)).keep hk3 (by rw [List.mem_singleton]; omega)
      obtain ⟨v4, wA, hcp2, hbA2, hkA2⟩ := copy_words (o := 5) (n := 8) (cap := 8) (so := 0) (m := 8) (mc := 8) hbA.drew hb9.drew (by omega) (by simp [hr]) (by have := HRL.out; omega)
      have hsecond : ((r.drop 2).take 5 ++ List.replicate 8 (0 : Int)).take 5 ++ (row.drop 0).take 8 ++ ((r.drop 2).take 5 ++ List.replicate 8 (0 : Int)).drop (5 + 8) = numAll (putAll B ps) r := by
        rw [HALL2.out]
        exact second_cells _ _ (by simp [hr]) HRL.out
      rw [hsecond] at hbA2
      have HBA := Lib.hid hbA2
      have HBZ := Lib.hid (hbZ.drew.keep hkA2 (by rw [List.mem_singleton]; omega))
      have HKA := Lib.hid (hkA.trans hkA2 (by intro x hx; rw [List.mem_singleton] at hx; omega))
      have HST := Lib.hid hst
      have HCP2 := Lib.hid hcp2
      clear hst hb9 hk3 hlt2 hkA hbA hbZ hcp2 hbA2 hkA2 hsecond hk2
      go_wp2_with ((with_reducible show wpList _ _ _ (⟨_, .store 63 (.tmp 9) (.tmp 27), _, _, _, _⟩ :: _) _ _); refine wpList_store_any rfl 63 (.tmp 9) (.tmp 27) rfl _ rfl _ rfl _ HST.out ?_)
      refine wp_region_last (l := [_, _]) (o := _) (S := fun wx => wx = w3.drew) (by kernel_rfl) rfl (by kernel_rfl) (fun d _ _ _ _ h => by cases d <;> exact h) rfl (by kernel_rfl) (by kernel_rfl) ?_
      repeat (refine EachList.cons ?_ (EachIf.val rfl ?h) ?_; (case h => (intro wx hx; go_simp; rfl)); simp only [Act.put, List.setIfInBounds_toArray, List.set_cons_zero, List.set_cons_succ])
      refine EachList.done fun wx hx => ?_
      subst hx
      refine wpList_copy_any rfl (.tmp 28) (.tmp 29) 44 44 rfl _ _ rfl rfl (HCP2.out _) ?_
      have HBL0 := Lib.hid (Blk.new wA ZN 22)
      have HL93 := Lib.hid (load_r13 (HBA.out.alloc (.cells ZN 22)) HAL.out)
      have HU : Hid (∀ k, k < 13 → (u64s (numAll (putAll B ps) r)).toArray[k]? = some (.int .u64 ((numAll (putAll B ps) r).getD k 0))) := fun k hk => by rw [List.getElem?_toArray, u64s_get (by rw [HAL.out]; exact hk)]
      have HWA : Hid (w.heap.size + 1 + 1 < wA.heap.size) := HBA.out.lt
      clear HBA
      generalize hal : numAll (putAll B ps) r = al at *
      have HALE := Lib.hid hal
      clear hal
      generalize (u64s al).toArray = UA at *
      go_wp2_with ((with_reducible show wpList _ _ _ (⟨_, .load 93 (.tmp 7), _, _, _, _⟩ :: _) _ _); refine wpList_load_any rfl 93 (.tmp 7) rfl _ rfl _ HL93.out ?_)
      clear hzr HL93
      go_loopg [32] 13 (fun gh s32 wx => ∃ k : Nat, k + gh = 13 ∧ s32 = .int .i64 (k : Int) ∧ Hid (Blk wx wA.heap.size (zs (fillTo 0 al k)).toArray 22 ∧ Blk wx (w.heap.size + 1) ZN 22 ∧ (∀ i, i < k → al.getD i 0 < 256) ∧ Keeps [] w wx))
      case atStart =>
        refine ⟨0, by omega, rfl, ?_, HBZ.out.alloc _, by simp, HKA.out.alloc _⟩
        rw [fillTo_zero, HAL.out, HZZ.out]
        exact HBL0.out
      case round =>
        clear HBZ HKA HBL0
        obtain ⟨k, hk, rfl, HP⟩ := hrel
        obtain ⟨hb1, hb2, hpre, hkp⟩ := HP.out
        cases gk with
        | zero =>
          obtain rfl : k = 13 := by omega
          rw [show fillTo 0 al 13 = al by rw [← HAL.out]; exact fillTo_all 0 al] at hb1
          have hnA : wA.heap.size ∉ [w.heap.size + 1] := by have := HWA.out; rw [List.mem_singleton]; omega
          have HLB := Lib.hid (fun (wx : World) (hk : Keeps [w.heap.size + 1] wr wx) => load_n13 (off := 0) (hb1.keep hk hnA) HAL.out (fun k hk => by rw [Nat.zero_add, List.getElem?_toArray, zs_get (by rw [HAL.out]; exact hk)]))
          have HSB : Hid (∀ wx, Blk wx (w.heap.size + 1) ZN 22 → ∃ w', (storeVar 22 ⟨w.heap.size + 1, 0, none⟩ (.agg (zs al).toArray)).run Tryd.prog wx = .ok () w' ∧ Blk w' (w.heap.size + 1) (zs al).toArray 22 ∧ Keeps [w.heap.size + 1] wx w') := fun wx hb => by
            have hz := HZZ.out
            exact store_whole (P := Tryd.prog) (ty := 22) (cs := zs al) (by rw [zs_len, HAL.out]; exact size_n13) hb (by rw [← hz, zs_len, HAL.out]; simp [zs_len]) (zs_one _)
          have HLF : Hid (∀ wx, Blk wx (w.heap.size + 1) (zs al).toArray 22 → (loadVar 22 ⟨w.heap.size + 1, 0, none⟩).run Tryd.prog wx = .ok (.agg (zs al).toArray) wx) := fun wx hb => load_n13 (off := 0) hb HAL.out (fun k hk => by rw [Nat.zero_add, List.getElem?_toArray, zs_get (by rw [HAL.out]; exact hk)])
          have HKP := Lib.hid hkp
          have HBN := Lib.hid hb2
          have hwn1 : w.heap.size ≤ w.heap.size + 1 := by omega
          have HRE := Lib.hid (rest_at al HAL.out)
          have HEQ8 := Lib.hid (fun wx => eq_n8 (a := al.drop 5) (b := List.replicate 8 0) (by simp [HAL.out]) rfl wx)
          have hg8 := guard_n8
          have hz8v := zero_n8
          obtain ⟨t, ht⟩ : ∃ t, decide (al.drop 5 = List.replicate 8 0) = t := ⟨_, rfl⟩
          have HF : Hid (NumOk (putAll B ps) r ↔ t = false) := by
            show _ ↔ _
            rw [HNO.out, ← ht, decide_eq_false_iff_not]
            exact ⟨fun h => h.2.2.resolve_left hl0, fun h => ⟨by omega, hpre, .inr h⟩⟩
          rw [ht] at HEQ8
          have heq8 := HEQ8.out
          generalize (zs (al.drop 5)).toArray = ZD at *
          generalize (zs (List.replicate 8 0)).toArray = ZE at *
          clear ht HEQ8
          clear HP hb1 hb2 hpre hkp hk HNO HBC HB0 HB1 HK1 hnA
          generalize hza : (zs al).toArray = ZA at *
          have HZA := Lib.hid hza
          clear hza
          go_wp2_with fail
          refine wp_region_store (l := [_, _, _, _, _, _, _, _, _, _, _]) (f := _) (mid := [_]) (o := _) (tl := []) (S := fun b wx => Keeps [w.heap.size + 1] wr wx ∧ Blk wx (w.heap.size + 1) (cond b ZA ZN) 22) (by kernel_rfl) rfl (by kernel_rfl) (fun d _ _ _ _ h => by cases d <;> exact h) ⟨(Keeps.refl _ _).drew, HBN.out.drew⟩ (by kernel_rfl) (by kernel_rfl) ?_
          repeat (first
            | (refine EachListB.cons (.agg ZA) (fun b => EachIf.load rfl 22 (.tmp 10) rfl _ rfl fun wx hx => HLB.out wx hx.1) ?_; simp only [Act.put, List.setIfInBounds_toArray, List.set_cons_zero, List.set_cons_succ])
            | (refine EachListB.cons (.agg ZD) (fun b => EachIf.call rfl 46 #[.agg ZA] ?he ?h) ?_; (case he => (intro wz; go_simp)); (case h => exact fun wx hx => (HRE.out wx).mono fun e w' he => ⟨he.1, hx.1.trans he.2 (by simp), hx.2.keep he.2 (by simp)⟩); simp only [Act.put, List.setIfInBounds_toArray, List.set_cons_zero, List.set_cons_succ])
            | (refine EachListB.cons undef (fun b => EachIf.off rfl) ?_; simp only [Act.put, List.setIfInBounds_toArray, List.set_cons_zero, List.set_cons_succ])
            | (refine EachListB.cons ?_ (fun b => EachIf.val rfl ?h) ?_; (case h => (intro wx hx; clear hx; go_simp; rfl)); simp only [Act.put, List.setIfInBounds_toArray, List.set_cons_zero, List.set_cons_succ]))
          refine EachListB.done ⟨undef, Each2.store rfl 22 (.tmp 4) (.tmp 44) rfl _ rfl _ rfl (fun wx hx => ?_), ?_⟩
          · obtain ⟨w', h1, h2, h3⟩ := HSB.out wx hx.2
            exact ⟨w', h1, hx.1.trans' h3, h2⟩
          refine EachList.cons ?_ (EachIf.val rfl ?h) ?_
          case h => intro wx hx; clear hx; go_simp; rfl
          simp only [Act.put, List.setIfInBounds_toArray, List.set_cons_zero, List.set_cons_succ]
          refine EachList.done fun wx hx => ?_
          have HLD6 := Lib.hid (HLF.out wx hx.2)
          have HK6 := Lib.hid (HKP.out.trans hx.1 (by intro x hx; rw [List.mem_singleton] at hx; omega))
          clear hx
          go_wp2_with fail
          refine bodyPost_ret (results_cell3 Tryd.results33 rfl HLD6.out rfl rfl) rfl ⟨al, li, !t, ?_, fun h => ⟨HF.out.2 (by simpa using h), HALE.out.symm, HZL.out.symm⟩, fun h hn => ?_, HAL.out, HK6.out⟩
          · rw [HZA.out]
            show Ending.returned (.tuple #[.agg ZA, .int .i64 (IntKind.i64.wrap li), .bool !t]) = _
            rw [HWLI.out]
          · have := HF.out.1 hn
            rw [this] at h
            cases h
        | succ gg =>
          have hk13 : k < 13 := by omega
          have hlt : (k : Int) < 13 := by omega
          have hk0 : (0 : Int) ≤ (k : Int) := by omega
          have hix := index_r13 hk13 (HU.out k hk13)
          have hx0 := HA64.out k
          by_cases hbx : 256 ≤ al.getD k 0
          · have HF : Hid (¬ NumOk (putAll B ps) r) := fun h => by have := (HNO.out.1 h).2.1 k hk13; omega
            obtain ⟨w5, hst5, hld5, hk5⟩ := HSZ.out wr hb2
            have HST5 := Lib.hid hst5
            have HLD5 := Lib.hid hld5
            have HK5 := Lib.hid (hkp.trans hk5 (by simp))
            clear hst5 hld5 hk5 HP hb1 hb2 hpre hkp hk
            generalize al.getD k 0 = x at *
            go_wp2_with ((with_reducible show wpList _ _ _ (⟨_, .store 22 (.tmp 4) (.tmp 38), _, _, _, _⟩ :: _) _ _); refine wpList_store_any rfl 22 (.tmp 4) (.tmp 38) rfl _ rfl _ rfl _ HST5.out ?_)
            refine bodyPost_ret (results_cell3 Tryd.results33 rfl HLD5.out rfl rfl) rfl ⟨List.replicate 13 0, 0, false, ?_, fun h => (by cases h), fun _ => HF.out, by simp, HK5.out⟩
            rw [HZZ.out]
            rfl
          · have hwx : wrap64 (al.getD k 0) = al.getD k 0 := by unfold wrap64; omega
            have hcell : wr.cell? ⟨wA.heap.size, k, none⟩ = some (.int .i64 ((fillTo 0 al k).getD k 0)) := by
              rw [hb1.cell, List.getElem?_toArray, zs_get (by rw [fillTo_len _ _ _ (by rw [HAL.out]; omega), HAL.out]; exact hk13)]
            have hfz : wr.frozen? ⟨wA.heap.size, k, none⟩ = false := hb1.frozen k
            have HR : Hid (Blk (wr.setCell ⟨wA.heap.size, k, none⟩ (.int .i64 (al.getD k 0))) wA.heap.size (zs (fillTo 0 al (k + 1))).toArray 22 ∧ Blk (wr.setCell ⟨wA.heap.size, k, none⟩ (.int .i64 (al.getD k 0))) (w.heap.size + 1) ZN 22 ∧ (∀ i, i < k + 1 → al.getD i 0 < 256) ∧ Keeps [] w (wr.setCell ⟨wA.heap.size, k, none⟩ (.int .i64 (al.getD k 0)))) := by
              have hlA := HWA.out
              refine ⟨?_, hb2.other (by show w.heap.size + 1 ≠ wA.heap.size; omega) _, fun i hi => ?_, hkp.setCell (.inr (by show w.heap.size ≤ wA.heap.size; omega)) _⟩
              · have := hb1.set k (.int .i64 (al.getD k 0))
                rw [List.setIfInBounds_toArray, zs_set, fillTo_succ 0 al k (by rw [HAL.out]; exact hk13) (al.getD k 0) (by simp [List.getD_eq_getElem?_getD, show k < al.length by rw [HAL.out]; exact hk13])] at this
                exact this
              · by_cases e : i = k
                · subst e; omega
                · exact hpre i (by omega)
            clear HP hb1 hb2 hpre hkp
            generalize al.getD k 0 = x at *
            generalize (fillTo 0 al k).getD k 0 = y at *
            go_wp2_with fail
            go_roundg gg
            case measure => omega
            case rel => exact ⟨k + 1, by omega, by go_num, HR.out⟩

end Go.Proofs.YthpkoknehemdiaaDoor

namespace Go.Proofs.YthpkoknehemdiaaDoor
open Go.RowKit

/-- Name as far as the word of the bytes: what is known there. -/
structure NameMid (W : Nat) (w1 w2 : World) : Prop where
  st : (storeVar 100 ⟨w1.heap.size, 0, none⟩ (.agg (u8s (byts W)).toArray)).run Tryd.prog (w1.alloc (.cells (u8s (List.replicate 8 0)).toArray 100)) = .ok () w2
  c7 : w2.cell? ⟨w1.heap.size, 7, none⟩ = some (.int .u8 (byt W 7 : Nat))
  conv : byt W 7 ≤ 7 → (convert 101 9 (.slice (some ⟨w1.heap.size, 0, none⟩) (byt W 7) 8)).run Tryd.prog w2 = .ok (.string (strN ((byts W).take (byt W 7)))) w2
  keeps : Keeps [] w1 w2

theorem nameMid (W : Nat) (w1 : World) : ∃ w2, NameMid W w1 w2 := by
  obtain ⟨w2, hs, hb, hk⟩ := store_bytes (l := List.replicate 8 0) (by simp) (byts_len W) (Blk.new w1 (u8s (List.replicate 8 0)).toArray 100)
  have hc : ∀ j, j < 8 → w2.cell? ⟨w1.heap.size, j, none⟩ = some (.int .u8 (byt W j : Nat)) := fun j hj => by
    rw [hb.cell, ← byts_get W j hj]
    simpa using u8s_get (l := byts W) (j := j) (by rw [byts_len]; omega)
  refine ⟨w2, hs, hc 7 (by omega), fun h7 => ?_, ((Keeps.refl [] w1).alloc _).trans hk (by simp)⟩
  have hl : (((byts W).take (byt W 7)).map UInt8.ofNat).length = byt W 7 := by simp [byts_len]; omega
  have := run_convert_bytes_back (P := Tryd.prog) w2 101 9 5 ⟨w1.heap.size, 0, none⟩ 8 (((byts W).take (byt W 7)).map UInt8.ofNat) Tryd.underlying101 Tryd.underlying5 Tryd.underlying9 fun j hj => by
    rw [hl] at hj
    have hadd : (⟨w1.heap.size, 0, none⟩ : Addr).add j = ⟨w1.heap.size, j, none⟩ := by unfold Addr.add; split <;> simp_all
    rw [hadd, hc j (by omega)]
    have hb := byt_lt W j
    simp [byts, Nat.mod_eq_of_lt hb]
  rw [hl] at this
  exact this

theorem slice_bytes (b n : Nat) (hn : n ≤ 7) (w : World) : (Instr.sliceAt 100 (.pointer (some ⟨b, 0, none⟩)) none (some (.int .i64 (n : Int))) none).run Tryd.prog w = .ok (.slice (some ⟨b, 0, none⟩) n 8) w := by
  have hc : n = 0 ∨ n = 1 ∨ n = 2 ∨ n = 3 ∨ n = 4 ∨ n = 5 ∨ n = 6 ∨ n = 7 := by omega
  rcases hc with rfl | rfl | rfl | rfl | rfl | rfl | rfl | rfl <;> (show Sem.run _ _ _ = _; kernel_rfl)

set_option maxHeartbeats 1000000 in
theorem name_at (W : Nat) (w : World) :
    Calls Tryd.prog 51 #[.int .u64 (W : Int)] w fun e w' => e = .returned (.tuple #[.string (strN ((nameN W).getD [])), .bool (nameN W).isSome]) ∧ Keeps [] w w' := by
  have HB := Lib.hid (bytes_at W w)
  have hlt := byt_lt W 7
  go_enter Tryd.func51, Tryd.ntmps51
  go_wp2_with fail
  refine HB.out.mono ?_
  rintro e w1 ⟨rfl, hk1⟩
  obtain ⟨w2, hm⟩ := nameMid W w1
  have c7 := hm.c7
  have HM := Lib.hid hm
  have HK := Lib.hid (hk1.trans hm.keeps (by simp))
  clear hm hk1 HB
  by_cases h7 : byt W 7 ≤ 7
  · have hcv := HM.out.conv h7
    have hwl : ∀ c ∈ (byts W).take (byt W 7), c < 256 := take_lt (byts_lt W) _
    have HW := word_at (strN ((byts W).take (byt W 7))) (by rw [strN_size]; simp [byts_len]; omega) w2
    rw [bl_strN hwl] at HW
    unfold wordV at HW
    have HN : Hid (nameN W = if goodN ((byts W).take (byt W 7)) = true ∧ wordN ((byts W).take (byt W 7)) = W then some ((byts W).take (byt W 7)) else none) := by
      show nameN W = _
      unfold nameN
      simp only [h7, true_and]
    generalize (byts W).take (byt W 7) = l at *
    clear hwl
    generalize byt W 7 = n at *
    have HW := Lib.hid HW
    have hsl := fun wz => slice_bytes w1.heap.size n h7 wz
    have h7d : decide (7 < (n : Int)) = false := by simp; omega
    cases hg : goodN l
    · rw [hg, if_neg (by simp)] at HW
      rw [hg, if_neg (by simp)] at HN
      clear hg
      go_wp2_with (first | ((with_reducible show wpList _ _ _ (⟨_, .store 100 (.tmp 4) (.tmp 10), _, _, _, _⟩ :: _) _ _); refine wpList_store_any rfl 100 (.tmp 4) (.tmp 10) rfl _ rfl _ rfl _ HM.out.st ?_) | (go_at_call 48; refine HW.out.mono ?_; rintro e w3 ⟨rfl, hk3⟩; have HK3 := Lib.hid hk3; clear hk3))
      go_ret2
      exact ⟨by rw [HN.out]; rfl, HK.out.trans HK3.out (by simp)⟩
    · rw [hg, if_pos rfl] at HW
      rw [hg] at HN
      clear hg
      by_cases hw : wordN l = W
      · rw [if_pos ⟨rfl, hw⟩] at HN
        rw [hw] at HW
        clear hw
        go_wp2_with (first | ((with_reducible show wpList _ _ _ (⟨_, .store 100 (.tmp 4) (.tmp 10), _, _, _, _⟩ :: _) _ _); refine wpList_store_any rfl 100 (.tmp 4) (.tmp 10) rfl _ rfl _ rfl _ HM.out.st ?_) | (go_at_call 48; refine HW.out.mono ?_; rintro e w3 ⟨rfl, hk3⟩; have HK3 := Lib.hid hk3; clear hk3))
        go_ret2
        exact ⟨by rw [HN.out]; rfl, HK.out.trans HK3.out (by simp)⟩
      · rw [if_neg (fun h => hw h.2)] at HN
        have e1 : ((wordN l : Int) != (W : Int)) = true := by simp; omega
        clear hw
        go_wp2_with (first | ((with_reducible show wpList _ _ _ (⟨_, .store 100 (.tmp 4) (.tmp 10), _, _, _, _⟩ :: _) _ _); refine wpList_store_any rfl 100 (.tmp 4) (.tmp 10) rfl _ rfl _ rfl _ HM.out.st ?_) | (go_at_call 48; refine HW.out.mono ?_; rintro e w3 ⟨rfl, hk3⟩; have HK3 := Lib.hid hk3; clear hk3))
        go_ret2
        exact ⟨by rw [HN.out]; rfl, HK.out.trans HK3.out (by simp)⟩
  · have HN : Hid (nameN W = none) := by
      show nameN W = none
      unfold nameN
      rw [if_neg (fun h => h7 h.1)]
    generalize byt W 7 = n at *
    go_wp2_with (first | ((with_reducible show wpList _ _ _ (⟨_, .store 100 (.tmp 4) (.tmp 10), _, _, _, _⟩ :: _) _ _); refine wpList_store_any rfl 100 (.tmp 4) (.tmp 10) rfl _ rfl _ rfl _ HM.out.st ?_))
    go_ret2
    exact ⟨by rw [HN.out]; rfl, HK.out⟩

end Go.Proofs.YthpkoknehemdiaaDoor
