/-
  Layer 5 (palloc): the bits of a word as plain numbers: how many are set, which, and how the counting of math/bits comes to it. Nothing of the program is named here.
-/
import Derived.Lib.TrailingZeros
namespace Go.Proofs.YtpndogcdmoeemaaDoor

/-- How many of the lowest n bits are set. -/
def ones (n x : Nat) : Nat := ((List.range n).filter fun j => x.testBit j).length

/-- Which of 64 bits are set, rising. -/
def bitL (x : Nat) : List Nat := (List.range 64).filter fun j => x.testBit j

theorem ones_bitL (x : Nat) : ones 64 x = (bitL x).length := rfl

theorem testBit_byte (b a j : Nat) (hb : b < 256) : (b + 256 * a).testBit j = if j < 8 then b.testBit j else a.testBit (j - 8) := by
  have := Nat.testBit_two_pow_mul_add a (b := b) (i := 8) (by simpa using hb) j
  rw [Nat.add_comm]
  simpa using this

theorem and_byte (b m a M : Nat) (hb : b < 256) (hm : m < 256) : (b + 256 * a) &&& (m + 256 * M) = (b &&& m) + 256 * (a &&& M) := by
  apply Nat.eq_of_testBit_eq
  intro j
  have hbm : b &&& m < 256 := Nat.lt_of_le_of_lt Nat.and_le_left hb
  rw [Nat.testBit_and, testBit_byte b a j hb, testBit_byte m M j hm, testBit_byte _ _ j hbm]
  split <;> simp [Nat.testBit_and]

theorem filter_range_add (p : Nat → Bool) (m n : Nat) : (List.range (m + n)).filter p = (List.range m).filter p ++ ((List.range n).filter fun j => p (m + j)).map (m + ·) := by
  rw [List.range_add, List.filter_append, List.filter_map]
  rfl

theorem ones_byte (n b a : Nat) (hb : b < 256) : ones (8 + n) (b + 256 * a) = ones 8 b + ones n a := by
  unfold ones
  rw [filter_range_add, List.length_append, List.length_map]
  congr 1
  · congr 1
    apply List.filter_congr
    intro j hj
    rw [List.mem_range] at hj
    rw [testBit_byte b a j hb, if_pos hj]
  · congr 1
    apply List.filter_congr
    intro j _
    rw [testBit_byte b a _ hb, if_neg (by omega), Nat.add_sub_cancel_left]

/-- The byte m, n times. -/
def rep (m : Nat) : Nat → Nat
  | 0 => 0
  | n + 1 => m + 256 * rep m n

def q1 (b : Nat) : Nat := (b / 2 &&& 85) + (b &&& 85)
def q2 (b : Nat) : Nat := (b / 4 &&& 51) + (b &&& 51)
def q3 (b : Nat) : Nat := (b / 16 + b) % 16

def st1 (n x : Nat) : Nat := (x / 2 &&& rep 85 n) + (x &&& rep 85 n)
def st2 (n x : Nat) : Nat := (x / 4 &&& rep 51 n) + (x &&& rep 51 n)
def st3 (n x : Nat) : Nat := (x / 16 + x) &&& rep 15 n

theorem q1_carry : ∀ b : Fin 256, ∀ c : Fin 2, (b.val / 2 + 128 * c.val) &&& 85 = b.val / 2 &&& 85 := by decide +kernel
theorem q2_carry : ∀ b : Fin 256, ∀ c : Fin 4, (b.val / 4 + 64 * c.val) &&& 51 = b.val / 4 &&& 51 := by decide +kernel
theorem q_all : ∀ b : Fin 256, q1 b.val < 256 ∧ q2 (q1 b.val) < 256 ∧ q2 (q1 b.val) / 16 ≤ 4 ∧ q2 (q1 b.val) % 16 ≤ 4 ∧ q3 (q2 (q1 b.val)) = ones 8 b.val ∧ ones 8 b.val ≤ 8 := by decide +kernel

theorem st1_succ (n b a : Nat) (hb : b < 256) : st1 (n + 1) (b + 256 * a) = q1 b + 256 * st1 n a := by
  unfold st1 q1
  have e : (b + 256 * a) / 2 = (b / 2 + 128 * (a % 2)) + 256 * (a / 2) := by omega
  have c := q1_carry ⟨b, hb⟩ ⟨a % 2, by omega⟩
  simp only at c
  rw [e, rep, and_byte _ _ _ _ (by omega) (by omega), and_byte _ _ _ _ hb (by omega), c]
  omega

theorem st2_succ (n b a : Nat) (hb : b < 256) : st2 (n + 1) (b + 256 * a) = q2 b + 256 * st2 n a := by
  unfold st2 q2
  have e : (b + 256 * a) / 4 = (b / 4 + 64 * (a % 4)) + 256 * (a / 4) := by omega
  have c := q2_carry ⟨b, hb⟩ ⟨a % 4, by omega⟩
  simp only at c
  rw [e, rep, and_byte _ _ _ _ (by omega) (by omega), and_byte _ _ _ _ hb (by omega), c]
  omega

theorem and15 (x : Nat) : x &&& 15 = x % 16 := by
  have := Nat.and_two_pow_sub_one_eq_mod x 4
  simpa using this

theorem st3_succ (n b a : Nat) (h1 : b / 16 ≤ 4) (h2 : b % 16 ≤ 4) (h3 : a % 16 ≤ 4) : st3 (n + 1) (b + 256 * a) = q3 b + 256 * st3 n a := by
  unfold st3 q3
  have e : (b + 256 * a) / 16 + (b + 256 * a) = (b / 16 + b + 16 * (a % 16)) + 256 * (a / 16 + a) := by omega
  rw [e, rep, and_byte _ _ _ _ (by omega) (by omega), and15]
  omega

theorem st1_zero : st1 0 0 = 0 := rfl
theorem st2_zero : st2 0 0 = 0 := rfl
theorem st3_zero : st3 0 0 = 0 := rfl

/-- Eight bytes. -/
def by8 (a b c d e f g h : Nat) : Nat := a + 256 * (b + 256 * (c + 256 * (d + 256 * (e + 256 * (f + 256 * (g + 256 * (h + 256 * 0)))))))

theorem by8_split (x : Nat) (hx : x < 18446744073709551616) : ∃ a b c d e f g h, (a < 256 ∧ b < 256 ∧ c < 256 ∧ d < 256 ∧ e < 256 ∧ f < 256 ∧ g < 256 ∧ h < 256) ∧ x = by8 a b c d e f g h := by
  refine ⟨x % 256, x / 256 % 256, x / 65536 % 256, x / 16777216 % 256, x / 4294967296 % 256, x / 1099511627776 % 256, x / 281474976710656 % 256, x / 72057594037927936, ?_, ?_⟩
  · omega
  · unfold by8; omega

theorem step_lt {a y K : Nat} (ha : a < 256) (hy : y < K) : a + 256 * y < 256 * K := by omega
theorem step_le {a y K : Nat} (ha : a ≤ 68) (hy : y ≤ K) : a + 256 * y ≤ 68 + 256 * K := by omega

theorem by8_lt {a b c d e f g h : Nat} (ha : a < 256) (hb : b < 256) (hc : c < 256) (hd : d < 256) (he : e < 256) (hf : f < 256) (hg : g < 256) (hh : h < 256) : by8 a b c d e f g h < 18446744073709551616 :=
  Nat.lt_of_lt_of_le (step_lt ha (step_lt hb (step_lt hc (step_lt hd (step_lt he (step_lt hf (step_lt hg (step_lt hh (Nat.zero_lt_one))))))))) (by decide)

theorem by8_le {a b c d e f g h : Nat} (ha : a ≤ 68) (hb : b ≤ 68) (hc : c ≤ 68) (hd : d ≤ 68) (he : e ≤ 68) (hf : f ≤ 68) (hg : g ≤ 68) (hh : h ≤ 68) : by8 a b c d e f g h ≤ 4919131752989213764 :=
  Nat.le_trans (step_le ha (step_le hb (step_le hc (step_le hd (step_le he (step_le hf (step_le hg (step_le hh (Nat.le_refl 0))))))))) (by decide)

set_option maxHeartbeats 2000000 in
theorem by8_sum (a3 b3 c3 d3 e3 f3 g3 h3 : Nat) (A6 : a3 ≤ 8) (B6 : b3 ≤ 8) (C6 : c3 ≤ 8) (D6 : d3 ≤ 8) (E6 : e3 ≤ 8) (F6 : f3 ≤ 8) (G6 : g3 ≤ 8) (H6 : h3 ≤ 8) : ∃ x4 x5 x6, by8 a3 b3 c3 d3 e3 f3 g3 h3 + by8 a3 b3 c3 d3 e3 f3 g3 h3 / 256 = x4 ∧ x4 + x4 / 65536 = x5 ∧ x5 + x5 / 4294967296 = x6 ∧
    x4 < 9223372036854775808 ∧ x5 < 9223372036854775808 ∧ x6 < 9223372036854775808 ∧ x6 % 128 = a3 + (b3 + (c3 + (d3 + (e3 + (f3 + (g3 + (h3 + 0))))))) := by
  refine ⟨_, _, _, rfl, rfl, rfl, ?_⟩
  unfold by8
  have k3 : (a3 + 256 * (b3 + 256 * (c3 + 256 * (d3 + 256 * (e3 + 256 * (f3 + 256 * (g3 + 256 * (h3 + 256 * 0)))))))) / 256 = b3 + 256 * (c3 + 256 * (d3 + 256 * (e3 + 256 * (f3 + 256 * (g3 + 256 * h3))))) := by omega
  rw [k3]
  clear k3
  generalize hy : a3 + 256 * (b3 + 256 * (c3 + 256 * (d3 + 256 * (e3 + 256 * (f3 + 256 * (g3 + 256 * (h3 + 256 * 0))))))) + (b3 + 256 * (c3 + 256 * (d3 + 256 * (e3 + 256 * (f3 + 256 * (g3 + 256 * h3)))))) = y
  have hy' : y = (a3 + b3 + 256 * (b3 + c3)) + 65536 * ((c3 + d3 + 256 * (d3 + e3)) + 65536 * ((e3 + f3 + 256 * (f3 + g3)) + 65536 * (g3 + h3 + 256 * h3))) := by omega
  clear hy
  have k4 : y / 65536 = (c3 + d3 + 256 * (d3 + e3)) + 65536 * ((e3 + f3 + 256 * (f3 + g3)) + 65536 * (g3 + h3 + 256 * h3)) := by omega
  rw [k4]
  subst hy'
  clear k4
  generalize hz : a3 + b3 + 256 * (b3 + c3) + 65536 * (c3 + d3 + 256 * (d3 + e3) + 65536 * (e3 + f3 + 256 * (f3 + g3) + 65536 * (g3 + h3 + 256 * h3))) + (c3 + d3 + 256 * (d3 + e3) + 65536 * (e3 + f3 + 256 * (f3 + g3) + 65536 * (g3 + h3 + 256 * h3))) = z
  have hz' : z = (a3 + b3 + c3 + d3 + 256 * (b3 + c3 + d3 + e3) + 65536 * (c3 + d3 + e3 + f3 + 256 * (d3 + e3 + f3 + g3))) + 4294967296 * ((e3 + f3 + g3 + h3) + 256 * (f3 + g3 + h3) + 65536 * (g3 + h3 + 256 * h3)) := by omega
  clear hz
  have k5 : z / 4294967296 = (e3 + f3 + g3 + h3) + 256 * (f3 + g3 + h3) + 65536 * (g3 + h3 + 256 * h3) := by omega
  rw [k5]
  refine ⟨by omega, by omega, by omega, ?_⟩
  omega


/-- What the counting comes to: each of its six steps, and the sum. -/
theorem count_steps (x : Nat) (hx : x < 18446744073709551616) : ∃ x1 x2 x3 x4 x5 x6, st1 8 x = x1 ∧ st2 8 x1 = x2 ∧ st3 8 x2 = x3 ∧ x3 + x3 / 256 = x4 ∧ x4 + x4 / 65536 = x5 ∧ x5 + x5 / 4294967296 = x6 ∧
    x1 < 18446744073709551616 ∧ x2 < 18446744073709551616 ∧ x2 / 16 + x2 < 18446744073709551616 ∧ x3 < 18446744073709551616 ∧ x4 < 9223372036854775808 ∧ x5 < 9223372036854775808 ∧ x6 < 9223372036854775808 ∧ x6 % 128 = ones 64 x := by
  obtain ⟨a, b, c, d, e, f, g, h, ⟨ha, hb, hc, hd, he, hf, hg, hh⟩, rfl⟩ := by8_split x hx
  have A := q_all ⟨a, ha⟩; have B := q_all ⟨b, hb⟩; have C := q_all ⟨c, hc⟩; have D := q_all ⟨d, hd⟩
  have E := q_all ⟨e, he⟩; have F := q_all ⟨f, hf⟩; have G := q_all ⟨g, hg⟩; have H := q_all ⟨h, hh⟩
  simp only at A B C D E F G H
  have hs1 : st1 8 (by8 a b c d e f g h) = by8 (q1 a) (q1 b) (q1 c) (q1 d) (q1 e) (q1 f) (q1 g) (q1 h) := by
    unfold by8
    rw [st1_succ _ _ _ ha, st1_succ _ _ _ hb, st1_succ _ _ _ hc, st1_succ _ _ _ hd, st1_succ _ _ _ he, st1_succ _ _ _ hf, st1_succ _ _ _ hg, st1_succ _ _ _ hh, st1_zero]
  have hs2 : st2 8 (by8 (q1 a) (q1 b) (q1 c) (q1 d) (q1 e) (q1 f) (q1 g) (q1 h)) = by8 (q2 (q1 a)) (q2 (q1 b)) (q2 (q1 c)) (q2 (q1 d)) (q2 (q1 e)) (q2 (q1 f)) (q2 (q1 g)) (q2 (q1 h)) := by
    unfold by8
    rw [st2_succ _ _ _ A.1, st2_succ _ _ _ B.1, st2_succ _ _ _ C.1, st2_succ _ _ _ D.1, st2_succ _ _ _ E.1, st2_succ _ _ _ F.1, st2_succ _ _ _ G.1, st2_succ _ _ _ H.1, st2_zero]
  have hs3 : st3 8 (by8 (q2 (q1 a)) (q2 (q1 b)) (q2 (q1 c)) (q2 (q1 d)) (q2 (q1 e)) (q2 (q1 f)) (q2 (q1 g)) (q2 (q1 h))) = by8 (ones 8 a) (ones 8 b) (ones 8 c) (ones 8 d) (ones 8 e) (ones 8 f) (ones 8 g) (ones 8 h) := by
    unfold by8
    rw [st3_succ _ _ _ A.2.2.1 A.2.2.2.1 (by omega), st3_succ _ _ _ B.2.2.1 B.2.2.2.1 (by omega), st3_succ _ _ _ C.2.2.1 C.2.2.2.1 (by omega), st3_succ _ _ _ D.2.2.1 D.2.2.2.1 (by omega),
      st3_succ _ _ _ E.2.2.1 E.2.2.2.1 (by omega), st3_succ _ _ _ F.2.2.1 F.2.2.2.1 (by omega), st3_succ _ _ _ G.2.2.1 G.2.2.2.1 (by omega), st3_succ _ _ _ H.2.2.1 H.2.2.2.1 (by omega), st3_zero,
      A.2.2.2.2.1, B.2.2.2.2.1, C.2.2.2.2.1, D.2.2.2.2.1, E.2.2.2.2.1, F.2.2.2.2.1, G.2.2.2.2.1, H.2.2.2.2.1]
  have ho : ones 64 (by8 a b c d e f g h) = ones 8 a + (ones 8 b + (ones 8 c + (ones 8 d + (ones 8 e + (ones 8 f + (ones 8 g + (ones 8 h + 0))))))) := by
    unfold by8
    rw [show (64 : Nat) = 8 + (8 + (8 + (8 + (8 + (8 + (8 + (8 + 0))))))) from rfl, ones_byte _ _ _ ha, ones_byte _ _ _ hb, ones_byte _ _ _ hc, ones_byte _ _ _ hd, ones_byte _ _ _ he, ones_byte _ _ _ hf, ones_byte _ _ _ hg, ones_byte _ _ _ hh]
    rfl
  obtain ⟨x4, x5, x6, p4, p5, p6, b4, b5, b6, hm⟩ := by8_sum _ _ _ _ _ _ _ _ A.2.2.2.2.2 B.2.2.2.2.2 C.2.2.2.2.2 D.2.2.2.2.2 E.2.2.2.2.2 F.2.2.2.2.2 G.2.2.2.2.2 H.2.2.2.2.2
  have l2 : by8 (q2 (q1 a)) (q2 (q1 b)) (q2 (q1 c)) (q2 (q1 d)) (q2 (q1 e)) (q2 (q1 f)) (q2 (q1 g)) (q2 (q1 h)) ≤ 4919131752989213764 := by
    apply by8_le
    · have := A.2.2.1; have := A.2.2.2.1; omega
    · have := B.2.2.1; have := B.2.2.2.1; omega
    · have := C.2.2.1; have := C.2.2.2.1; omega
    · have := D.2.2.1; have := D.2.2.2.1; omega
    · have := E.2.2.1; have := E.2.2.2.1; omega
    · have := F.2.2.1; have := F.2.2.2.1; omega
    · have := G.2.2.1; have := G.2.2.2.1; omega
    · have := H.2.2.1; have := H.2.2.2.1; omega
  refine ⟨_, _, _, x4, x5, x6, hs1, hs2, hs3, p4, p5, p6, by8_lt A.1 B.1 C.1 D.1 E.1 F.1 G.1 H.1, ?_, ?_, ?_, b4, b5, b6, ?_⟩
  · clear A B C D E F G H hs1 hs2 hs3 ho p4 p5 p6 hm; omega
  · clear A B C D E F G H hs1 hs2 hs3 ho p4 p5 p6 hm; omega
  · clear A B C D E F G H hs1 hs2 hs3 ho p5 p6 hm; omega
  · rw [ho]; exact hm

end Go.Proofs.YtpndogcdmoeemaaDoor
