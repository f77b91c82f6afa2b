/-
  Layer 2 (pack): bytes of words, names and sums, plain. Nothing of the program is named here.
-/
import Derived.Laws.BitsAllLaws
namespace Go.Proofs.Ytmhcnkjmnbnldaa

/-- The k-th byte of a word, the lowest first. -/
def byt (W k : Nat) : Nat := W / 256 ^ k % 256

/-- A word's bytes. -/
def byts (W : Nat) : List Nat := (List.range 8).map (byt W)

/-- Bytes joined, the lowest first. -/
def joinN : List Nat → Nat
  | [] => 0
  | c :: l => c + 256 * joinN l

theorem byt_lt (W k : Nat) : byt W k < 256 := Nat.mod_lt _ (by decide)
theorem byts_len (W : Nat) : (byts W).length = 8 := by simp [byts]
theorem byts_get (W k : Nat) (h : k < 8) : (byts W).getD k 0 = byt W k := by simp [byts, List.getD_eq_getElem?_getD, h]
theorem byts_lt (W : Nat) : ∀ c ∈ byts W, c < 256 := by
  intro c hc
  simp only [byts, List.mem_map] at hc
  obtain ⟨k, -, rfl⟩ := hc
  exact byt_lt W k

theorem joinN_append (l m : List Nat) : joinN (l ++ m) = joinN l + 256 ^ l.length * joinN m := by
  induction l with
  | nil => simp [joinN]
  | cons c l ih => rw [List.cons_append, joinN, ih, joinN, List.length_cons, Nat.pow_succ', Nat.mul_add, Nat.mul_assoc, Nat.add_assoc]

theorem joinN_one (c : Nat) : joinN [c] = c := by simp [joinN]

theorem joinN_zeros (n : Nat) : joinN (List.replicate n 0) = 0 := by
  induction n with
  | zero => rfl
  | succ n ih => simp [List.replicate_succ, joinN, ih]

theorem joinN_lt {l : List Nat} (h : ∀ c ∈ l, c < 256) : joinN l < 256 ^ l.length := by
  induction l with
  | nil => simp [joinN]
  | cons c l ih =>
    have h1 := ih fun x hx => h x (List.mem_cons_of_mem _ hx)
    have h2 := h c List.mem_cons_self
    rw [joinN, List.length_cons, Nat.pow_succ']
    omega

theorem byt_joinN {l : List Nat} (h : ∀ c ∈ l, c < 256) : ∀ k, byt (joinN l) k = l.getD k 0 := by
  induction l with
  | nil => intro k; simp [joinN, byt]
  | cons c l ih =>
    have h2 := h c List.mem_cons_self
    intro k
    cases k with
    | zero => simp [joinN, byt]; omega
    | succ k =>
      have := ih (fun x hx => h x (List.mem_cons_of_mem _ hx)) k
      rw [List.getD_cons_succ, ← this]
      unfold byt
      rw [joinN, Nat.pow_succ', ← Nat.div_div_eq_div_mul]
      congr 2
      omega

theorem join_range (W n : Nat) : joinN ((List.range n).map (byt W)) = W % 256 ^ n := by
  induction n with
  | zero => simp [joinN, Nat.mod_one]
  | succ n ih =>
    rw [List.range_succ, List.map_append, joinN_append, ih, List.map_cons, List.map_nil, joinN_one, List.length_map, List.length_range, Nat.pow_succ, Nat.mod_mul]
    rfl

theorem joinN_byts {W : Nat} (h : W < 18446744073709551616) : joinN (byts W) = W := by
  rw [byts, join_range]; exact Nat.mod_eq_of_lt (by simpa using h)

theorem joinN_take_succ (l : List Nat) (k : Nat) (h : k < l.length) : joinN (l.take (k + 1)) = joinN (l.take k) + l.getD k 0 * 256 ^ k := by
  rw [List.take_succ_eq_append_getElem h, joinN_append, joinN_one, List.length_take, Nat.min_eq_left (by omega), Nat.mul_comm]
  simp [List.getD_eq_getElem?_getD, h]

theorem take_lt {l : List Nat} (h : ∀ c ∈ l, c < 256) (k : Nat) : ∀ c ∈ l.take k, c < 256 := fun c hc => h c (List.mem_of_mem_take hc)

/-- A byte that a name may have. -/
def okByte (c : Nat) : Bool := decide (33 ≤ c) && (decide (c ≤ 126) && (c != 47))

/-- A name? -/
def goodN (l : List Nat) : Bool := decide (1 ≤ l.length) && decide (l.length ≤ 7) && (l != [46]) && (l != [46, 46]) && l.all okByte

/-- A name's word. -/
def wordN (l : List Nat) : Nat := joinN l + 72057594037927936 * l.length

/-- The eight bytes of a name's word. -/
def padN (l : List Nat) : List Nat := l ++ List.replicate (7 - l.length) 0 ++ [l.length]

theorem goodN_len {l : List Nat} (h : goodN l = true) : 1 ≤ l.length ∧ l.length ≤ 7 := by simp [goodN] at h; omega

theorem padN_len {l : List Nat} (h : l.length ≤ 7) : (padN l).length = 8 := by simp [padN]; omega

theorem padN_lt {l : List Nat} (hl : l.length ≤ 7) (h : ∀ c ∈ l, c < 256) : ∀ c ∈ padN l, c < 256 := by
  intro c hc
  simp only [padN, List.mem_append, List.mem_replicate, List.mem_singleton] at hc
  rcases hc with (hc | ⟨-, rfl⟩) | rfl
  · exact h c hc
  · omega
  · omega

theorem joinN_padN {l : List Nat} (h : l.length ≤ 7) : joinN (padN l) = wordN l := by
  rw [padN, joinN_append, joinN_append, joinN_zeros, joinN_one, List.length_append, List.length_replicate, show l.length + (7 - l.length) = 7 by omega, wordN]
  rfl

theorem wordN_lt {l : List Nat} (hl : l.length ≤ 7) (h : ∀ c ∈ l, c < 256) : wordN l < 18446744073709551616 := by
  have := joinN_lt (padN_lt hl h)
  rw [joinN_padN hl, padN_len hl] at this
  simpa using this

theorem byts_wordN {l : List Nat} (hl : l.length ≤ 7) (h : ∀ c ∈ l, c < 256) : byts (wordN l) = padN l := by
  have hp := padN_lt hl h
  apply List.ext_getElem?
  intro k
  by_cases hk : k < 8
  · have h1 : (padN l)[k]? = some ((padN l).getD k 0) := by simp [padN_len hl, hk]
    rw [h1, ← byt_joinN hp, joinN_padN hl]
    simp [byts, hk]
  · rw [List.getElem?_eq_none (by rw [byts_len]; omega), List.getElem?_eq_none (by rw [padN_len hl]; omega)]

/-- What Name tells of a word. -/
def nameN (W : Nat) : Option (List Nat) := if byt W 7 ≤ 7 ∧ goodN ((byts W).take (byt W 7)) = true ∧ wordN ((byts W).take (byt W 7)) = W then some ((byts W).take (byt W 7)) else none

theorem nameN_wordN {l : List Nat} (hg : goodN l = true) (h : ∀ c ∈ l, c < 256) : nameN (wordN l) = some l := by
  obtain ⟨h1, h2⟩ := goodN_len hg
  have hb := byts_wordN h2 h
  have h7 : byt (wordN l) 7 = l.length := by
    rw [← byts_get _ 7 (by omega), hb, padN, List.getD_eq_getElem?_getD, List.getElem?_append_right (by simp; omega)]
    simp [show 7 - (l.length + (7 - l.length)) = 0 by omega]
  have ht : (byts (wordN l)).take l.length = l := by
    rw [hb, padN, List.append_assoc, List.take_left]
  unfold nameN
  rw [h7, ht, if_pos ⟨h2, hg, rfl⟩]

/-- A sum's step: one byte. -/
def fnv (h c : Nat) : Nat := (h ^^^ c) * 16777619 % 4294967296

/-- One word. -/
def sumW (h W : Nat) : Nat := (byts W).foldl fnv h

/-- The sum of words. -/
def sumN (l : List Nat) : Nat := l.foldl sumW 2166136261

theorem fnv_lt (h c : Nat) : fnv h c < 4294967296 := Nat.mod_lt _ (by decide)

theorem foldl_fnv_lt (l : List Nat) : ∀ h, h < 4294967296 → l.foldl fnv h < 4294967296 := by
  induction l with
  | nil => intro h hh; exact hh
  | cons c l ih => intro h _; exact ih _ (fnv_lt h c)

theorem sumW_lt (h W : Nat) (hh : h < 4294967296) : sumW h W < 4294967296 := foldl_fnv_lt _ _ hh

theorem foldl_sumW_lt (l : List Nat) : ∀ h, h < 4294967296 → l.foldl sumW h < 4294967296 := by
  induction l with
  | nil => intro h hh; exact hh
  | cons c l ih => intro h hh; exact ih _ (sumW_lt h c hh)

theorem sumN_lt (l : List Nat) : sumN l < 4294967296 := foldl_sumW_lt l _ (by decide)

theorem mul_inj32 {a b : Nat} (ha : a < 4294967296) (hb : b < 4294967296) (h : a * 16777619 % 4294967296 = b * 16777619 % 4294967296) : a = b := by
  have key : ∀ x : Nat, x * 16777619 % 4294967296 * 899433627 % 4294967296 = x % 4294967296 := fun x => by
    rw [Nat.mul_mod, Nat.mod_mod, ← Nat.mul_mod, Nat.mul_assoc, show 16777619 * 899433627 = 1 + 4294967296 * 3513497 from rfl, Nat.mul_add, Nat.mul_one, Nat.mul_left_comm, Nat.add_mul_mod_self_left]
  have h1 := key a
  have h2 := key b
  rw [h, h2, Nat.mod_eq_of_lt ha, Nat.mod_eq_of_lt hb] at h1
  exact h1.symm

theorem xor_lt32 {h c : Nat} (hh : h < 4294967296) (hc : c < 256) : h ^^^ c < 4294967296 := Nat.xor_lt_two_pow (n := 32) (by omega) (by omega)

theorem fnv_inj {h h' c c' : Nat} (hh : h < 4294967296) (hh' : h' < 4294967296) (hc : c < 256) (hc' : c' < 256) (e : fnv h c = fnv h' c') : h ^^^ c = h' ^^^ c' :=
  mul_inj32 (xor_lt32 hh hc) (xor_lt32 hh' hc') e

theorem xor_right {a b c : Nat} (h : a ^^^ c = b ^^^ c) : a = b := by
  have := congrArg (· ^^^ c) h
  simpa [Nat.xor_assoc] using this

theorem xor_left {a b c : Nat} (h : c ^^^ a = c ^^^ b) : a = b := xor_right (c := c) (by rwa [Nat.xor_comm a, Nat.xor_comm b])

theorem foldl_fnv_inj (l : List Nat) (hl : ∀ c ∈ l, c < 256) : ∀ h h', h < 4294967296 → h' < 4294967296 → l.foldl fnv h = l.foldl fnv h' → h = h' := by
  induction l with
  | nil => intro h h' _ _ e; exact e
  | cons c l ih =>
    intro h h' hh hh' e
    have hc := hl c List.mem_cons_self
    have := ih (fun x hx => hl x (List.mem_cons_of_mem _ hx)) _ _ (fnv_lt h c) (fnv_lt h' c) e
    exact xor_right (fnv_inj hh hh' hc hc this)

theorem foldl_sumW_inj (l : List Nat) : ∀ h h', h < 4294967296 → h' < 4294967296 → l.foldl sumW h = l.foldl sumW h' → h = h' := by
  induction l with
  | nil => intro h h' _ _ e; exact e
  | cons c l ih =>
    intro h h' hh hh' e
    have := ih _ _ (sumW_lt h c hh) (sumW_lt h' c hh') e
    exact foldl_fnv_inj _ (byts_lt c) _ _ hh hh' this

/-- Bytes that differ in one place have another sum. -/
theorem foldl_fnv_ne (l m : List Nat) (hl : ∀ c ∈ l, c < 256) (hm : ∀ c ∈ m, c < 256) (q : Nat) (hq : q < l.length) (hlen : m.length = l.length) (hne : l.getD q 0 ≠ m.getD q 0) (hsame : ∀ k, k ≠ q → l.getD k 0 = m.getD k 0) :
    ∀ h, h < 4294967296 → l.foldl fnv h ≠ m.foldl fnv h := by
  induction l generalizing m q with
  | nil => simp at hq
  | cons c l ih =>
    match m, hlen with
    | d :: m, hlen =>
      intro h hh e
      have hc := hl c List.mem_cons_self
      have hd := hm d List.mem_cons_self
      have hl' := fun x hx => hl x (List.mem_cons_of_mem _ hx)
      have hm' := fun x hx => hm x (List.mem_cons_of_mem _ hx)
      cases q with
      | zero =>
        have hlm : l = m := by
          apply List.ext_getElem
          · simpa using hlen.symm
          · intro k h1 h2
            have := hsame (k + 1) (by omega)
            simpa [List.getD_eq_getElem?_getD, h1, h2] using this
        subst hlm
        have := foldl_fnv_inj l hl' _ _ (fnv_lt h c) (fnv_lt h d) e
        exact hne (by simpa using xor_left (fnv_inj hh hh hc hd this))
      | succ q =>
        have h0 := hsame 0 (by omega)
        simp at h0
        subst h0
        exact ih m hl' hm' q (by simpa using hq) (by simpa using hlen) (by simpa using hne) (fun k hk => by simpa using hsame (k + 1) (by omega)) _ (fnv_lt h c) e

/-- Words that differ in one place, there in one byte, have another sum. -/
theorem sumN_ne (l : List Nat) (p x : Nat) (hp : p < l.length) (hx : ∀ h, h < 4294967296 → sumW h (l.getD p 0) ≠ sumW h x) : sumN (l.set p x) ≠ sumN l := by
  have hs : l = l.take p ++ l.getD p 0 :: l.drop (p + 1) := by
    rw [List.getD_eq_getElem?_getD, List.getElem?_eq_getElem hp]
    simp
  have hs' : l.set p x = l.take p ++ x :: l.drop (p + 1) := by rw [List.set_eq_take_append_cons_drop, if_pos hp]
  have h0 := foldl_sumW_lt (l.take p) 2166136261 (by decide)
  intro e
  rw [hs'] at e
  conv at e => rhs; rw [hs]
  unfold sumN at e
  rw [List.foldl_append, List.foldl_append, List.foldl_cons, List.foldl_cons] at e
  exact hx _ h0 (foldl_sumW_inj _ _ _ (sumW_lt _ _ h0) (sumW_lt _ _ h0) e).symm

theorem byt_xor (W b q k : Nat) (hb : b < 256) : byt (W ^^^ (b * 256 ^ q)) k = if k = q then byt W k ^^^ b else byt W k := by
  have e : ∀ n, 256 ^ n = 2 ^ (8 * n) := fun n => by rw [Nat.pow_mul]
  have h8 : b * 256 ^ q / 2 ^ (8 * k) % 2 ^ 8 = if k = q then b else 0 := by
    rw [e]
    split
    · rename_i h
      subst h
      rw [Nat.mul_div_cancel _ (Nat.two_pow_pos _)]
      exact Nat.mod_eq_of_lt hb
    · rename_i h
      rcases Nat.lt_or_gt_of_ne h with h | h
      · rw [show 8 * q = 8 * (q - k - 1) + 8 + 8 * k by omega, Nat.pow_add, ← Nat.mul_assoc, Nat.mul_div_cancel _ (Nat.two_pow_pos _), Nat.pow_add, ← Nat.mul_assoc, Nat.mul_mod_left]
      · rw [Nat.div_eq_of_lt, Nat.zero_mod]
        calc b * 2 ^ (8 * q) < 2 ^ 8 * 2 ^ (8 * q) := Nat.mul_lt_mul_of_pos_right hb (Nat.two_pow_pos _)
          _ = 2 ^ (8 * q + 8) := by rw [Nat.pow_add, Nat.mul_comm]
          _ ≤ 2 ^ (8 * k) := Nat.pow_le_pow_right (by decide) (by omega)
  unfold byt
  rw [e k, show (256 : Nat) = 2 ^ 8 from rfl, Nat.xor_div_two_pow, Nat.xor_mod_two_pow]
  rw [show (2 ^ 8 : Nat) = 256 from rfl] at *
  rw [h8]
  split <;> simp

end Go.Proofs.Ytmhcnkjmnbnldaa
