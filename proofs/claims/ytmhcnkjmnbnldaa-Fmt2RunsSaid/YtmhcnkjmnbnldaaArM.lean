/-
  Arrays of numbers and inodes as values; entries (a name, a number) in memory. Nothing of the program is named here.
-/
import Derived.Test.YtmhcnkjmnbnldaaPlM
import Derived.Test.YtmhcnkjmnbnldaaLaw
import Derived.Test.YtmhcnkjmnbnldaaCel
namespace Go.Proofs.Ytmhcnkjmnbnldaa
open Go.RowKit

/-- Numbers as cells. -/
def zs (l : List Int) : List Value := l.map (Value.int .i64)

theorem zs_len (l : List Int) : (zs l).length = l.length := by simp [zs]
theorem zs_get {l : List Int} {j : Nat} (h : j < l.length) : (zs l)[j]? = some (.int .i64 (l.getD j 0)) := by simp [zs, h]
theorem zs_set (l : List Int) (j : Nat) (x : Int) : (zs l).set j (.int .i64 x) = zs (l.set j x) := by simp [zs, List.map_set]
theorem zs_append (xs ys : List Int) : zs (xs ++ ys) = zs xs ++ zs ys := by simp [zs]
theorem zs_one (l : List Int) : ∀ u ∈ zs l, u.oneCell' = true := by
  intro u hu
  simp only [zs, List.mem_map] at hu
  obtain ⟨x, -, rfl⟩ := hu
  rfl

/-- A name and a number, as cells. -/
def ecells (E : List (ByteArray × Int)) : List Value := E.flatMap fun p => [.string p.1, .int .i64 p.2]

def enm (E : List (ByteArray × Int)) (j : Nat) : ByteArray := (E.getD j (ByteArray.empty, 0)).1
def eno (E : List (ByteArray × Int)) (j : Nat) : Int := (E.getD j (ByteArray.empty, 0)).2

theorem enm_cons (p : ByteArray × Int) (E : List (ByteArray × Int)) (j : Nat) : enm (p :: E) (j + 1) = enm E j := rfl
theorem eno_cons (p : ByteArray × Int) (E : List (ByteArray × Int)) (j : Nat) : eno (p :: E) (j + 1) = eno E j := rfl

theorem e_mem {E : List (ByteArray × Int)} {k : Nat} (h : k < E.length) : (enm E k, eno E k) ∈ E := by
  have : E.getD k (ByteArray.empty, 0) = E[k] := by simp [List.getD_eq_getElem?_getD, h]
  rw [enm, eno, this]
  exact List.getElem_mem h

theorem e_ext {E F : List (ByteArray × Int)} (hl : E.length = F.length) (h : ∀ k, k < E.length → enm E k = enm F k ∧ eno E k = eno F k) : E = F := by
  apply List.ext_getElem hl
  intro k h1 h2
  have := h k h1
  have e1 : E.getD k (ByteArray.empty, 0) = E[k] := by simp [List.getD_eq_getElem?_getD, h1]
  have e2 : F.getD k (ByteArray.empty, 0) = F[k] := by simp [List.getD_eq_getElem?_getD, h2]
  rw [enm, enm, eno, eno, e1, e2] at this
  exact Prod.ext this.1 this.2

theorem ecells_len (E : List (ByteArray × Int)) : (ecells E).length = E.length * 2 := by
  induction E with
  | nil => rfl
  | cons p E ih => simp [ecells] at ih ⊢; omega

theorem ecells_append (E F : List (ByteArray × Int)) : ecells (E ++ F) = ecells E ++ ecells F := by simp [ecells]

theorem ecells_get (E : List (ByteArray × Int)) : ∀ k, k < E.length → (ecells E)[k * 2]? = some (.string (enm E k)) ∧ (ecells E)[k * 2 + 1]? = some (.int .i64 (eno E k)) := by
  induction E with
  | nil => intro k h; simp at h
  | cons p E ih =>
    intro k h
    have hc : ecells (p :: E) = .string p.1 :: .int .i64 p.2 :: ecells E := rfl
    cases k with
    | zero => rw [hc]; exact ⟨rfl, rfl⟩
    | succ k =>
      have := ih k (by simpa using h)
      rw [hc, show (k + 1) * 2 = k * 2 + 1 + 1 by omega, enm_cons, eno_cons]
      simp only [List.getElem?_cons_succ]
      exact this

theorem ecells_one (E : List (ByteArray × Int)) : ∀ u ∈ ecells E, u.oneCell' = true := by
  intro u hu
  simp only [ecells, List.mem_flatMap, List.mem_cons, List.not_mem_nil, or_false] at hu
  obtain ⟨p, -, rfl | rfl⟩ := hu <;> rfl

/-- The slice value v reads as these entries, which lie in block g (whatever g, if there are none). -/
def EReads (w : World) (v : Value) (g : Nat) (E : List (ByteArray × Int)) : Prop :=
  ∃ a cap, v = .slice a E.length cap ∧ E.length ≤ cap ∧ cap ≤ maxLen ∧ (E.length ≠ 0 → g < w.heap.size ∧ ∃ off, a = some ⟨g, off, none⟩ ∧
    ∀ j, j < E.length → w.cell? ⟨g, off + j * 2, none⟩ = some (.string (enm E j)) ∧ w.cell? ⟨g, off + j * 2 + 1, none⟩ = some (.int .i64 (eno E j)))

theorem EReads.keep {w w' : World} {v : Value} {g : Nat} {E : List (ByteArray × Int)} (h : EReads w v g E) {l : List Nat} (hk : Keeps l w w') (hg : E.length ≠ 0 → g ∉ l) : EReads w' v g E := by
  obtain ⟨a, cap, h1, h2, h3, h4⟩ := h
  refine ⟨a, cap, h1, h2, h3, fun hx => ?_⟩
  obtain ⟨hlt, off, h5, h6⟩ := h4 hx
  refine ⟨Nat.lt_of_lt_of_le hlt hk.size, off, h5, fun j hj => ?_⟩
  have hb := hk.block g hlt (hg hx)
  exact ⟨(World.cell?_of_block (w := w) (w' := w') (a := ⟨g, off + j * 2, none⟩) hb).trans (h6 j hj).1, (World.cell?_of_block (w := w) (w' := w') (a := ⟨g, off + j * 2 + 1, none⟩) hb).trans (h6 j hj).2⟩

/-- What is known of a slice of entries: its value, and each entry. -/
theorem EReads.open {w : World} {v : Value} {g : Nat} {E : List (ByteArray × Int)} (h : EReads w v g E) : ∃ a cap, v = .slice a E.length cap ∧ E.length ≤ cap ∧ cap ≤ maxLen ∧
    Hid (∀ k, k < E.length → g < w.heap.size ∧ ∃ off, a = some ⟨g, off, none⟩ ∧ w.cell? ⟨g, off + k * 2, none⟩ = some (.string (enm E k)) ∧ w.cell? ⟨g, off + k * 2 + 1, none⟩ = some (.int .i64 (eno E k))) := by
  obtain ⟨a, cap, h1, h2, h3, h4⟩ := h
  refine ⟨a, cap, h1, h2, h3, fun k hk => ?_⟩
  obtain ⟨h5, off, h6, h7⟩ := h4 (by omega)
  exact ⟨h5, off, h6, h7 k hk⟩

theorem EReads.apart {w : World} {v : Value} {g : Nat} {E : List (ByteArray × Int)} (h : EReads w v g E) {l : List Nat} (hl : ∀ x, x ∈ l → w.heap.size ≤ x) : E.length ≠ 0 → g ∉ l := fun h0 hm => by
  obtain ⟨a, cap, h1, h2, h3, h4⟩ := h
  have := (h4 h0).1
  have := hl g hm
  omega

theorem EReads.nil (w : World) (g : Nat) : EReads w (.slice none 0 0) g [] := ⟨none, 0, rfl, by simp, by simp [maxLen], fun h => absurd rfl h⟩

theorem EReads.anyG {w : World} {v : Value} {g : Nat} {E : List (ByteArray × Int)} (h : EReads w v g E) (he : E.length = 0) (g' : Nat) : EReads w v g' E := by
  obtain ⟨a, cap, h1, h2, h3, h4⟩ := h
  exact ⟨a, cap, h1, h2, h3, fun h => absurd he h⟩

theorem Owns.ereads {w : World} {v : Value} {g T n : Nat} {E : List (ByteArray × Int)} (h : Owns w v g T 2 n (ecells E)) (hn : n = E.length) : EReads w v g E := by
  subst hn
  obtain ⟨a, cap, hv, h1, h2⟩ := h.val
  refine ⟨a, cap, hv, h1, h2, fun h0 => ?_⟩
  obtain ⟨hg, ⟨cap', hv', -, -⟩, hc, -⟩ := h.cell h0
  rw [hv] at hv'
  cases hv'
  refine ⟨hg, 0, rfl, fun j hj => ?_⟩
  rw [Nat.zero_add, hc (j * 2) (by omega), hc (j * 2 + 1) (by omega)]
  exact ecells_get E j hj

/-- An inode. -/
structure Ino where
  F : Int
  K : Int
  L : Int
  S : Int
  B : List Int
  E : List (ByteArray × Int)

/-- Its cells; v is the slice that reads as its entries. -/
def inoL (n : Ino) (v : Value) : List Value := .int .i64 n.F :: .int .i64 n.K :: .int .i64 n.L :: .int .i64 n.S :: (zs n.B ++ [v])
def inoC (n : Ino) (v : Value) : Array Value := (inoL n v).toArray

theorem inoL_len (n : Ino) (v : Value) : (inoL n v).length = n.B.length + 5 := by simp [inoL, zs_len]

theorem inoC_B {n : Ino} (v : Value) {k : Nat} (h : k < n.B.length) : (inoC n v)[4 + k]? = some (.int .i64 (n.B.getD k 0)) := by
  rw [inoC, List.getElem?_toArray, inoL, show 4 + k = k + 1 + 1 + 1 + 1 by omega]
  simp only [List.getElem?_cons_succ]
  rw [List.getElem?_append_left (by rw [zs_len]; exact h), zs_get h]

theorem inoC_E {n : Ino} (v : Value) (h : n.B.length = 13) : (inoC n v)[17]? = some v := by
  rw [inoC, List.getElem?_toArray, inoL]
  simp only [List.getElem?_cons_succ]
  rw [List.getElem?_append_right (by rw [zs_len, h]; omega), zs_len, h]
  rfl

/-- All that a walk needs of an inode's cells. -/
structure InoAt (Z : Array Value) (n : Ino) (v : Value) : Prop where
  f0 : Z[0]? = some (.int .i64 n.F)
  f1 : Z[1]? = some (.int .i64 n.K)
  f2 : Z[2]? = some (.int .i64 n.L)
  f3 : Z[3]? = some (.int .i64 n.S)
  f4 : ∀ k, k < 13 → Z[4 + k]? = some (.int .i64 (n.B.getD k 0))
  f5 : Z[17]? = some v
  len : n.B.length = 13
  eq : Z = inoC n v

theorem inoAt {n : Ino} (v : Value) (h : n.B.length = 13) : InoAt (inoC n v) n v :=
  ⟨rfl, rfl, rfl, rfl, fun _ hk => inoC_B v (by omega), inoC_E v h, h, rfl⟩

/-- Of two lists of numbers, of one length, one by one. -/
theorem z_ext {l m : List Int} (hl : l.length = m.length) (h : ∀ k, k < l.length → l.getD k 0 = m.getD k 0) : l = m := by
  apply List.ext_getElem hl
  intro k h1 h2
  have := h k h1
  simpa [List.getD_eq_getElem?_getD, h1, h2] using this

/-- Whole arrays compared: the elements of 1 cell each are integers. -/
theorem run_equalIn_ints {P : Program} (w : World) (d : Nat) (t e : TypeId) (len : Nat) (k k' : IntKind) (a b : List Int) (ht : P.underlying t = some (.array len e)) (he : P.underlying e = some (.int k')) (hz : (P.info? e).map (·.size) = some 1)
    (ha : a.length = len) (hb : b.length = len) :
    (Op.equalIn (d + 2) t (.agg (a.map (Value.int k)).toArray) (.agg (b.map (Value.int k)).toArray)).run P w = .ok (decide (a = b)) w := by
  have hpart : ∀ (l : List Int) (i : Nat) (wx : World), i < l.length → (part e (l.map (Value.int k)).toArray i).run P wx = .ok (.int k (l.getD i 0)) wx := by
    intro l i wx hi
    have hagg : (isAgg e).run P wx = .ok false wx := by
      unfold isAgg
      rw [Sem.run_bind, run_underlying he wx]
      rfl
    unfold part
    rw [Sem.run_bind, hagg]
    simp [hi]
  have hsz : ∀ wx : World, (sizeOf e).run P wx = .ok 1 wx := by
    intro wx
    cases hq : P.info? e with
    | none => simp [hq] at hz
    | some i => simp [sizeOf, typeInfo, hq] at hz ⊢; exact hz
  have heq : ∀ (x y : Int) (wx : World), (Op.equalIn (d + 1) e (.int k x) (.int k y)).run P wx = .ok (x == y) wx := fun x y wx => run_equalIn_int wx d e k k' x y he
  rw [Op.equalIn]
  simp only [Sem.run_bind, run_underlying ht, Result.andThen_ok, hsz, Std.Legacy.Range.forIn_eq_forIn_range', Std.Legacy.Range.size, Nat.sub_zero, Nat.add_sub_cancel, Nat.div_one, Nat.mul_one]
  have key : ∀ (m s : Nat), s + m = len → Sem.run P (forIn (List.range' s m) ((none : Option Bool), ()) fun i _ => do
            let x ← part e (List.map (Value.int k) a).toArray i
            let y ← part e (List.map (Value.int k) b).toArray i
            let r ← Op.equalIn (d + 1) e x y
            if (!r) = true then pure (ForInStep.done (some false, ())) else pure (ForInStep.yield (none, ()))) w = .ok (if a.drop s = b.drop s then none else some false, ()) w := by
    intro m
    induction m with
    | zero =>
      intro s hs
      rw [List.drop_of_length_le (by omega), List.drop_of_length_le (by omega), if_pos rfl]
      simp
    | succ m ih =>
      intro s hs
      have h1 : s < a.length := by omega
      have h2 : s < b.length := by omega
      rw [List.range'_succ, List.forIn_cons]
      simp only [Sem.run_bind, hpart a s w h1, hpart b s w h2, Result.andThen_ok, heq]
      rw [List.drop_eq_getElem_cons h1, List.drop_eq_getElem_cons h2]
      have g1 : a.getD s 0 = a[s] := by simp [List.getD_eq_getElem?_getD, h1]
      have g2 : b.getD s 0 = b[s] := by simp [List.getD_eq_getElem?_getD, h2]
      by_cases hab : a[s] = b[s]
      · rw [g1, g2, hab]
        have := ih (s + 1) (by omega)
        simp only [BEq.rfl, Bool.not_true, Bool.false_eq_true, if_false, Sem.run_pure, Result.andThen_ok, List.cons.injEq, true_and]
        exact this
      · have hne : (a[s] == b[s]) = false := by simpa using hab
        rw [g1, g2, hne]
        simp
        intro hd
        rw [List.drop_eq_getElem_cons h1, List.drop_eq_getElem_cons h2] at hd
        exact absurd (List.cons.inj hd).1 hab
  rw [key len 0 (by omega)]
  by_cases h : a = b
  · simp [h]
  · simp [h]

/-- One element of an array that is a value. -/
theorem run_index_ints {P : Program} (t e : TypeId) (len : Nat) (k' : IntKind) (Z : Array Value) (k : Nat) (v : Value) (ht : P.underlying t = some (.array len e)) (he : P.underlying e = some (.int k')) (hz : (P.info? e).map (·.size) = some 1)
    (hk : k < len) (hv : Z[k]? = some v) (w : World) : (Instr.index t (.agg Z) (.int .i64 (k : Int))).run P w = .ok v w := by
  have hsz : ∀ wx : World, (sizeOf e).run P wx = .ok 1 wx := by
    intro wx
    cases hq : P.info? e with
    | none => simp [hq] at hz
    | some i => simp [sizeOf, typeInfo, hq] at hz ⊢; exact hz
  have hagg : (isAgg e).run P w = .ok false w := by
    unfold isAgg
    rw [Sem.run_bind, run_underlying he w]
    rfl
  have hi : (0 : Int) ≤ (k : Int) ∧ (k : Int) < (len : Int) := by omega
  unfold Instr.index
  simp [run_underlying ht, hi, hsz, part, hagg, hv, asIntOf]
  intro h
  omega

end Go.Proofs.Ytmhcnkjmnbnldaa
