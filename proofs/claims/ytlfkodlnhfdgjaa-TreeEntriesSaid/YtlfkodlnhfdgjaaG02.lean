/-
  Arrays of numbers and inodes as values; entries (a name, a number) in memory. Nothing of the program is named here. Arrays of numbers, of words, and inodes: noughts, loaded whole, compared whole. Layer 2 (pack): Join, Bytes. Layer 2 (pack): goodByte, Good; the reference's Good. Layer 2 (pack): Word, Name; the reference's Word and Byte. Layer 6 (fmt1), plain: which inodes are right. Nothing of the program is named here. Results that live in variables; parts of arrays as slices. Layer 6 (fmt1): parts, upTo, rest, entryBlocks, need. Layer 6 (fmt1): rightNumbers, rightFile.
-/
import Derived.Test.YtlfkodlnhfdgjaaG00
import Derived.Test.YtlfkodlnhfdgjaaG01
import Derived.Test.YtlfkodlnhfdgjaaChecked
import Derived.Test.YtlfkodlnhfdgjaaRows
import Derived.Lib.BufferWrite
import Derived.Laws.IdiomStrings
import Derived.WalkMore
namespace Go.Proofs.Ytlfkodlnhfdgjaa
open Go.RowKit

/-- Numbers as cells. -/
def zs (l : List Int) : List Value := l.map (Value.int .i64)

theorem zs_len (l : List Int) : (zs l).length = l.length := by simp [zs]
theorem zs_get {l : List Int} {j : Nat} (h : j < l.length) : (zs l)[j]? = some (.int .i64 (l.getD j 0)) := by simp [zs, h]
theorem zs_one (l : List Int) : ∀ u ∈ zs l, u.oneCell' = true := by
  intro u hu
  simp only [zs, List.mem_map] at hu
  obtain ⟨x, -, rfl⟩ := hu
  rfl

/-- A name and a number, as cells. -/
def ecells (E : List (ByteArray × Int)) : List Value := E.flatMap fun p => [.string p.1, .int .i64 p.2]

def enm (E : List (ByteArray × Int)) (j : Nat) : ByteArray := (E.getD j (ByteArray.empty, 0)).1
def eno (E : List (ByteArray × Int)) (j : Nat) : Int := (E.getD j (ByteArray.empty, 0)).2

theorem enm_cons (p : ByteArray × Int) (E : List (ByteArray × Int)) (j : Nat) : enm (p :: E) (j + 1) = enm E j := rfl
theorem eno_cons (p : ByteArray × Int) (E : List (ByteArray × Int)) (j : Nat) : eno (p :: E) (j + 1) = eno E j := rfl

theorem ecells_len (E : List (ByteArray × Int)) : (ecells E).length = E.length * 2 := by
  induction E with
  | nil => rfl
  | cons p E ih => simp [ecells] at ih ⊢; omega

theorem ecells_append (E F : List (ByteArray × Int)) : ecells (E ++ F) = ecells E ++ ecells F := by simp [ecells]

theorem ecells_get (E : List (ByteArray × Int)) : ∀ k, k < E.length → (ecells E)[k * 2]? = some (.string (enm E k)) ∧ (ecells E)[k * 2 + 1]? = some (.int .i64 (eno E k)) := by
  induction E with
  | nil => intro k h; simp at h
  | cons p E ih =>
    intro k h
    have hc : ecells (p :: E) = .string p.1 :: .int .i64 p.2 :: ecells E := rfl
    cases k with
    | zero => rw [hc]; exact ⟨rfl, rfl⟩
    | succ k =>
      have := ih k (by simpa using h)
      rw [hc, show (k + 1) * 2 = k * 2 + 1 + 1 by omega, enm_cons, eno_cons]
      simp only [List.getElem?_cons_succ]
      exact this

theorem ecells_one (E : List (ByteArray × Int)) : ∀ u ∈ ecells E, u.oneCell' = true := by
  intro u hu
  simp only [ecells, List.mem_flatMap, List.mem_cons, List.not_mem_nil, or_false] at hu
  obtain ⟨p, -, rfl | rfl⟩ := hu <;> rfl

/-- The slice value v reads as these entries, which lie in block g (whatever g, if there are none). -/
def EReads (w : World) (v : Value) (g : Nat) (E : List (ByteArray × Int)) : Prop :=
  ∃ a cap, v = .slice a E.length cap ∧ E.length ≤ cap ∧ cap ≤ maxLen ∧ (E.length ≠ 0 → g < w.heap.size ∧ ∃ off, a = some ⟨g, off, none⟩ ∧
    ∀ j, j < E.length → w.cell? ⟨g, off + j * 2, none⟩ = some (.string (enm E j)) ∧ w.cell? ⟨g, off + j * 2 + 1, none⟩ = some (.int .i64 (eno E j)))

theorem EReads.keep {w w' : World} {v : Value} {g : Nat} {E : List (ByteArray × Int)} (h : EReads w v g E) {l : List Nat} (hk : Keeps l w w') (hg : E.length ≠ 0 → g ∉ l) : EReads w' v g E := by
  obtain ⟨a, cap, h1, h2, h3, h4⟩ := h
  refine ⟨a, cap, h1, h2, h3, fun hx => ?_⟩
  obtain ⟨hlt, off, h5, h6⟩ := h4 hx
  refine ⟨Nat.lt_of_lt_of_le hlt hk.size, off, h5, fun j hj => ?_⟩
  have hb := hk.block g hlt (hg hx)
  exact ⟨(World.cell?_of_block (w := w) (w' := w') (a := ⟨g, off + j * 2, none⟩) hb).trans (h6 j hj).1, (World.cell?_of_block (w := w) (w' := w') (a := ⟨g, off + j * 2 + 1, none⟩) hb).trans (h6 j hj).2⟩

/-- What is known of a slice of entries: its value, and each entry. -/
theorem EReads.open {w : World} {v : Value} {g : Nat} {E : List (ByteArray × Int)} (h : EReads w v g E) : ∃ a cap, v = .slice a E.length cap ∧ E.length ≤ cap ∧ cap ≤ maxLen ∧
    Hid (∀ k, k < E.length → g < w.heap.size ∧ ∃ off, a = some ⟨g, off, none⟩ ∧ w.cell? ⟨g, off + k * 2, none⟩ = some (.string (enm E k)) ∧ w.cell? ⟨g, off + k * 2 + 1, none⟩ = some (.int .i64 (eno E k))) := by
  obtain ⟨a, cap, h1, h2, h3, h4⟩ := h
  refine ⟨a, cap, h1, h2, h3, fun k hk => ?_⟩
  obtain ⟨h5, off, h6, h7⟩ := h4 (by omega)
  exact ⟨h5, off, h6, h7 k hk⟩

theorem EReads.apart {w : World} {v : Value} {g : Nat} {E : List (ByteArray × Int)} (h : EReads w v g E) {l : List Nat} (hl : ∀ x, x ∈ l → w.heap.size ≤ x) : E.length ≠ 0 → g ∉ l := fun h0 hm => by
  obtain ⟨a, cap, h1, h2, h3, h4⟩ := h
  have := (h4 h0).1
  have := hl g hm
  omega

theorem EReads.nil (w : World) (g : Nat) : EReads w (.slice none 0 0) g [] := ⟨none, 0, rfl, by simp, by simp [maxLen], fun h => absurd rfl h⟩

theorem EReads.anyG {w : World} {v : Value} {g : Nat} {E : List (ByteArray × Int)} (h : EReads w v g E) (he : E.length = 0) (g' : Nat) : EReads w v g' E := by
  obtain ⟨a, cap, h1, h2, h3, h4⟩ := h
  exact ⟨a, cap, h1, h2, h3, fun h => absurd he h⟩

theorem Owns.ereads {w : World} {v : Value} {g T n : Nat} {E : List (ByteArray × Int)} (h : Owns w v g T 2 n (ecells E)) (hn : n = E.length) : EReads w v g E := by
  subst hn
  obtain ⟨a, cap, hv, h1, h2⟩ := h.val
  refine ⟨a, cap, hv, h1, h2, fun h0 => ?_⟩
  obtain ⟨hg, ⟨cap', hv', -, -⟩, hc, -⟩ := h.cell h0
  rw [hv] at hv'
  cases hv'
  refine ⟨hg, 0, rfl, fun j hj => ?_⟩
  rw [Nat.zero_add, hc (j * 2) (by omega), hc (j * 2 + 1) (by omega)]
  exact ecells_get E j hj

/-- An inode. -/
structure Ino where
  F : Int
  K : Int
  L : Int
  S : Int
  B : List Int
  E : List (ByteArray × Int)

/-- Its cells; v is the slice that reads as its entries. -/
def inoL (n : Ino) (v : Value) : List Value := .int .i64 n.F :: .int .i64 n.K :: .int .i64 n.L :: .int .i64 n.S :: (zs n.B ++ [v])
def inoC (n : Ino) (v : Value) : Array Value := (inoL n v).toArray

theorem inoL_len (n : Ino) (v : Value) : (inoL n v).length = n.B.length + 5 := by simp [inoL, zs_len]

theorem inoC_B {n : Ino} (v : Value) {k : Nat} (h : k < n.B.length) : (inoC n v)[4 + k]? = some (.int .i64 (n.B.getD k 0)) := by
  rw [inoC, List.getElem?_toArray, inoL, show 4 + k = k + 1 + 1 + 1 + 1 by omega]
  simp only [List.getElem?_cons_succ]
  rw [List.getElem?_append_left (by rw [zs_len]; exact h), zs_get h]

theorem inoC_E {n : Ino} (v : Value) (h : n.B.length = 13) : (inoC n v)[17]? = some v := by
  rw [inoC, List.getElem?_toArray, inoL]
  simp only [List.getElem?_cons_succ]
  rw [List.getElem?_append_right (by rw [zs_len, h]; omega), zs_len, h]
  rfl

/-- All that a walk needs of an inode's cells. -/
structure InoAt (Z : Array Value) (n : Ino) (v : Value) : Prop where
  f0 : Z[0]? = some (.int .i64 n.F)
  f1 : Z[1]? = some (.int .i64 n.K)
  f2 : Z[2]? = some (.int .i64 n.L)
  f3 : Z[3]? = some (.int .i64 n.S)
  f4 : ∀ k, k < 13 → Z[4 + k]? = some (.int .i64 (n.B.getD k 0))
  f5 : Z[17]? = some v
  len : n.B.length = 13
  eq : Z = inoC n v

theorem inoAt {n : Ino} (v : Value) (h : n.B.length = 13) : InoAt (inoC n v) n v :=
  ⟨rfl, rfl, rfl, rfl, fun _ hk => inoC_B v (by omega), inoC_E v h, h, rfl⟩

/-- Of two lists of numbers, of one length, one by one. -/
theorem z_ext {l m : List Int} (hl : l.length = m.length) (h : ∀ k, k < l.length → l.getD k 0 = m.getD k 0) : l = m := by
  apply List.ext_getElem hl
  intro k h1 h2
  have := h k h1
  simpa [List.getD_eq_getElem?_getD, h1, h2] using this

/-- Whole arrays compared: the elements of 1 cell each are integers. -/
theorem run_equalIn_ints {P : Program} (w : World) (d : Nat) (t e : TypeId) (len : Nat) (k k' : IntKind) (a b : List Int) (ht : P.underlying t = some (.array len e)) (he : P.underlying e = some (.int k')) (hz : (P.info? e).map (·.size) = some 1)
    (ha : a.length = len) (hb : b.length = len) :
    (Op.equalIn (d + 2) t (.agg (a.map (Value.int k)).toArray) (.agg (b.map (Value.int k)).toArray)).run P w = .ok (decide (a = b)) w := by
  have hpart : ∀ (l : List Int) (i : Nat) (wx : World), i < l.length → (part e (l.map (Value.int k)).toArray i).run P wx = .ok (.int k (l.getD i 0)) wx := by
    intro l i wx hi
    have hagg : (isAgg e).run P wx = .ok false wx := by
      unfold isAgg
      rw [Sem.run_bind, run_underlying he wx]
      rfl
    unfold part
    rw [Sem.run_bind, hagg]
    simp [hi]
  have hsz : ∀ wx : World, (sizeOf e).run P wx = .ok 1 wx := by
    intro wx
    cases hq : P.info? e with
    | none => simp [hq] at hz
    | some i => simp [sizeOf, typeInfo, hq] at hz ⊢; exact hz
  have heq : ∀ (x y : Int) (wx : World), (Op.equalIn (d + 1) e (.int k x) (.int k y)).run P wx = .ok (x == y) wx := fun x y wx => run_equalIn_int wx d e k k' x y he
  rw [Op.equalIn]
  simp only [Sem.run_bind, run_underlying ht, Result.andThen_ok, hsz, Std.Legacy.Range.forIn_eq_forIn_range', Std.Legacy.Range.size, Nat.sub_zero, Nat.add_sub_cancel, Nat.div_one, Nat.mul_one]
  have key : ∀ (m s : Nat), s + m = len → Sem.run P (forIn (List.range' s m) ((none : Option Bool), ()) fun i _ => do
            let x ← part e (List.map (Value.int k) a).toArray i
            let y ← part e (List.map (Value.int k) b).toArray i
            let r ← Op.equalIn (d + 1) e x y
            if (!r) = true then pure (ForInStep.done (some false, ())) else pure (ForInStep.yield (none, ()))) w = .ok (if a.drop s = b.drop s then none else some false, ()) w := by
    intro m
    induction m with
    | zero =>
      intro s hs
      rw [List.drop_of_length_le (by omega), List.drop_of_length_le (by omega), if_pos rfl]
      simp
    | succ m ih =>
      intro s hs
      have h1 : s < a.length := by omega
      have h2 : s < b.length := by omega
      rw [List.range'_succ, List.forIn_cons]
      simp only [Sem.run_bind, hpart a s w h1, hpart b s w h2, Result.andThen_ok, heq]
      rw [List.drop_eq_getElem_cons h1, List.drop_eq_getElem_cons h2]
      have g1 : a.getD s 0 = a[s] := by simp [List.getD_eq_getElem?_getD, h1]
      have g2 : b.getD s 0 = b[s] := by simp [List.getD_eq_getElem?_getD, h2]
      by_cases hab : a[s] = b[s]
      · rw [g1, g2, hab]
        have := ih (s + 1) (by omega)
        simp only [BEq.rfl, Bool.not_true, Bool.false_eq_true, if_false, Sem.run_pure, Result.andThen_ok, List.cons.injEq, true_and]
        exact this
      · have hne : (a[s] == b[s]) = false := by simpa using hab
        rw [g1, g2, hne]
        simp
        intro hd
        rw [List.drop_eq_getElem_cons h1, List.drop_eq_getElem_cons h2] at hd
        exact absurd (List.cons.inj hd).1 hab
  rw [key len 0 (by omega)]
  by_cases h : a = b
  · simp [h]
  · simp [h]

end Go.Proofs.Ytlfkodlnhfdgjaa

namespace Go.Proofs.Ytlfkodlnhfdgjaa
open Go.RowKit

theorem size_n13 : (Try.prog.info? 22).map (·.size) = some 13 := by kernel_rfl
theorem size_ino : (Try.prog.info? 25).map (·.size) = some 18 := by kernel_rfl
theorem size_int1 : (Try.prog.info? 3).map (·.size) = some 1 := by kernel_rfl

def inoZ : Ino := ⟨0, 0, 0, 0, List.replicate 13 0, []⟩
theorem zero_ino (w : World) : (zeroValue 25).run Try.prog w = .ok (.agg (inoC inoZ (.slice none 0 0))) w := by kernel_rfl

theorem eq_n13 {a b : List Int} (ha : a.length = 13) (hb : b.length = 13) (w : World) : (Op.equalIn 10000 22 (.agg (zs a).toArray) (.agg (zs b).toArray)).run Try.prog w = .ok (decide (a = b)) w :=
  run_equalIn_ints w 9998 22 3 13 .i64 .i64 a b Try.underlying22 Try.underlying3 size_int1 ha hb
theorem guard_n13 : Try.prog.eqGuardType Try.prog.depth 22 = false := by kernel_rfl
/-- A block of cells loaded whole. -/
theorem load_n13 {w : World} {g off T : Nat} {Z : Array Value} {l : List Int} (hb : Blk w g Z T) (hl : l.length = 13) (hz : ∀ k, k < 13 → Z[off + k]? = some (.int .i64 (l.getD k 0))) :
    (loadVar 22 ⟨g, off, none⟩).run Try.prog w = .ok (.agg (zs l).toArray) w :=
  run_loadVar_cells g off (zs l) Try.underlying22 rfl (by rw [zs_len, hl]; exact size_n13) fun j hj => by
    rw [zs_len, hl] at hj
    rw [hb.cell, hz j hj, zs_get (by omega)]

theorem load_ino {w : World} {g T : Nat} {n : Ino} {v : Value} (hb : Blk w g (inoC n v) T) (hl : n.B.length = 13) :
    (loadVar 25 ⟨g, 0, none⟩).run Try.prog w = .ok (.agg (inoC n v)) w :=
  run_loadVar_cells g 0 (inoL n v) Try.underlying25 rfl (by rw [inoL_len, hl]; exact size_ino) fun j _ => by
    rw [hb.cell, Nat.zero_add, inoC, List.getElem?_toArray]

/-- A block that is just one array is stored whole. -/
theorem store_whole {P : Program} {w : World} {ty T g : Nat} {cs : List Value} {cur : Array Value} (hi : (P.info? ty).map (·.size) = some cs.length) (hg : Blk w g cur T) (hl : cur.size = cs.length) (h1 : ∀ v ∈ cs, v.oneCell' = true) :
    ∃ w', (storeVar ty ⟨g, 0, none⟩ (.agg cs.toArray)).run P w = .ok () w' ∧ Blk w' g cs.toArray T ∧ Keeps [g] w w' := by
  refine ⟨_, run_storeVar_cells g 0 cs cur hi hg (by omega) h1, ?_, (Keeps.refl _ _).setRow (by simp) _⟩
  have e : (cur.toList.take 0 ++ cs ++ cur.toList.drop (0 + cs.length)).toArray = cs.toArray := by
    rw [List.drop_of_length_le (by simp; omega)]
    simp
  rw [e]
  exact setRow_blk hg

theorem inoL_one {n : Ino} {v : Value} (hv : v.oneCell' = true) : ∀ u ∈ inoL n v, u.oneCell' = true := by
  intro u hu
  simp only [inoL, List.mem_cons, List.mem_append, List.not_mem_nil, or_false] at hu
  rcases hu with rfl | rfl | rfl | rfl | hu | rfl
  all_goals first | rfl | exact hv | exact zs_one _ u hu

end Go.Proofs.Ytlfkodlnhfdgjaa

namespace Go.Proofs.Ytlfkodlnhfdgjaa
open Go.RowKit

end Go.Proofs.Ytlfkodlnhfdgjaa

namespace Go.Proofs.Ytlfkodlnhfdgjaa
open Go.RowKit

/-- A string's bytes, as numbers. -/
def bl (s : ByteArray) : List Nat := s.data.toList.map UInt8.toNat

theorem bl_len (s : ByteArray) : (bl s).length = s.size := by simp [bl]
theorem bl_get (s : ByteArray) (k : Nat) (h : k < s.size) : (bl s).getD k 0 = s[k].toNat := by
  simp [bl, h]
  rfl
theorem bl_inj {s t : ByteArray} (h : bl s = bl t) : s = t := by
  apply ByteArray.ext
  apply Array.toList_inj.1
  have := List.map_inj_right (f := UInt8.toNat) (fun a b e => UInt8.toNat_inj.1 e) |>.1 h
  exact this

theorem all_take_succ (l : List Nat) (k : Nat) (h : k < l.length) : (l.take (k + 1)).all okByte = ((l.take k).all okByte && okByte (l.getD k 0)) := by
  rw [List.take_succ_eq_append_getElem h, List.all_append]
  simp [List.getD_eq_getElem?_getD, h]

theorem all_false {l : List Nat} {k : Nat} (h : k < l.length) (hb : okByte (l.getD k 0) = false) : l.all okByte = false := by
  rw [List.all_eq_false]
  refine ⟨l.getD k 0, ?_, by rw [hb]; simp⟩
  rw [List.getD_eq_getElem?_getD, List.getElem?_eq_getElem h]
  exact List.getElem_mem _

theorem good_mid {s : ByteArray} (d1 : s ≠ ⟨#[46]⟩) (d2 : s ≠ ⟨#[46, 46]⟩) (h1 : 1 ≤ s.size) (h2 : s.size ≤ 7) : goodN (bl s) = (bl s).all okByte := by
  have e1 : (bl s != [46]) = true := by
    simp only [bne_iff_ne, ne_eq]
    intro e
    exact d1 (bl_inj (t := ⟨#[46]⟩) e)
  have e2 : (bl s != [46, 46]) = true := by
    simp only [bne_iff_ne, ne_eq]
    intro e
    exact d2 (bl_inj (t := ⟨#[46, 46]⟩) e)
  simp [goodN, bl_len, h1, h2, e1, e2]

theorem str_ne {s : ByteArray} {l : List UInt8} (h : s ≠ ⟨l.toArray⟩) : (s.toList == l) = false := by
  rw [ByteArray.toList_eq]
  simp only [beq_eq_false_iff_ne, ne_eq]
  intro e
  apply h
  apply ByteArray.ext
  apply Array.toList_inj.1
  rw [e]

theorem okByte_false {c : Nat} (h : okByte c = false) : c ≤ 32 ∨ 127 ≤ c ∨ c = 47 := by
  simp [okByte] at h; omega

theorem okByte_true {c : Nat} (h : okByte c = true) : 33 ≤ c ∧ c ≤ 126 ∧ c ≠ 47 := by
  simpa [okByte] using h

theorem goodN_not_all {l : List Nat} (h : l.all okByte = false) : goodN l = false := by simp [goodN, h]

set_option maxHeartbeats 1000000 in
theorem refGood_at (s : ByteArray) (hs : s.size ≤ 9223372036854775807) (w : World) : Calls Try.prog 12 #[.string s] w fun e w' => e = .returned (.bool (goodN (bl s))) ∧ w = w' := by
  go_enter Try.func12, Try.ntmps12
  go_wp2
  go_loop [3] (fun i => ∃ k : Nat, k ≤ s.size ∧ i = .int .i64 (k : Int) ∧ Hid (((bl s).take k).all okByte = true)) (fun i => s.size - (intOf i).toNat)
  case atStart => exact ⟨0, Nat.zero_le _, rfl, rfl⟩
  case round =>
    obtain ⟨k, hk, rfl, HA⟩ := hrel
    by_cases hlt : k < s.size
    · have hlt' : (k : Int) < (s.size : Int) := by omega
      have HB := Lib.hid (bl_get s k hlt)
      have HT := Lib.hid (all_take_succ (bl s) k (by rw [bl_len]; exact hlt))
      cases hb : okByte s[k].toNat
      · have HN := Lib.hid (goodN_not_all (all_false (l := bl s) (k := k) (by rw [bl_len]; exact hlt) (by rw [HB.out]; exact hb)))
        have hc := okByte_false hb
        clear hb
        rcases hc with hc | hc | hc
        · have e1 : decide ((s[k].toNat : Int) ≤ 32) = true := by simp; omega
          clear hc
          go_wp2_with fail
          go_ret
          exact ⟨by rw [HN.out]; rfl, rfl⟩
        · have e1 : decide ((s[k].toNat : Int) ≤ 32) = false := by simp; omega
          have e2 : decide (127 ≤ (s[k].toNat : Int)) = true := by simp; omega
          clear hc
          go_wp2_with fail
          go_ret
          exact ⟨by rw [HN.out]; rfl, rfl⟩
        · have e1 : decide ((s[k].toNat : Int) ≤ 32) = false := by simp; omega
          have e2 : decide (127 ≤ (s[k].toNat : Int)) = false := by simp; omega
          have e3 : ((s[k].toNat : Int) == 47) = true := by simp; omega
          clear hc
          go_wp2_with fail
          go_ret
          exact ⟨by rw [HN.out]; rfl, rfl⟩
      · have HN := Lib.hid hb
        obtain ⟨c1, c2, c3⟩ := okByte_true hb
        have e1 : decide ((s[k].toNat : Int) ≤ 32) = false := by simp; omega
        have e2 : decide (127 ≤ (s[k].toNat : Int)) = false := by simp; omega
        have e3 : ((s[k].toNat : Int) == 47) = false := by simp; omega
        clear hb c1 c2 c3
        go_wp2_with fail
        go_round
        case rel => exact ⟨k + 1, by omega, by go_num, by rw [HT.out, HB.out, HN.out, HA.out]; rfl⟩
        case measure => simp [intOf]; omega
    · obtain rfl : k = s.size := by omega
      have hlt' : ¬ (s.size : Int) < (s.size : Int) := by omega
      rw [List.take_of_length_le (by rw [bl_len]; exact Nat.le_refl _)] at HA
      by_cases d1 : s = ⟨#[46]⟩
      · have HN : Hid (goodN (bl s) = false) := by rw [d1]; rfl
        have q1 : (s.toList == [46]) = true := by rw [d1, ByteArray.toList_eq]; rfl
        have q3 : decide (0 < s.size) = true := by rw [d1]; rfl
        have q4 : decide ((s.size : Int) < 8) = true := by rw [d1]; rfl
        clear d1 HA
        go_wp2_with fail
        go_ret
        exact ⟨by rw [HN.out]; rfl, rfl⟩
      by_cases d2 : s = ⟨#[46, 46]⟩
      · have HN : Hid (goodN (bl s) = false) := by rw [d2]; rfl
        have q1 : (s.toList == [46]) = false := by rw [d2, ByteArray.toList_eq]; rfl
        have q2 : (s.toList == [46, 46]) = true := by rw [d2, ByteArray.toList_eq]; rfl
        have q3 : decide (0 < s.size) = true := by rw [d2]; rfl
        have q4 : decide ((s.size : Int) < 8) = true := by rw [d2]; rfl
        clear d1 d2 HA
        go_wp2_with fail
        go_ret
        exact ⟨by rw [HN.out]; rfl, rfl⟩
      by_cases h1 : 1 ≤ s.size
      · by_cases h2 : s.size ≤ 7
        · have HN : Hid (goodN (bl s) = true) := by rw [good_mid d1 d2 h1 h2]; exact HA.out
          have q1 : (s.toList == [46]) = false := str_ne (l := [46]) d1
          have q2 : (s.toList == [46, 46]) = false := str_ne (l := [46, 46]) d2
          have q3 : decide (0 < s.size) = true := by simp; omega
          have q4 : decide ((s.size : Int) < 8) = true := by simp; omega
          clear d1 d2 h1 h2 HA
          go_wp2_with fail
          go_ret
          exact ⟨by rw [HN.out]; rfl, rfl⟩
        · have HN := Lib.hid (show goodN (bl s) = false by simp [goodN, bl_len, h2])
          have q3 : decide (0 < s.size) = true := by simp; omega
          have q4 : decide ((s.size : Int) < 8) = false := by simp; omega
          clear d1 d2 h1 h2 HA
          go_wp2_with fail
          go_ret
          exact ⟨by rw [HN.out]; rfl, rfl⟩
      · have HN := Lib.hid (show goodN (bl s) = false by simp [goodN, bl_len, h1])
        have q3 : decide (0 < s.size) = false := decide_eq_false (by omega)
        clear d1 d2 h1 HA
        go_wp2_with fail
        go_ret
        exact ⟨by rw [HN.out]; rfl, rfl⟩

end Go.Proofs.Ytlfkodlnhfdgjaa

namespace Go.Proofs.Ytlfkodlnhfdgjaa
open Go.RowKit

end Go.Proofs.Ytlfkodlnhfdgjaa

namespace Go.Proofs.Ytlfkodlnhfdgjaa
open Go.RowKit

/-- All are blocks, or 0, and no block stands there twice. -/
def NumsP (l : List Int) : Prop := ∀ k, k < 13 → (0 ≤ l.getD k 0 ∧ l.getD k 0 < 256) ∧ (l.getD k 0 ≠ 0 → ∀ j, j < k → l.getD j 0 ≠ l.getD k 0)

instance (l : List Int) : Decidable (NumsP l) := by unfold NumsP; infer_instance

/-- The first c numbers, noughts behind. -/
def uptoL (l : List Int) (c : Nat) : List Int := l.take c ++ List.replicate (13 - c) 0

theorem uptoL_len {l : List Int} (hl : l.length = 13) {c : Nat} (hc : c ≤ 13) : (uptoL l c).length = 13 := by simp [uptoL, hl]; omega

theorem uptoL_get {l : List Int} (hl : l.length = 13) {c : Nat} (hc : c ≤ 13) (k : Nat) : (uptoL l c).getD k 0 = if k < c then l.getD k 0 else 0 := by
  simp only [uptoL, List.getD_eq_getElem?_getD, List.getElem?_append, List.length_take, List.getElem?_take, List.getElem?_replicate]
  by_cases h : k < c
  · rw [if_pos (by omega), if_pos h, if_pos h]
  · rw [if_neg (by omega), if_neg h]
    split <;> rfl

/-- How many blocks so many bytes take. -/
def partsN (n : Nat) : Nat := (n + 63) / 64

/-- One name isn't behind the other: what '<=' says. -/
def leB (a b : ByteArray) : Bool := Op.bytesLess a.toList b.toList || (a.toList == b.toList)

def FileP (n : Ino) : Prop := (0 ≤ n.S ∧ n.S ≤ 832) ∧ n.E.length = 0 ∧ n.B = uptoL n.B (partsN n.S.toNat) ∧ NumsP n.B

/-- The k-th entry is right, and behind the one ahead of it. -/
def EntP (E : List (ByteArray × Int)) (k : Nat) : Prop := goodN (bl (enm E k)) = true ∧ (0 ≤ eno E k ∧ eno E k ≤ 31) ∧ (0 < k → leB (enm E k) (enm E (k - 1)) = false)

def DirP (n : Ino) : Prop := n.E.length ≤ 24 ∧ n.S = n.E.length ∧ n.B = List.replicate 13 0 ∧ ∀ k, k < n.E.length → EntP n.E k

def RightP (n : Ino) : Prop := (n.F = 1 ∨ n.F = 2) ∧ (0 ≤ n.L ∧ n.L ≤ 65535) ∧ (n.K = 1 ∧ FileP n ∨ n.K = 2 ∧ DirP n)

instance (n : Ino) : Decidable (FileP n) := by unfold FileP; infer_instance
instance (E : List (ByteArray × Int)) (k : Nat) : Decidable (EntP E k) := by unfold EntP; infer_instance
instance (n : Ino) : Decidable (DirP n) := by unfold DirP; infer_instance
instance (n : Ino) : Decidable (RightP n) := by unfold RightP; infer_instance

end Go.Proofs.Ytlfkodlnhfdgjaa

namespace Go.Proofs.Ytlfkodlnhfdgjaa
open Go.RowKit

theorem wpList_load_want {P : Program} {ops : Array Oper} {rest : List Oper} {o : Oper} {a : Act} {w : World} {Q : Exit → Act → World → Prop} (hw : Region.wanted o (yielded ops a.tmps) = true) (ty : TypeId) (x : Operand) (ho : o.op = .load ty x) (ad : Addr)
    (hx : a.eval x = .pointer (some ad)) (v : Value) (hr : (loadVar ty ad).run P w = .ok v w) (h : wpList P ops Q rest (a.put o.dst v) w) : wpList P ops Q (o :: rest) a w :=
  wpList_step fun _ hK => by
    rw [if_pos hw]
    unfold Oper.wp execOp
    simp only [ho, hx, Instr.loadAt, Instr.sureAddr, Sem.run_bind, Sem.run_pure, Result.andThen_ok, hr]
    exact hK _ _ h

theorem asAddr_ptr {P : Program} (ad : Addr) (w : World) : (asAddr (.pointer (some ad))).run P w = .ok ad w := rfl

theorem results_cell {P : Program} {fn : Func} {tmps : Array Value} {a t : Nat} {ad : Addr} {v : Value} {w : World} (hfn : fn.results = #[.cell a t]) (ha : tmps.getD a undef = .pointer (some ad)) (hl : (loadVar t ad).run P w = .ok v w) :
    (results fn tmps).run P w = .ok v w := by
  rw [Array.getD_eq_getD_getElem?] at ha
  unfold results
  rw [hfn]
  simp [Sem.run_bind, ha, asAddr_ptr, hl]

end Go.Proofs.Ytlfkodlnhfdgjaa

namespace Go.Proofs.Ytlfkodlnhfdgjaa
open Go.RowKit

end Go.Proofs.Ytlfkodlnhfdgjaa

namespace Go.Proofs.Ytlfkodlnhfdgjaa
open Go.RowKit

end Go.Proofs.Ytlfkodlnhfdgjaa
