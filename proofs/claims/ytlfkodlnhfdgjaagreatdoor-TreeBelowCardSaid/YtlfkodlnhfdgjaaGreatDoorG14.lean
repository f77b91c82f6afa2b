/-
  Layer 7, the reference: Bucket. Layer 7, the reference: Need. Layer 7, the reference: Need, of all inodes that are right. Layer 8, the reference's Need; what the laws' awake asks. Layer 8 (inode), plain: puts over one another at one place; how many blocks are free where some are used. Layer 8, the law InodeTurns: the sheet behind each call. Layer 8: the law InodeBent: the sheet behind each call; what Drop makes of the words. Layer 8, the reference's table: its cells; an operation's cells. Layer 8, the reference's table: Used, first. Layer 6, the reference: Same, where both are one inode; the law's sames, where both are one list; the reference's list of what is free.
-/
import Derived.Test.YtlfkodlnhfdgjaaGreatDoorG04
import Derived.Test.YtlfkodlnhfdgjaaGreatDoorG13
import Derived.Test.YtlfkodlnhfdgjaaGreatDoorG10
import Derived.Test.YtlfkodlnhfdgjaaGreatDoorG08
import Derived.Test.YtlfkodlnhfdgjaaGreatDoorG00
import Derived.Test.YtlfkodlnhfdgjaaGreatDoorG12
import Derived.Test.YtlfkodlnhfdgjaaGreatDoorG09
import Derived.Test.YtlfkodlnhfdgjaaGreatDoorG07
import Derived.Laws.StructEq
namespace Go.Proofs.YtlfkodlnhfdgjaaGreatDoor
open Go.RowKit

end Go.Proofs.YtlfkodlnhfdgjaaGreatDoor

namespace Go.Proofs.YtlfkodlnhfdgjaaGreatDoor
open Go.RowKit

end Go.Proofs.YtlfkodlnhfdgjaaGreatDoor

namespace Go.Proofs.YtlfkodlnhfdgjaaGreatDoor
open Go.RowKit

end Go.Proofs.YtlfkodlnhfdgjaaGreatDoor

namespace Go.Proofs.YtlfkodlnhfdgjaaGreatDoor
open Go.RowKit

theorem ino_free0 {X : List Int} (h : ∀ k, 820 ≤ k → X.getD k 0 = 0) (i : Int) : FreeP X i := by
  unfold FreeP inoAtX rowL
  apply List.ext_getElem (by simp)
  intro j h1 h2
  rw [List.getElem_map, List.getElem_replicate, List.getElem_range]
  exact h _ (by omega)

end Go.Proofs.YtlfkodlnhfdgjaaGreatDoor

namespace Go.Proofs.YtlfkodlnhfdgjaaGreatDoor
open Go.RowKit

end Go.Proofs.YtlfkodlnhfdgjaaGreatDoor

namespace Go.Proofs.YtlfkodlnhfdgjaaGreatDoor
open Go.RowKit

theorem turn_tab {W0 wx wy : World} {b gp : Nat} (hT : TabAt W0) (hb : W0.heap.size ≤ b) (hg : W0.heap.size ≤ gp) (hk : Keeps [] W0 wx) (hy : Keeps [b, gp] wx wy) : TabAt wy :=
  hT.keep (hk.trans hy (by intro y hy; simp only [List.mem_cons, List.not_mem_nil, or_false] at hy; omega))

theorem turn_apart {W0 : World} {b gp g : Nat} {v : Value} {E : List (ByteArray × Int)} (hE : EReads W0 v g E) (hb : W0.heap.size ≤ b) (hg : W0.heap.size ≤ gp) : E.length ≠ 0 → g ≠ b ∧ g ≠ gp := fun h0 => by
  have := hE.apart (l := [b, gp]) (fun x hx => by simp only [List.mem_cons, List.not_mem_nil, or_false] at hx; omega) h0
  simp only [List.mem_cons, List.not_mem_nil, or_false, not_or] at this
  exact this

end Go.Proofs.YtlfkodlnhfdgjaaGreatDoor

namespace Go.Proofs.YtlfkodlnhfdgjaaGreatDoor
open Go.RowKit

theorem zero8_64 {q : Nat} : ∀ p ∈ rowPs q (List.replicate 8 0) 8, 0 ≤ p.2 ∧ p.2 < 18446744073709551616 := by
  intro p hp
  unfold rowPs at hp
  obtain ⟨j, -, rfl⟩ := List.mem_map.1 hp
  have : (List.replicate 8 (0 : Int)).getD j 0 = 0 := by
    rw [List.getD_eq_getElem?_getD, List.getElem?_replicate]
    split <;> rfl
  show 0 ≤ (List.replicate 8 (0 : Int)).getD j 0 ∧ (List.replicate 8 (0 : Int)).getD j 0 < _
  rw [this]
  omega

/-- What is known of words behind a drop. -/
structure DropEff (X : List Int) (i : Int) (n : Ino) (own : List Nat) (X' : List Int) : Prop where
  free : FreeP X' i
  w64 : In64 X'
  len : X'.length = 3128
  used : ∀ c, c < 256 → c ≠ 0 → usedN X' c = (usedN X c && !decide (c ∈ own ++ filesL n))
  other : ∀ k, 820 ≤ k → ¬ (824 + 8 * i.toNat ≤ k ∧ k < 824 + 8 * i.toNat + 8) → X'.getD k 0 = X.getD k 0
  count : freeL X' = freeL (putAll X (givePs X (own ++ filesL n)))

theorem drop_eff {X : List Int} (h64 : In64 X) (hX : X.length = 3128) {i : Int} (hi : 0 ≤ i ∧ i < 32) {n : Ino} {own : List Nat} : DropEff X i n own (putAll X (dropPs X i.toNat n own)) := by
  obtain ⟨g1, g2, g3⟩ := givePs_state (own ++ filesL n) X h64 hX
  have gl : (putAll X (givePs X (own ++ filesL n))).length = 3128 := by rw [putAll_len, hX]
  unfold dropPs
  rw [putAll_append]
  obtain ⟨Y, hY⟩ : ∃ Y, Y = putAll X (givePs X (own ++ filesL n)) := ⟨_, rfl⟩
  rw [← hY] at g1 g2 g3 gl ⊢
  have hm : ∀ p ∈ rowPs (824 + 8 * i.toNat) (List.replicate 8 0) 8, 824 + 8 * i.toNat ≤ p.1.toNat ∧ p.1.toNat < 824 + 8 * i.toNat + 8 := by
    intro p hp
    unfold rowPs at hp
    obtain ⟨j, hj, rfl⟩ := List.mem_map.1 hp
    have := List.mem_range.1 hj
    show _ ≤ ((824 + 8 * i.toNat + j : Nat) : Int).toNat ∧ ((824 + 8 * i.toNat + j : Nat) : Int).toNat < _
    omega
  have hb := bits_same (X := Y) (Y := putAll Y (rowPs (824 + 8 * i.toNat) (List.replicate 8 0) 8)) fun k hk => putAll_other _ _ _ fun p hp => by have := hm p hp; omega
  refine ⟨?_, g1.put zero8_64, by rw [putAll_len, gl], fun c hc h0 => by rw [hb.1 c hc, g2 c hc h0], fun k hk h1 => ?_, by rw [hb.2, hY]⟩
  · unfold FreeP inoAtX
    exact rowL_put_eq gl _ (by omega) (by simp)
  · rw [putAll_other _ _ _ fun p hp => by have := hm p hp; omega]
    exact g3 k hk

end Go.Proofs.YtlfkodlnhfdgjaaGreatDoor

namespace Go.Proofs.YtlfkodlnhfdgjaaGreatDoor
open Go.RowKit

/-- A table's cells. -/
def tabL : List (Ino × Value) → List Value
  | [] => []
  | p :: T => inoL p.1 p.2 ++ tabL T

def tabC (T : List (Ino × Value)) : Array Value := (tabL T).toArray

def nT (T : List (Ino × Value)) (i : Nat) : Ino := (T.getD i (inoZ, .slice none 0 0)).1
def vT (T : List (Ino × Value)) (i : Nat) : Value := (T.getD i (inoZ, .slice none 0 0)).2

/-- All inodes have thirteen blocks, and entries' slices of a cell. -/
def TabOk (T : List (Ino × Value)) : Prop := ∀ p ∈ T, p.1.B.length = 13 ∧ p.2.oneCell' = true

theorem tabL_len : ∀ {T : List (Ino × Value)}, TabOk T → (tabL T).length = T.length * 18
  | [], _ => rfl
  | p :: T, h => by
    have h1 := (h p (by simp)).1
    show (inoL p.1 p.2 ++ tabL T).length = _
    rw [List.length_append, inoL_len, h1, tabL_len (T := T) fun q hq => h q (by simp [hq]), List.length_cons]
    omega

theorem tabL_one : ∀ {T : List (Ino × Value)}, TabOk T → ∀ v ∈ tabL T, v.oneCell' = true
  | [], _ => fun v hv => by simp [tabL] at hv
  | p :: T, h => fun v hv => by
    rcases List.mem_append.1 (show v ∈ inoL p.1 p.2 ++ tabL T from hv) with hv | hv
    · exact inoL_one (h p (by simp)).2 v hv
    · exact tabL_one (T := T) (fun q hq => h q (by simp [hq])) v hv

theorem tabL_get : ∀ {T : List (Ino × Value)}, TabOk T → ∀ i, i < T.length → ∀ j, j < 18 → (tabL T)[i * 18 + j]? = (inoL (nT T i) (vT T i))[j]?
  | [], _ => fun i hi => by simp at hi
  | p :: T, h => fun i hi j hj => by
    have h1 := (h p (by simp)).1
    show (inoL p.1 p.2 ++ tabL T)[i * 18 + j]? = _
    cases i with
    | zero =>
      rw [List.getElem?_append_left (by rw [inoL_len, h1]; omega), Nat.zero_mul, Nat.zero_add]
      rfl
    | succ i =>
      rw [List.getElem?_append_right (by rw [inoL_len, h1]; omega), inoL_len, h1, show (i + 1) * 18 + j - (13 + 5) = i * 18 + j by omega]
      exact tabL_get (T := T) (fun q hq => h q (by simp [hq])) i (by simpa using hi) j hj

theorem tabL_set : ∀ {T : List (Ino × Value)}, TabOk T → ∀ i, i < T.length → ∀ (n : Ino) (v : Value), n.B.length = 13 → (tabL T).take (i * 18) ++ inoL n v ++ (tabL T).drop (i * 18 + (inoL n v).length) = tabL (T.set i (n, v))
  | [], _ => fun i hi => by simp at hi
  | p :: T, h => fun i hi n v hB => by
    have h1 := (h p (by simp)).1
    have hl : (inoL p.1 p.2).length = 18 := by rw [inoL_len, h1]
    have hl2 : (inoL n v).length = 18 := by rw [inoL_len, hB]
    show (inoL p.1 p.2 ++ tabL T).take (i * 18) ++ inoL n v ++ (inoL p.1 p.2 ++ tabL T).drop (i * 18 + (inoL n v).length) = _
    cases i with
    | zero =>
      rw [Nat.zero_mul, List.take_zero, List.nil_append, Nat.zero_add, hl2, ← hl, List.drop_left]
      rfl
    | succ i =>
      have ih := tabL_set (T := T) (fun q hq => h q (by simp [hq])) i (by simpa using hi) n v hB
      rw [hl2] at ih ⊢
      rw [List.take_append, List.drop_append, hl, show (i + 1) * 18 - 18 = i * 18 by omega, show (i + 1) * 18 + 18 - 18 = i * 18 + 18 by omega, List.take_of_length_le (by omega), List.drop_of_length_le (by omega), List.nil_append, List.append_assoc, List.append_assoc]
      rw [List.append_assoc] at ih
      rw [ih]
      rfl

theorem TabOk.set {T : List (Ino × Value)} (h : TabOk T) (i : Nat) {n : Ino} {v : Value} (hB : n.B.length = 13) (hv : v.oneCell' = true) : TabOk (T.set i (n, v)) := by
  intro p hp
  rcases List.mem_or_eq_of_mem_set hp with hp | rfl
  · exact h p hp
  · exact ⟨hB, hv⟩

theorem nT_set {T : List (Ino × Value)} {i : Nat} (hi : i < T.length) (n : Ino) (v : Value) (j : Nat) : nT (T.set i (n, v)) j = if i = j then n else nT T j := by
  unfold nT
  rw [List.getD_eq_getElem?_getD, List.getElem?_set]
  by_cases h : i = j
  · subst h; simp [hi]
  · rw [if_neg h, if_neg h, List.getD_eq_getElem?_getD]

theorem vT_set {T : List (Ino × Value)} {i : Nat} (hi : i < T.length) (n : Ino) (v : Value) (j : Nat) : vT (T.set i (n, v)) j = if i = j then v else vT T j := by
  unfold vT
  rw [List.getD_eq_getElem?_getD, List.getElem?_set]
  by_cases h : i = j
  · subst h; simp [hi]
  · rw [if_neg h, if_neg h, List.getD_eq_getElem?_getD]

theorem nT_len {T : List (Ino × Value)} (h : TabOk T) (i : Nat) : (nT T i).B.length = 13 := by
  unfold nT
  by_cases hi : i < T.length
  · rw [List.getD_eq_getElem?_getD, List.getElem?_eq_getElem hi, Option.getD_some]
    exact (h _ (List.getElem_mem hi)).1
  · rw [List.getD_eq_getElem?_getD, List.getElem?_eq_none (by omega)]
    rfl

theorem size_tab : (Tryz.prog.info? 31).map (·.size) = some 576 := by kernel_rfl
/-- A table's variable. -/
structure TabAtV (w : World) (g : Nat) (T : List (Ino × Value)) : Prop where
  blk : Blk w g (tabC T) 31
  ok : TabOk T
  len : T.length = 32

theorem TabAtV.keep {w w' : World} {g : Nat} {T : List (Ino × Value)} (h : TabAtV w g T) {l : List Nat} (hk : Keeps l w w') (hg : g ∉ l) : TabAtV w' g T := ⟨h.blk.keep hk hg, h.ok, h.len⟩

theorem TabAtV.load {w : World} {g : Nat} {T : List (Ino × Value)} (h : TabAtV w g T) : (loadVar 31 ⟨g, 0, none⟩).run Tryz.prog w = .ok (.agg (tabC T)) w :=
  run_loadVar_cells g 0 (tabL T) Tryz.underlying31 rfl (by rw [tabL_len h.ok, h.len]; exact size_tab) fun j _ => by
    rw [h.blk.cell, Nat.zero_add, tabC, List.getElem?_toArray]

theorem TabAtV.cell {w : World} {g : Nat} {T : List (Ino × Value)} (h : TabAtV w g T) {i j : Nat} (hi : i < 32) (hj : j < 18) : w.cell? ⟨g, i * 18 + j, none⟩ = (inoL (nT T i) (vT T i))[j]? := by
  rw [h.blk.cell, tabC, List.getElem?_toArray, tabL_get h.ok i (by rw [h.len]; exact hi) j hj]

/-- An inode is stored in a table. -/
theorem TabAtV.storeI {w : World} {g : Nat} {T : List (Ino × Value)} (h : TabAtV w g T) {i : Nat} (hi : i < 32) {n : Ino} {v : Value} (hB : n.B.length = 13) (hv : v.oneCell' = true) :
    ∃ w', (storeVar 29 ⟨g, i * 18, none⟩ (.agg (inoC n v))).run Tryz.prog w = .ok () w' ∧ TabAtV w' g (T.set i (n, v)) ∧ Keeps [g] w w' := by
  have hl : (inoL n v).length = 18 := by rw [inoL_len, hB]
  have hs := tabL_set h.ok i (by rw [h.len]; exact hi) n v hB
  refine ⟨_, run_storeVar_cells g (i * 18) (inoL n v) (tabC T) (by rw [hl]; exact size_ino) h.blk (by rw [tabC, List.size_toArray, tabL_len h.ok, h.len, hl]; omega) (inoL_one hv), ⟨?_, h.ok.set i hB hv, by rw [List.length_set, h.len]⟩, (Keeps.refl _ _).setRow (by simp) _⟩
  have e : ((tabC T).toList.take (i * 18) ++ inoL n v ++ (tabC T).toList.drop (i * 18 + (inoL n v).length)).toArray = tabC (T.set i (n, v)) := by
    show _ = (tabL (T.set i (n, v))).toArray
    rw [← hs]
    rfl
  rw [e]
  exact setRow_blk h.blk

/-- A table is stored whole. -/
theorem store_tab {w : World} {g : Nat} {cur : Array Value} {T : List (Ino × Value)} (hb : Blk w g cur 31) (hc : cur.size = 576) (h : TabOk T) (hl : T.length = 32) :
    ∃ w', (storeVar 31 ⟨g, 0, none⟩ (.agg (tabC T))).run Tryz.prog w = .ok () w' ∧ TabAtV w' g T ∧ Keeps [g] w w' := by
  have hlen := tabL_len h
  obtain ⟨w', q1, q2, q3⟩ := store_whole (P := Tryz.prog) (ty := 31) (cs := tabL T) (by rw [hlen, hl]; exact size_tab) hb (by rw [hc, hlen, hl]) (tabL_one h)
  exact ⟨w', q1, ⟨q2, h, hl⟩, q3⟩

/-- A table of free inodes. -/
def tab0 : List (Ino × Value) := List.replicate 32 (inoZ, .slice none 0 0)

theorem tab0_ok : TabOk tab0 := fun p hp => by
  rw [List.eq_of_mem_replicate hp]
  exact ⟨rfl, rfl⟩

set_option maxRecDepth 100000 in
theorem zero_tab (w : World) : (zeroValue 31).run Tryz.prog w = .ok (.agg (tabC tab0)) w := by kernel_rfl

end Go.Proofs.YtlfkodlnhfdgjaaGreatDoor

namespace Go.Proofs.YtlfkodlnhfdgjaaGreatDoor
open Go.RowKit

/-- How many own blocks the i-th inode takes. -/
def needT (T : List (Ino × Value)) (i : Nat) : Nat := if 0 < (nT T i).F then needA (nT T i) else 0

def sumTo (T : List (Ino × Value)) : Nat → Nat
  | 0 => 0
  | k + 1 => sumTo T k + needT T k

/-- All inodes of the table that are not free are right. -/
def TabR (T : List (Ino × Value)) : Prop := ∀ i, i < 32 → 0 < (nT T i).F → RightP (nT T i)

/-- Their entries are in memory. -/
def TabE (w : World) (T : List (Ino × Value)) : Prop := ∀ i, i < 32 → ∃ g, EReads w (vT T i) g (nT T i).E

theorem TabE.keep {w w' : World} {T : List (Ino × Value)} (h : TabE w T) (hk : Keeps [] w w') : TabE w' T := fun i hi => by
  obtain ⟨g, he⟩ := h i hi
  exact ⟨g, he.keep hk (by simp)⟩

end Go.Proofs.YtlfkodlnhfdgjaaGreatDoor

namespace Go.Proofs.YtlfkodlnhfdgjaaGreatDoor
open Go.RowKit

theorem load_entry {w : World} {g off : Nat} {s : ByteArray} {x : Int} (h0 : w.cell? ⟨g, off, none⟩ = some (.string s)) (h1 : w.cell? ⟨g, off + 1, none⟩ = some (.int .i64 x)) :
    (loadVar 39 ⟨g, off, none⟩).run Tryz.prog w = .ok (.agg #[.string s, .int .i64 x]) w :=
  run_loadVar_cells g off [.string s, .int .i64 x] Tryz.underlying39 rfl size_entry fun j hj => by
    rcases (show j = 0 ∨ j = 1 by have : j < 2 := hj; omega) with rfl | rfl
    · exact h0
    · exact h1

end Go.Proofs.YtlfkodlnhfdgjaaGreatDoor
