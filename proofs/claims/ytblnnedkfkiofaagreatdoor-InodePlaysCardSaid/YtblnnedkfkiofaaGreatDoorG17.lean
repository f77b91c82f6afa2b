/-
  Layer 8, the law InodePlays: the sheet behind each call. An array of thirteen numbers as an argument is read. An inode (api.Inode), and a list of its entries, as an argument is read; so pairs. Operations on inodes, as an argument is read. Layer 6: the laws' sheet. A region that draws its order: operations whose values are known ahead come in whatever order, beside a chain of last ones (a call, whose answer is known only when it was made, and what asks of it). Nothing of the program is named here.
-/
import Derived.Test.YtblnnedkfkiofaaGreatDoorG16
import Derived.Test.YtblnnedkfkiofaaGreatDoorG14
import Derived.Test.YtblnnedkfkiofaaGreatDoorG00
import Derived.Test.YtblnnedkfkiofaaGreatDoorG02
import Derived.Test.YtblnnedkfkiofaaGreatDoorG09
import Derived.Test.YtblnnedkfkiofaaGreatDoorG08
import Derived.Test.YtblnnedkfkiofaaGreatDoorG07
namespace Go.Proofs.YtblnnedkfkiofaaGreatDoor
open Go.RowKit

/-- A sheet whose words are the table's. -/
def Play (W0 : World) (b gp : Nat) (B : List Int) (T : List (Ino × Value)) (room m : Nat) (wx : World) : Prop :=
  ∃ ps own, ShAt wx b gp B ps ∧ gp < wx.heap.size ∧ W0.heap.size ≤ gp ∧ ps.length ≤ m ∧ PlayP (putAll B ps) T own room ∧ Keeps [] W0 wx

theorem Play.keep {W0 wx w' : World} {b gp : Nat} {B : List Int} {T : List (Ino × Value)} {room m : Nat} (h : Play W0 b gp B T room m wx) {l : List Nat} (hk : Keeps l wx w') (hl : ∀ x ∈ l, W0.heap.size ≤ x ∧ x ≠ b ∧ x ≠ gp) : Play W0 b gp B T room m w' := by
  obtain ⟨ps, own, h1, h2, h3, h4, h5, h6⟩ := h
  exact ⟨ps, own, h1.keep hk (fun hm => (hl _ hm).2.1 rfl) (fun hm => (hl _ hm).2.2 rfl), Nat.lt_of_lt_of_le h2 hk.size, h3, h4, h5, h6.trans hk fun x hx => .inr (hl x hx).1⟩

theorem Play.keeps {W0 wx : World} {b gp : Nat} {B : List Int} {T : List (Ino × Value)} {room m : Nat} (h : Play W0 b gp B T room m wx) : Keeps [] W0 wx ∧ gp < wx.heap.size ∧ b < wx.heap.size := by
  obtain ⟨ps, own, h1, h2, h3, h4, h5, h6⟩ := h
  exact ⟨h6, h2, h1.raw.lt⟩

theorem Play.right {W0 wx : World} {b gp : Nat} {B : List Int} {T : List (Ino × Value)} {room m : Nat} (h : Play W0 b gp B T room m wx) : TabR T ∧ sumTo T 32 ≤ room := by
  obtain ⟨ps, own, h1, h2, h3, h4, h5, h6⟩ := h
  exact ⟨h5.right, by have := h5.count; omega⟩

/-- What a call leaves: the sheet of whatever table the reference's call leaves, its answer being the same. -/
def Played (W0 : World) (b gp : Nat) (B : List Int) (T : List (Ino × Value)) (room m : Nat) (wx : World) (k i : Int) (n : Ino) (v : Value) (x r : Int) (w' : World) : Prop :=
  Keeps [b, gp] wx w' ∧ ∃ gp', (gp' = gp ∨ wx.heap.size ≤ gp') ∧ ∀ T' y f, DoR T room k i n v T' y f → r = f ∧ (r = 0 → x = y) ∧ Play W0 b gp' B T' room (m + 700) w'

theorem play_put_at {W0 wx : World} {b gp : Nat} {B : List Int} {T : List (Ino × Value)} {room m : Nat} (hb : W0.heap.size ≤ b) (hT : TabAt W0) (h : Play W0 b gp B T room m wx) (hm : m ≤ 600000) (hTl : T.length = 32) {k : Int} (hk : k % 3 = 0) (i : Int) (n : Ino) (v : Value) (g : Nat) (hB : n.B.length = 13) (hfl : filesL n = [])
    (hE : EReads W0 v g n.E) (hN : ∀ k, k < n.E.length → (enm n.E k).size ≤ 9223372036854775807) :
    Calls Tryz.prog 14 #[.pointer (some ⟨b, 0, none⟩), .int .i64 i, .agg (inoC n v)] wx fun e w' => ∃ r, e = .returned (.int .i64 r) ∧ Played W0 b gp B T room m wx k i n v i r w' := by
  obtain ⟨ps, own, h1, h2, h3, h4, h5, h6⟩ := h
  refine (inoPut_at h1 h5.w64 (fun wy hy => turn_tab hT hb h3 h6 hy) h2 (by omega) i n v g hB (hE.keep h6 (by simp)) hN (turn_apart hE hb h3)).mono ?_
  rintro e w' ⟨r, qs, gp', rfl, hg, hs, hk', hq, hr⟩
  have hz := hk'.size
  have hz0 := h6.size
  refine ⟨r, rfl, hk', gp', by omega, fun T' y f hd => ?_⟩
  rcases hd with ⟨-, hd⟩ | ⟨hk1, -⟩ | ⟨hk2, -⟩
  · obtain ⟨a1, a2, -, own', a3⟩ := play_put h5 hTl hB hfl hr hd
    rw [← putAll_append] at a3
    exact ⟨a1, a2, _, own', hs, by omega, by omega, by rw [List.length_append]; omega, a3, h6.trans hk' (by intro y hy; simp only [List.mem_cons, List.not_mem_nil, or_false] at hy; omega)⟩
  · omega
  · omega

theorem play_new_at {W0 wx : World} {b gp : Nat} {B : List Int} {T : List (Ino × Value)} {room m : Nat} (hb : W0.heap.size ≤ b) (hT : TabAt W0) (h : Play W0 b gp B T room m wx) (hm : m ≤ 600000) (hTl : T.length = 32) {k : Int} (hk : k % 3 = 1) (i : Int) (n : Ino) (v : Value) (g : Nat) (hB : n.B.length = 13) (hfl : filesL n = [])
    (hE : EReads W0 v g n.E) (hN : ∀ k, k < n.E.length → (enm n.E k).size ≤ 9223372036854775807) :
    Calls Tryz.prog 20 #[.pointer (some ⟨b, 0, none⟩), .agg (inoC n v)] wx fun e w' => ∃ x r, e = .returned (.tuple #[.int .i64 x, .int .i64 r]) ∧ Played W0 b gp B T room m wx k i n v x r w' := by
  obtain ⟨ps, own, h1, h2, h3, h4, h5, h6⟩ := h
  refine (inoNew_at h1 h5.w64 (fun wy hy => turn_tab hT hb h3 h6 hy) h2 (by omega) n v g hB (hE.keep h6 (by simp)) hN (turn_apart hE hb h3)).mono ?_
  rintro e w' ⟨x, r, qs, gp', rfl, hg, hs, hk', hq, hr⟩
  have hz := hk'.size
  have hz0 := h6.size
  refine ⟨x, r, rfl, hk', gp', by omega, fun T' y f hd => ?_⟩
  rcases hd with ⟨hk1, -⟩ | ⟨-, hd⟩ | ⟨hk2, -⟩
  · omega
  · obtain ⟨a1, a2, own', a3⟩ := play_new h5 hTl hB hfl hr hd
    rw [← putAll_append] at a3
    exact ⟨a1, a2, _, own', hs, by omega, by omega, by rw [List.length_append]; omega, a3, h6.trans hk' (by intro y hy; simp only [List.mem_cons, List.not_mem_nil, or_false] at hy; omega)⟩
  · omega

theorem play_drop_at {W0 wx : World} {b gp : Nat} {B : List Int} {T : List (Ino × Value)} {room m : Nat} (hb : W0.heap.size ≤ b) (h : Play W0 b gp B T room m wx) (hm : m ≤ 600000) (hTl : T.length = 32) {k : Int} (hk : k % 3 = 2) (i : Int) (n : Ino) (v : Value) :
    Calls Tryz.prog 21 #[.pointer (some ⟨b, 0, none⟩), .int .i64 i] wx fun e w' => ∃ r, e = .returned (.int .i64 r) ∧ Played W0 b gp B T room m wx k i n v 0 r w' := by
  obtain ⟨ps, own, h1, h2, h3, h4, h5, h6⟩ := h
  refine (drop_at h1 h5.w64 h2 (by omega) i).mono ?_
  rintro e w' ⟨r, qs, gp', rfl, hg, hs, hk', hq, hr⟩
  have hz := hk'.size
  have hz0 := h6.size
  refine ⟨r, rfl, hk', gp', by omega, fun T' y f hd => ?_⟩
  rcases hd with ⟨hk1, -⟩ | ⟨hk1, -⟩ | ⟨-, hd⟩
  · omega
  · omega
  · obtain ⟨a1, a2, own', a3⟩ := play_drop h5 hTl hr hd
    rw [← putAll_append] at a3
    exact ⟨a1, fun _ => a2.symm, _, own', hs, by omega, by omega, by rw [List.length_append]; omega, a3, h6.trans hk' (by intro y hy; simp only [List.mem_cons, List.not_mem_nil, or_false] at hy; omega)⟩

theorem play_free {W0 wx : World} {b gp : Nat} {B : List Int} {T : List (Ino × Value)} {room m : Nat} (h : Play W0 b gp B T room m wx) :
    Calls Tryz.prog 19 #[.pointer (some ⟨b, 0, none⟩)] wx fun e w' => e = .returned (.int .i64 ((room - sumTo T 32 : Nat) : Int)) ∧ wx = w' := by
  obtain ⟨ps, own, h1, h2, h3, h4, h5, h6⟩ := h
  refine (paFree_at h1 h5.w64).mono ?_
  rintro e w' ⟨rfl, rfl⟩
  rw [← h5.count, Nat.add_sub_cancel]
  exact ⟨rfl, rfl⟩

/-- What Get tells, by the table. -/
def GetT (T : List (Ino × Value)) (i : Int) (n : Ino) (c : Nat) (r : Int) : Prop :=
  (¬ (0 ≤ i ∧ i < 32) ∧ r = 1 ∧ n = inoZ ∧ c = 0) ∨ ((0 ≤ i ∧ i < 32) ∧ (nT T i.toNat).F = 0 ∧ r = 2 ∧ n = inoZ ∧ c = 0) ∨ ((0 ≤ i ∧ i < 32) ∧ 0 < (nT T i.toNat).F ∧ r = 0 ∧ n = nT T i.toNat ∧ c = needA n)

theorem play_get {W0 wx : World} {b gp : Nat} {B : List Int} {T : List (Ino × Value)} {room m : Nat} (h : Play W0 b gp B T room m wx) (i : Int) :
    Calls Tryz.prog 17 #[.pointer (some ⟨b, 0, none⟩), .int .i64 i] wx fun e w' => ∃ n v g a c cap r, e = .returned (.tuple #[.agg (inoC n v), .slice a c cap, .int .i64 r]) ∧ n.B.length = 13 ∧ EReads w' v g n.E ∧ GetT T i n c r ∧ Keeps [] wx w' := by
  obtain ⟨ps, own, h1, h2, h3, h4, h5, h6⟩ := h
  refine (get_at h1 h5.w64 i).mono ?_
  rintro e w' ⟨n, v, g, own', va, ga, r, rfl, hB, hE, hg, hO, hga, hk, hr⟩
  obtain ⟨a, cap, rfl, -, -, -⟩ := hO.reads
  refine ⟨n, v, g, a, _, cap, r, rfl, hB, hE, ?_, hk⟩
  rw [i64s_len]
  rcases hr with ⟨rfl, g1, rfl, rfl⟩ | ⟨rfl, g1, g2, rfl, rfl⟩ | ⟨rfl, g1, g2, g3, -⟩ | ⟨rfl, g1⟩
  · exact .inl ⟨g1, rfl, rfl, rfl⟩
  · obtain ⟨j, rfl⟩ := Int.eq_ofNat_of_zero_le g1.1
    rcases h5.each j (by omega) with ⟨e1, -⟩ | ⟨-, e2, -⟩
    · exact .inr (.inl ⟨g1, by rw [Int.toNat_natCast]; exact e1, rfl, rfl, rfl⟩)
    · exact absurd g2 e2.notFree
  · obtain ⟨j, rfl⟩ := Int.eq_ofNat_of_zero_le g1.1
    rcases h5.each j (by omega) with ⟨-, e2, -⟩ | ⟨-, e2, -⟩
    · exact absurd e2 g2
    · exact absurd e2 (g3 _ _)
  · have hrg := g1.rng
    obtain ⟨j, rfl⟩ := Int.eq_ofNat_of_zero_le hrg.1
    rcases h5.each j (by omega) with ⟨-, e2, -⟩ | ⟨e1, e2, -⟩
    · exact absurd e2 g1.notFree
    · obtain ⟨rfl, rfl⟩ := e2.uniq g1
      exact .inr (.inr ⟨hrg, by rw [Int.toNat_natCast]; exact e1, rfl, by rw [Int.toNat_natCast], e2.ownLen⟩)

theorem play_isFree {W0 wx : World} {b gp : Nat} {B : List Int} {T : List (Ino × Value)} {room m : Nat} (h : Play W0 b gp B T room m wx) (i : Int) :
    Calls Tryz.prog 16 #[.pointer (some ⟨b, 0, none⟩), .int .i64 i] wx fun e w' => e = .returned (.bool (decide ((0 ≤ i ∧ i < 32) ∧ (nT T i.toNat).F = 0))) ∧ Keeps [] wx w' := by
  obtain ⟨ps, own, h1, h2, h3, h4, h5, h6⟩ := h
  refine (free_at h1 i).mono ?_
  rintro e w' ⟨rfl, hk⟩
  refine ⟨?_, hk⟩
  congr 2
  apply decide_eq_decide.2
  refine and_congr_right fun hi => ?_
  obtain ⟨j, rfl⟩ := Int.eq_ofNat_of_zero_le hi.1
  rw [Int.toNat_natCast]
  rcases h5.each j (by omega) with ⟨e1, e2, -⟩ | ⟨e1, e2, -⟩
  · exact ⟨fun _ => e1, fun _ => e2⟩
  · exact ⟨fun e => absurd e e2.notFree, fun e => by omega⟩

theorem play_all {W0 wx : World} {b gp : Nat} {B : List Int} {T : List (Ino × Value)} {room m : Nat} (h : Play W0 b gp B T room m wx) {j : Nat} (hj : j < 32) :
    Calls Tryz.prog 24 #[.pointer (some ⟨b, 0, none⟩), .int .i64 (j : Int)] wx fun e w' => ∃ a cap, e = .returned (.slice a (needT T j) cap) ∧ Keeps [] wx w' := by
  obtain ⟨ps, own, h1, h2, h3, h4, h5, h6⟩ := h
  refine (all_at h1 h5.w64 (j : Int)).mono ?_
  rintro e w' ⟨v, g, l, rfl, hr, hk, hl⟩
  obtain ⟨a, cap, rfl, -, -, -⟩ := hr
  have hlen : l.length = needT T j := by
    rw [← h5.ownLen hj]
    rcases h5.each j hj with ⟨-, e2, e3⟩ | ⟨-, e2, e3⟩
    · rcases hl with ⟨n, o, g, -⟩ | ⟨-, g⟩
      · exact absurd e2 g.notFree
      · rw [g, e3]
    · rcases hl with ⟨n, o, g, g2⟩ | ⟨g, -⟩
      · obtain ⟨rfl, rfl⟩ := e2.uniq g
        rw [g2, e3, List.append_nil]
      · exact absurd e2 (g _ _)
  rw [i64s_len, hlen]
  exact ⟨a, cap, rfl, hk⟩

end Go.Proofs.YtblnnedkfkiofaaGreatDoor

namespace Go.Proofs.YtblnnedkfkiofaaGreatDoor
open Go.ChangeShapes Go.WideShapes Go.ChangeAt Go.RowKit

section
variable {H : Type} {enc : TypeId × Value → H} {W : World} {base : Nat} {spare : Nat → Bool} {held : Bool}

/-- The number in a cell. -/
def intV : Option Value → Int
  | some (.int _ z) => z
  | _ => 0

set_option maxRecDepth 100000 in
theorem open_n13 {fuel : Nat} {cs : List Value} {x : DataW H × List MemPlace} (h : DataW.trod enc Tryz.prog W base spare held fuel 22 cs = some x) : ∃ l : List Int, cs = zs l ∧ l.length = 13 := by
  obtain ⟨xs, m, -, -, hl, hlen, hf⟩ := DataW.trod_array Tryz.underlying22 h
  rw [show Tryz.prog.cellsOf 22 = 13 by kernel_rfl] at hl
  have hone : ∀ i, i < 13 → ∃ z : Int, cs[i]? = some (.int .i64 z) := fun i hi => by
    have h1 := hf i hi
    rw [show Tryz.prog.cellsOf 3 = 1 by kernel_rfl, Nat.mul_one, List.getElem?_eq_getElem (by omega : i < xs.length)] at h1
    obtain ⟨z, e, -, -⟩ := DataW.trod_int Tryz.underlying3 h1
    refine ⟨z, ?_⟩
    have h2 := congrArg (fun l => l[0]?) e
    simpa using h2
  refine ⟨(List.range 13).map fun i => intV cs[i]?, ?_, by simp⟩
  apply List.ext_getElem?
  intro i
  by_cases hi : i < 13
  · obtain ⟨z, hz⟩ := hone i hi
    have h2 : (zs ((List.range 13).map fun i => intV cs[i]?))[i]? = some (.int .i64 (intV cs[i]?)) := by simp [zs, hi]
    rw [h2, hz]
    rfl
  · rw [List.getElem?_eq_none (by omega), List.getElem?_eq_none (by simp [zs]; omega)]


end

end Go.Proofs.YtblnnedkfkiofaaGreatDoor

namespace Go.Proofs.YtblnnedkfkiofaaGreatDoor
open Go.ChangeShapes Go.WideShapes Go.ChangeAt Go.RowKit

section
variable {H : Type} {enc : TypeId × Value → H} {W : World} {base : Nat} {spare : Nat → Bool} {held : Bool}

set_option maxRecDepth 100000 in
theorem open_entry {fuel : Nat} {cs : List Value} {x : DataW H × List MemPlace} (h : DataW.trod enc Tryz.prog W base spare held fuel 66 cs = some x) :
    ∃ (s : ByteArray) (y : Int), cs = [.string s, .int .i64 y] := by
  obtain ⟨xs, n, -, -, hl, hlen, hf⟩ := DataW.trod_struct Tryz.underlying66 h
  rw [show Tryz.prog.cellsOf 66 = 2 by kernel_rfl] at hl
  match cs, hl with
  | [c0, c1], _ =>
    have f0 : DataW.trod enc Tryz.prog W base spare held n 9 (([c0, c1].drop 0).take (Tryz.prog.cellsOf 9)) = xs[0]? := hf 0 _ rfl
    have f1 : DataW.trod enc Tryz.prog W base spare held n 3 (([c0, c1].drop 1).take (Tryz.prog.cellsOf 3)) = xs[1]? := hf 1 _ rfl
    simp only [show Tryz.prog.cellsOf 9 = 1 by kernel_rfl, show Tryz.prog.cellsOf 3 = 1 by kernel_rfl, List.drop_zero, List.drop_succ_cons, List.take_succ_cons, List.take_zero] at f0 f1
    match xs, hlen with
    | [y0, y1], _ =>
      simp only [List.getElem?_cons_zero, List.getElem?_cons_succ] at f0 f1
      obtain ⟨s, e0, -⟩ := DataW.trod_string Tryz.underlying9 f0
      obtain ⟨n1, e1, -, w1⟩ := DataW.trod_int Tryz.underlying3 f1
      simp only [List.cons.injEq, and_true] at e0 e1
      subst e0 e1
      exact ⟨s, n1, rfl⟩

set_option maxRecDepth 100000 in
theorem open_ents {fuel : Nat} {cs : List Value} {x : DataW H × List MemPlace} (h : DataW.trod enc Tryz.prog W base spare held fuel 23 cs = some x) :
    ∃ v g E, cs = [v] ∧ EReads W v g E := by
  obtain ⟨a, len, cap, rfl, h1, h2, h3⟩ := open_rows (sz := 2) Tryz.underlying23 (by kernel_rfl) (by omega) h
  by_cases h0 : len = 0
  · subst h0
    exact ⟨_, 0, [], rfl, ⟨a, cap, rfl, by simp, h2, fun h => absurd rfl h⟩⟩
  · obtain ⟨g, off, rfl, hg, hx⟩ := h3 h0
    have hex : ∀ i, i < len → ∃ p : ByteArray × Int, W.cell? ⟨g, off + i * 2, none⟩ = some (.string p.1) ∧ W.cell? ⟨g, off + i * 2 + 1, none⟩ = some (.int .i64 p.2) := fun i hi => by
      obtain ⟨cs', y, n, hl, hc, ht⟩ := hx i hi
      obtain ⟨q, z, rfl⟩ := open_entry ht
      exact ⟨(q, z), hc 0 (by omega), hc 1 (by omega)⟩
    obtain ⟨f, hf⟩ : ∃ f : Nat → ByteArray × Int, ∀ i, i < len → W.cell? ⟨g, off + i * 2, none⟩ = some (.string (f i).1) ∧ W.cell? ⟨g, off + i * 2 + 1, none⟩ = some (.int .i64 (f i).2) :=
      ⟨fun i => if h : i < len then Classical.choose (hex i h) else (ByteArray.empty, 0), fun i hi => by simp only [dif_pos hi]; exact Classical.choose_spec (hex i hi)⟩
    refine ⟨_, g, (List.range len).map f, rfl, ⟨_, cap, by simp, by simpa using h1, h2, fun _ => ⟨hg, off, rfl, fun j hj => ?_⟩⟩⟩
    have hj' : j < len := by simpa using hj
    have e1 : enm ((List.range len).map f) j = (f j).1 := by simp [enm, List.getD_eq_getElem?_getD, hj']
    have e2 : eno ((List.range len).map f) j = (f j).2 := by simp [eno, List.getD_eq_getElem?_getD, hj']
    rw [e1, e2]
    exact hf j hj'

end

end Go.Proofs.YtblnnedkfkiofaaGreatDoor

namespace Go.Proofs.YtblnnedkfkiofaaGreatDoor
open Go.ChangeShapes Go.WideShapes Go.ChangeAt Go.RowKit

/-- An operation of the list. -/
structure POp where
  k : Int
  i : Int
  n : Ino
  v : Value

instance : Inhabited POp := ⟨⟨0, 0, inoZ, .slice none 0 0⟩⟩

/-- An operation's inode is in memory. -/
def POpOk (W : World) (o : POp) : Prop := (0 ≤ o.k ∧ o.k ≤ 255) ∧ o.n.B.length = 13 ∧ ∃ g, EReads W o.v g o.n.E

/-- A list of operations in memory. -/
def POps (W : World) (v : Value) (l : List POp) : Prop :=
  (∀ o ∈ l, POpOk W o) ∧ ∃ a cap, v = .slice a l.length cap ∧ l.length ≤ cap ∧ cap ≤ maxLen ∧ (l.length ≠ 0 → ∃ g off, a = some ⟨g, off, none⟩ ∧ g < W.heap.size ∧ ∀ j, j < l.length → ∀ c, c < 20 → W.cell? ⟨g, off + (j * 20 + c), none⟩ = (opL (l.getD j default).k (l.getD j default).i (l.getD j default).n (l.getD j default).v)[c]?)

theorem POpOk.keep {W w' : World} {o : POp} (h : POpOk W o) (hk : Keeps [] W w') : POpOk w' o := by
  obtain ⟨h1, h2, g, h3⟩ := h
  exact ⟨h1, h2, g, h3.keep hk (by simp)⟩

/-- The operation of a place is loaded. -/
theorem POps.get {W : World} {a : Option Addr} {cap m : Nat} {l : List POp} (h : POps W (.slice a m cap) l) {j : Nat} (hj : j < l.length) : ∃ g off, a = some ⟨g, off, none⟩ ∧ POpOk W (l.getD j default) ∧
    ∀ wx, Keeps [] W wx → (loadVar 50 ⟨g, off + j * 20, none⟩).run Tryz.prog wx = .ok (.agg (opC (l.getD j default).k (l.getD j default).i (l.getD j default).n (l.getD j default).v)) wx := by
  obtain ⟨h1, a', cap', e, h2, h3, h4⟩ := h
  cases e
  obtain ⟨g, off, rfl, hg, hc⟩ := h4 (by omega)
  have hok : POpOk W (l.getD j default) := by
    rw [List.getD_eq_getElem?_getD, List.getElem?_eq_getElem hj, Option.getD_some]
    exact h1 _ (List.getElem_mem hj)
  refine ⟨g, off, rfl, hok, fun wx hk => ?_⟩
  have hl := opL_len (k := (l.getD j default).k) (i := (l.getD j default).i) (v := (l.getD j default).v) hok.2.1
  refine run_loadVar_cells g (off + j * 20) (opL (l.getD j default).k (l.getD j default).i (l.getD j default).n (l.getD j default).v) Tryz.underlying50 rfl (by rw [hl]; exact size_op) fun c hcc => ?_
  rw [World.cell?_of_block (hk.block g hg (by simp)), Nat.add_assoc]
  exact hc j hj c (by omega)

section
variable {H : Type} {enc : TypeId × Value → H} {W : World} {base : Nat} {spare : Nat → Bool} {held : Bool}

set_option maxRecDepth 100000 in
theorem open_inoC {fuel : Nat} {l : List Value} {x : DataW H × List MemPlace} (hf : DataW.trod enc Tryz.prog W base spare held fuel 25 l = some x) : ∃ (n : Ino) (u : Value) (g : Nat), l = inoL n u ∧ n.B.length = 13 ∧ EReads W u g n.E := by
  obtain ⟨xs, n, -, -, hl, hlen, hf⟩ := DataW.trod_struct Tryz.underlying25 hf
  have hlen6 : xs.length = 6 := hlen
  rw [show Tryz.prog.cellsOf 25 = 18 by kernel_rfl] at hl
  have ci : Tryz.prog.cellsOf 3 = 1 := by kernel_rfl
  have one : ∀ (k : Nat) (hk : k < l.length) (y : DataW H × List MemPlace), DataW.trod enc Tryz.prog W base spare held n 3 ((l.drop k).take (Tryz.prog.cellsOf 3)) = some y → ∃ z : Int, l[k]? = some (.int .i64 z) := fun k hk y hy => by
    rw [ci] at hy
    obtain ⟨z, e, -, -⟩ := DataW.trod_int Tryz.underlying3 hy
    refine ⟨z, ?_⟩
    have h2 := congrArg (fun l => l[0]?) e
    simpa using h2
  have hsz' : l.length = 18 := hl
  have hsome : ∀ i, i < 6 → ∃ y, xs[i]? = some y := fun i hi => ⟨xs[i], List.getElem?_eq_getElem (by omega)⟩
  obtain ⟨y0, e0⟩ := hsome 0 (by omega)
  obtain ⟨y1, e1⟩ := hsome 1 (by omega)
  obtain ⟨y2, e2⟩ := hsome 2 (by omega)
  obtain ⟨y3, e3⟩ := hsome 3 (by omega)
  obtain ⟨y4, e4⟩ := hsome 4 (by omega)
  obtain ⟨y5, e5⟩ := hsome 5 (by omega)
  have f0 : DataW.trod enc Tryz.prog W base spare held n 3 ((l.drop 0).take (Tryz.prog.cellsOf 3)) = xs[0]? := hf 0 _ rfl
  have f1 : DataW.trod enc Tryz.prog W base spare held n 3 ((l.drop 1).take (Tryz.prog.cellsOf 3)) = xs[1]? := hf 1 _ rfl
  have f2 : DataW.trod enc Tryz.prog W base spare held n 3 ((l.drop 2).take (Tryz.prog.cellsOf 3)) = xs[2]? := hf 2 _ rfl
  have f3 : DataW.trod enc Tryz.prog W base spare held n 3 ((l.drop 3).take (Tryz.prog.cellsOf 3)) = xs[3]? := hf 3 _ rfl
  have f4 : DataW.trod enc Tryz.prog W base spare held n 22 ((l.drop 4).take (Tryz.prog.cellsOf 22)) = xs[4]? := hf 4 _ rfl
  have f5 : DataW.trod enc Tryz.prog W base spare held n 23 ((l.drop 17).take (Tryz.prog.cellsOf 23)) = xs[5]? := hf 5 _ rfl
  rw [e0] at f0
  rw [e1] at f1
  rw [e2] at f2
  rw [e3] at f3
  rw [e4] at f4
  rw [e5] at f5
  obtain ⟨z0, g0⟩ := one 0 (by omega) _ f0
  obtain ⟨z1, g1⟩ := one 1 (by omega) _ f1
  obtain ⟨z2, g2⟩ := one 2 (by omega) _ f2
  obtain ⟨z3, g3⟩ := one 3 (by omega) _ f3
  obtain ⟨B, eB, hB⟩ := open_n13 f4
  obtain ⟨u, g, E, eE, hE⟩ := open_ents f5
  rw [show Tryz.prog.cellsOf 22 = 13 by kernel_rfl] at eB
  rw [show Tryz.prog.cellsOf 23 = 1 by kernel_rfl] at eE
  refine ⟨⟨z0, z1, z2, z3, B, E⟩, u, g, ?_, hB, hE⟩
  have hl4 : l = (l.take 4) ++ ((l.drop 4).take 13 ++ (l.drop 17).take 1) := by
    have h1 : (l.drop 4).take 13 ++ (l.drop 17).take 1 = l.drop 4 := by
      rw [List.take_of_length_le (l := l.drop 17) (by rw [List.length_drop]; omega)]
      have := List.take_append_drop 13 (l.drop 4)
      rwa [List.drop_drop] at this
    rw [h1, List.take_append_drop]
  have ht4 : l.take 4 = [.int .i64 z0, .int .i64 z1, .int .i64 z2, .int .i64 z3] := by
    apply List.ext_getElem?
    intro i
    rcases (show i = 0 ∨ i = 1 ∨ i = 2 ∨ i = 3 ∨ 4 ≤ i by omega) with rfl | rfl | rfl | rfl | hi
    · rw [List.getElem?_take, if_pos (by omega), g0]; rfl
    · rw [List.getElem?_take, if_pos (by omega), g1]; rfl
    · rw [List.getElem?_take, if_pos (by omega), g2]; rfl
    · rw [List.getElem?_take, if_pos (by omega), g3]; rfl
    · rw [List.getElem?_eq_none (by rw [List.length_take]; omega), List.getElem?_eq_none (by simpa using hi)]
  rw [hl4, ht4, eB, eE]
  rfl


set_option maxRecDepth 100000 in
theorem open_pop {fuel : Nat} {cs : List Value} {x : DataW H × List MemPlace} (h : DataW.trod enc Tryz.prog W base spare held fuel 50 cs = some x) : ∃ o : POp, cs = opL o.k o.i o.n o.v ∧ POpOk W o := by
  obtain ⟨xs, n, -, -, hl, hlen, hf⟩ := DataW.trod_struct Tryz.underlying50 h
  rw [show Tryz.prog.cellsOf 50 = 20 by kernel_rfl] at hl
  match cs, hl with
  | c0 :: c1 :: rest, hl =>
    have f0 : DataW.trod enc Tryz.prog W base spare held n 5 (((c0 :: c1 :: rest).drop 0).take (Tryz.prog.cellsOf 5)) = xs[0]? := hf 0 _ rfl
    have f1 : DataW.trod enc Tryz.prog W base spare held n 3 (((c0 :: c1 :: rest).drop 1).take (Tryz.prog.cellsOf 3)) = xs[1]? := hf 1 _ rfl
    have f2 : DataW.trod enc Tryz.prog W base spare held n 25 (((c0 :: c1 :: rest).drop 2).take (Tryz.prog.cellsOf 25)) = xs[2]? := hf 2 _ rfl
    have hr : rest.length = 18 := by simpa using hl
    simp only [show Tryz.prog.cellsOf 5 = 1 by kernel_rfl, show Tryz.prog.cellsOf 3 = 1 by kernel_rfl, show Tryz.prog.cellsOf 25 = 18 by kernel_rfl,
      List.drop_zero, List.drop_succ_cons, List.take_succ_cons, List.take_zero] at f0 f1 f2
    rw [List.take_of_length_le (by omega)] at f2
    match xs, hlen with
    | [y0, y1, y2], _ =>
      simp only [List.getElem?_cons_zero, List.getElem?_cons_succ] at f0 f1 f2
      obtain ⟨n0, e0, -, w0⟩ := DataW.trod_int Tryz.underlying5 f0
      obtain ⟨n1, e1, -, w1⟩ := DataW.trod_int Tryz.underlying3 f1
      obtain ⟨m, u, g, e2, hB, hE⟩ := open_inoC f2
      simp only [List.cons.injEq, and_true] at e0 e1
      subst e0 e1 e2
      exact ⟨⟨n0, n1, m, u⟩, rfl, bounds_u8 w0, hB, g, hE⟩

theorem open_pops {fuel : Nat} {cs : List Value} {x : DataW H × List MemPlace} (h : DataW.trod enc Tryz.prog W base spare held fuel 46 cs = some x) : ∃ v l, cs = [v] ∧ POps W v l := by
  obtain ⟨a, len, cap, rfl, h1, h2, h3⟩ := open_rows (sz := 20) Tryz.underlying46 (by kernel_rfl) (by omega) h
  by_cases h0 : len = 0
  · subst h0
    exact ⟨_, [], rfl, by simp, a, cap, rfl, by simp, h2, fun h => absurd rfl h⟩
  · obtain ⟨g, off, rfl, hg, hx⟩ := h3 h0
    have hex : ∀ i, i < len → ∃ o : POp, POpOk W o ∧ ∀ c, c < 20 → W.cell? ⟨g, off + (i * 20 + c), none⟩ = (opL o.k o.i o.n o.v)[c]? := fun i hi => by
      obtain ⟨cs', y, n, hl, hc, ht⟩ := hx i hi
      obtain ⟨o, rfl, ho⟩ := open_pop ht
      exact ⟨o, ho, hc⟩
    obtain ⟨f, hf⟩ : ∃ f : Nat → POp, ∀ i, i < len → POpOk W (f i) ∧ ∀ c, c < 20 → W.cell? ⟨g, off + (i * 20 + c), none⟩ = (opL (f i).k (f i).i (f i).n (f i).v)[c]? :=
      ⟨fun i => if h : i < len then Classical.choose (hex i h) else default, fun i hi => by simp only [dif_pos hi]; exact Classical.choose_spec (hex i hi)⟩
    refine ⟨_, (List.range len).map f, rfl, ?_, _, cap, by simp, by simpa using h1, h2, fun _ => ⟨g, off, rfl, hg, fun j hj c hc => ?_⟩⟩
    · intro o ho
      simp only [List.mem_map, List.mem_range] at ho
      obtain ⟨i, hi, rfl⟩ := ho
      exact (hf i hi).1
    · have hj' : j < len := by simpa using hj
      have e1 : ((List.range len).map f).getD j default = f j := by simp [List.getD_eq_getElem?_getD, hj']
      rw [e1]
      exact (hf j hj').2 c hc
end

end Go.Proofs.YtblnnedkfkiofaaGreatDoor

namespace Go.Proofs.YtblnnedkfkiofaaGreatDoor
open Go.RowKit

set_option maxRecDepth 100000 in
set_option maxHeartbeats 4000000 in
theorem sheet6_at (ws : List Nat) (w : World) : Calls Tryz.prog 11 #[.agg (w4 ws)] w (MadeSheet w (laidX ws 4 1080)) := by
  have hcell := fun k hk => w4_get ws k hk
  have HC := Lib.hid hcell
  clear hcell
  generalize w4 ws = Z at *
  obtain ⟨mc, hmk, hoz⟩ := make_zeroW (w.alloc (.cells Z 32))
  have hz : (w.alloc (.cells Z 32)).heap.size = w.heap.size + 1 := by simp
  rw [hz] at hmk hoz
  have HO := Lib.hid hoz
  have HB : Hid (Blk ((w.alloc (.cells Z 32)).alloc (.cells mc 31)) w.heap.size Z 32) := (Blk.new w Z _).alloc _
  have HK : Hid (Keeps [] w ((w.alloc (.cells Z 32)).alloc (.cells mc 31))) := ((Keeps.refl [] w).alloc _).alloc _
  clear hoz hz
  go_enter Tryz.func11, Tryz.ntmps11
  go_wp2_with fail
  clear hmk
  go_loopg [4] 4 (fun gh s4 wx => ∃ k : Nat, k + gh = 4 ∧ s4 = .int .i64 (k : Int) ∧ Hid (Owns wx (.slice (some ⟨w.heap.size + 1, 0, none⟩) 3128 3128) (w.heap.size + 1) 31 1 3128 (u64s (laidX ws k 1080)) ∧ Blk wx w.heap.size Z 32 ∧ Keeps [] w wx))
  case atStart => exact ⟨0, by omega, rfl, by rw [← laidX_zero]; exact HO.out, HB.out, HK.out⟩
  case round =>
    clear HO HB HK
    obtain ⟨k, hk, rfl, HR⟩ := hrel
    cases gk with
    | zero =>
      obtain rfl : k = 4 := by omega
      have HN := Lib.hid (txNew_at (HR.out.1.reads))
      have HKP := Lib.hid HR.out.2.2
      clear hk HR
      go_wp2_with fail
      refine HN.out.mono ?_; rintro e w1 ⟨b, rfl, h1, h2, h3⟩
      have HM : Hid (MadeSheet w (laidX ws 4 1080) (.returned (.pointer (some ⟨b, 0, none⟩))) w1) := by
        have h2' : ShAt w1 b b (padW (laidX ws 4 1080)) [] := h2
        have hp : padW (laidX ws 4 1080) = laidX ws 4 1080 := by
          unfold padW
          rw [laidX_len, List.take_of_length_le (by rw [laidX_len]; omega), Nat.sub_self, List.replicate_zero, List.append_nil]
        rw [hp] at h2'
        exact ⟨b, rfl, Nat.le_trans HKP.out.size h1, h2', HKP.out.trans h3 (by simp)⟩
      clear h1 h2 h3
      go_wp2_with fail
      go_ret
      exact HM.out
    | succ gg =>
      have hk4 : k < 4 := by omega
      have hlt : (k : Int) < 4 := by omega
      have hk0 : (0 : Int) ≤ (k : Int) := by omega
      obtain ⟨ho, hb, hkp⟩ := HR.out
      obtain ⟨-, hc, hf⟩ := u64s_getO ho (laidX_len _ _ _) (show 816 + k < 3128 by omega)
      have c0 : wr.cell? ⟨w.heap.size, k, none⟩ = some (.int .u64 ((ws.getD k 0 : Nat) : Int)) := by rw [hb.cell, HC.out k hk4]
      have HS : Hid (Owns (wr.setCell ⟨w.heap.size + 1, 816 + k, none⟩ (.int .u64 ((ws.getD k 0 : Nat) : Int))) (.slice (some ⟨w.heap.size + 1, 0, none⟩) 3128 3128) (w.heap.size + 1) 31 1 3128 (u64s (laidX ws (k + 1) 1080))) := by
        show Owns _ _ _ _ _ _ _
        rw [← laidX_word ws k hk4]
        exact ho.set64 _ _
      have HBN : Hid (Blk (wr.setCell ⟨w.heap.size + 1, 816 + k, none⟩ (.int .u64 ((ws.getD k 0 : Nat) : Int))) w.heap.size Z 32) := hb.other (by simp) _
      have HKP := Lib.hid hkp
      clear ho hb hkp HR
      generalize (laidX ws k 1080).getD (816 + k) 0 = old at *
      generalize ws.getD k 0 = x at *
      go_wp2_with fail
      go_roundg gg
      case measure => omega
      case rel => exact ⟨k + 1, by omega, by go_num, HS.out, HBN.out, HKP.out.setCell (by simp) _⟩

end Go.Proofs.YtblnnedkfkiofaaGreatDoor

namespace Go.Proofs.YtblnnedkfkiofaaGreatDoor
open Go.RowKit
section
variable {P : Program} {ops : Array Oper} {Q : Exit → Act → World → Prop} {md : Region.Mode} {S : World → Prop}

/-- The last operations, one behind the other, S being shown behind each; from whatever world that meets S. -/
def tailU (P : Program) (ops : Array Oper) (Q : Exit → Act → World → Prop) (S : World → Prop) : List Oper → Act → Prop
  | [], a => ∀ w, S w → Q .normal a w
  | o :: rest, a => ∀ w, S w → wpList P ops (andS S (fun a' _ => tailU P ops Q S rest a') Q) [o] a w

theorem wpAnyU_chain {F L : Nat} : ∀ (tail : List Nat) (tl : List Oper) (listed : Array Bool) (a : Act), lastB md ops listed tail = true → tl = tail.filterMap (fun i => ops[i]?) → tl.length = tail.length → tailU P ops Q S tl a →
    wpAnyU P md ops Q (fun _ => S) F L tail.length listed a
  | [], tl, listed, a, hb, hl, _, h => by
    have : tl = [] := by rw [hl]; rfl
    subst this
    exact ⟨by simpa [lastB] using hb, h⟩
  | i :: is, tl, listed, a, hb, hl, hlen, h => by
    unfold lastB at hb
    simp only [Bool.and_eq_true] at hb
    have h1 : Region.ready md ops listed = [i] := by simpa using hb.1
    cases ho : ops[i]? with
    | none =>
      exfalso
      rw [hl, List.filterMap_cons, ho] at hlen
      have := List.length_filterMap_le (fun i => ops[i]?) is
      simp only [List.length_cons] at hlen
      omega
    | some o =>
      rw [List.filterMap_cons, ho] at hl
      subst hl
      have key : ∀ w, S w → wpOp P ops Q i (fun a' w' => S w' ∧ wpAnyU P md ops Q (fun _ => S) F L is.length (listed.setIfInBounds i true) a') a w := fun w hS =>
        wpOp_mono (fun a' w' h' => ⟨h'.1, wpAnyU_chain is _ _ a' hb.2 rfl (by simpa using hlen) h'.2⟩) (wpOp_of_list ho (h w hS))
      refine ⟨fun h0 => (by rw [h1] at h0; cases h0), fun j hj _ w hS => ?_, fun hm w hS => ?_⟩
      · rw [h1, List.mem_singleton] at hj
        subst hj
        exact key w hS
      · rw [h1, List.mem_singleton] at hm
        subst hm
        exact wpOp_mono (fun a' w' h' => wpAny_of_U is.length _ a' h'.2 w' h'.1) (key w hS)

/-- THE LAW. -/
theorem wp_region_loose {id : Nat} {a : Act} {w : World} (path tail : List Nat) (L : Nat) {l : List Oper} {o : Oper} {rest : List Oper} (hm : P.follows .mixedOrders = true) (hns : Region.noSelect ops = true)
    (hp : pathB .any ops ops.size L (listedTo ops.size 0) path = true) (hl : l = path.filterMap (fun i => ops[i]?)) (hll : l.length = path.length) (hb : lastB .any ops (listedOf (listedTo ops.size 0) path) tail = true)
    (htl : o :: rest = tail.filterMap (fun i => ops[i]?)) (htll : (o :: rest).length = tail.length) (hsz : tail.length + path.length = ops.size) (hQ : ∀ d v c a w, Q (.panic c) (Act.put a d v) w → Q (.panic c) a w) (hS : S w.drew)
    (h : EachList P ops S (fun a w => wpList P ops (andS S (fun a' _ => tailU P ops Q S rest a') Q) [o] a w) l a) : (Code.region id ops true).wp P Q a w := by
  refine wp_region_any hm ?_
  rw [← listedTo_zero]
  refine wpAny_of_U (S := fun _ => S) (F := ops.size) (L := L) _ _ _ ?_ _ hS
  have hc0 : Closed .any ops (listedTo ops.size 0) := by
    intro k o ho hl
    rw [listedTo_zero] at hl
    have hk : k < ops.size := (Array.getElem?_eq_some_iff.1 ho).1
    simp [hk] at hl
  have key := pathU (md := .any) (Q := Q) (S := fun _ => S) (F := ops.size) (L := L) hns hQ (E := fun a => ∀ w, S w → wpList P ops (andS S (fun a' _ => tailU P ops Q S rest a') Q) [o] a w) tail.length (listedOf (listedTo ops.size 0) path)
    (fun a h => wpAnyU_chain tail (o :: rest) _ a hb htl htll h) path l (listedTo ops.size 0) a hc0 hp rfl hl hll (EachList.toB _ _ h)
  rw [hsz] at key
  exact key
end
end Go.Proofs.YtblnnedkfkiofaaGreatDoor
