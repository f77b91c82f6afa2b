/-
  Layer 7 (fmt2): Need. Layer 6 (fmt1): entryRow. Layer 4 (tx): Put. Layer 6 (fmt1): rowAt, putRow. Layer 5 (palloc): the bits of a word as plain numbers: how many are set, which, and how the counting of math/bits comes to it. Nothing of the program is named here. Layer 5 (palloc): the bits of four words as plain lists: which blocks are used, which are free, what is put to set one, and to take some. Nothing of the program is named here. Layer 6 (fmt1), plain: the entries that words tell. Nothing of the program is named here. Layer 4 (tx): Block.
-/
import Derived.Test.YtmhcnkjmnbnldaaDoorG02
import Derived.Test.YtmhcnkjmnbnldaaDoorG03
import Derived.Test.YtmhcnkjmnbnldaaDoorG01
import Derived.Deep.RegionWith
import Derived.IntWalk
import Derived.Deep.RegionLaw
import Derived.Deep.AppendLies
import Derived.Lib.TrailingZeros
import Derived.Test.YtmhcnkjmnbnldaaDoorG00
namespace Go.Proofs.YtmhcnkjmnbnldaaDoor
open Go.RowKit

/-- How many blocks the first k buckets take, and the other runs. -/
def needTo (n : Ino) : Nat → Nat
  | 0 => if 6 < (runsL n.B).length then 1 else 0
  | k + 1 => needTo n k + ((sprE n.E k).length + 2) / 3

def needF (n : Ino) : Nat := needTo n 4

theorem needTo_le (n : Ino) (h : n.E.length ≤ 10000) : ∀ k, needTo n k ≤ 1 + k * 4000
  | 0 => by unfold needTo; split <;> omega
  | k + 1 => by
    unfold needTo
    have := needTo_le n h k
    have := sprE_len n.E k
    omega

theorem index_four (S : Nat → Value) {k : Nat} (hk : k < 4) (w : World) : (Instr.index 88 (.agg (fourC S)) (.int .i64 (k : Int))).run Tryd.prog w = .ok (S k) w := by
  rcases (show k = 0 ∨ k = 1 ∨ k = 2 ∨ k = 3 by omega) with rfl | rfl | rfl | rfl
  all_goals (show Sem.run _ _ _ = _; kernel_rfl)

set_option maxRecDepth 100000 in
set_option maxHeartbeats 8000000 in
theorem need2_at (n : Ino) (v : Value) (g : Nat) (hB : n.B.length = 13) (w : World) (hE : EReads w v g n.E) (hlen : n.E.length ≤ 10000) (hsz : ∀ k, k < n.E.length → (enm n.E k).size ≤ 9223372036854775807) :
    Calls Tryd.prog 27 #[.agg (inoC n v)] w fun e w' => e = .returned (.int .i64 ((if RightP n then needF n else 0 : Nat) : Int)) ∧ Keeps [] w w' := by
  have HR : Hid (∀ wx, Keeps [] w wx → Calls Tryd.prog 14 #[.agg (inoC n v)] wx fun e w' => e = .returned (.bool (decide (RightP n))) ∧ Keeps [] wx w') := fun wx hk => right_at n v g hB wx (hE.keep hk (by simp)) hsz
  have HRUN := Lib.hid (fun wx => runs_at n.B hB wx)
  have HSP : Hid (∀ wx, Keeps [] w wx → Calls Tryd.prog 54 #[v] wx (SpreadPost wx n.E)) := fun wx hk => spread_at (hE.keep hk (by simp)) hlen hsz
  have hb0 := Blk.new w (inoC n v) 25
  have HK0 : Hid (Keeps [] w (w.alloc (.cells (inoC n v) 25))) := (Keeps.refl [] w).alloc _
  have HLI := Lib.hid (load_ino hb0 hB)
  have HLB : Hid (∀ wx, Keeps [] (w.alloc (.cells (inoC n v) 25)) wx → (loadVar 22 ⟨w.heap.size, 4, none⟩).run Tryd.prog wx = .ok (.agg (zs n.B).toArray) wx) := fun wx hk => load_n13 (off := 4) (hb0.keep hk (by simp)) hB fun k hk => inoC_B _ (by omega)
  have HC17 : Hid (∀ wx, Keeps [] (w.alloc (.cells (inoC n v) 25)) wx → wx.cell? ⟨w.heap.size, 17, none⟩ = some v) := fun wx hk => by rw [(hb0.keep hk (by simp)).cell]; exact inoC_E _ hB
  have HRL : Hid ((runsL n.B).length ≤ 13) := runsTo_len n.B 13
  have HLE : Hid (∀ k, (sprE n.E k).length ≤ 10000) := fun k => Nat.le_trans (sprE_len _ _) hlen
  have HNT := Lib.hid (fun k => needTo_le n hlen k)
  have HSUC : Hid (∀ k, needTo n (k + 1) = needTo n k + ((sprE n.E k).length + 2) / 3) := fun _ => rfl
  have HZERO : Hid (needTo n 0 = if 6 < (runsL n.B).length then 1 else 0) := rfl
  clear hb0 hE hsz hlen
  generalize inoC n v = Z at *
  generalize (zs n.B).toArray = ZB at *
  by_cases hR : RightP n
  · rw [decide_eq_true hR] at HR
    rw [if_pos hR]
    clear hR
    unfold needF
    generalize runsL n.B = R at *
    go_enter Tryd.func27, Tryd.ntmps27
    go_wp2_with ((with_reducible show wpList _ _ _ (⟨_, .load 25 (.tmp 1), _, _, _, _⟩ :: _) _ _); refine wpList_load_any rfl 25 (.tmp 1) rfl _ rfl _ HLI.out ?_)
    refine (HR.out _ HK0.out).mono ?_; rintro e w1 ⟨rfl, hk1⟩
    have HK1 := Lib.hid hk1
    have HL1 := Lib.hid (HLB.out w1 hk1)
    clear hk1
    go_wp2_with ((with_reducible show wpList _ _ _ (⟨_, .load 22 (.tmp 9), _, _, _, _⟩ :: _) _ _); refine wpList_load_any rfl 22 (.tmp 9) rfl _ rfl _ HL1.out ?_)
    refine (HRUN.out _).mono ?_; rintro e w2 ⟨va, ga, rfl, hra, hga, hka⟩
    obtain ⟨aa, ca, rfl, -, -, -⟩ := u64s_cell hra
    have HK2 := Lib.hid (HK1.out.trans' hka)
    have c17 := HC17.out w2 HK2.out
    clear hra hga hka
    generalize hrl : R.length = m at *
    have HZ := HZERO.out
    clear hrl
    obtain ⟨d, hd⟩ : ∃ d, d = needTo n 0 := ⟨_, rfl⟩
    rw [← hd] at HZ
    have HD := Lib.hid hd
    clear hd HZERO
    by_cases h6 : 6 < m
    · rw [if_pos h6] at HZ
      have h6' : (6 : Int) < (m : Int) := by omega
      have HDZ := Lib.hid HZ
      clear HZ
      go_wp2_with fail
      refine (HSP.out _ (HK0.out.trans' HK2.out)).mono ?_; rintro e w3 ⟨S, rfl, hk3, hS⟩
      have HK3 := Lib.hid (HK0.out.trans' (HK2.out.trans' hk3))
      have HSR : Hid (∀ k, k < 4 → ∃ a c, S k = .slice a (sprE n.E k).length c) := fun k hk => by
        obtain ⟨g, ⟨a, c, h, -⟩, -⟩ := hS k hk
        exact ⟨a, c, h⟩
      have hix := fun k (hk : k < 4) wx => index_four S hk wx
      clear hS hk3 c17
      generalize (Value.agg (fourC S)) = ZS at *
      go_wp2_with fail
      clear h6'
      go_loopg [3, 19] 4 (fun gh s3 s19 wx => ∃ k : Nat, k + gh = 4 ∧ s19 = .int .i64 (k : Int) ∧ s3 = .int .i64 ((needTo n k : Nat) : Int) ∧ wx = w3)
      case atStart => exact ⟨0, by omega, rfl, by rw [← HD.out, HDZ.out]; rfl, rfl⟩
      case round =>
        obtain ⟨k, hk, rfl, rfl, rfl⟩ := hrel
        cases gk with
        | zero =>
          obtain rfl : k = 4 := by omega
          clear hk hix
          go_wp2_with fail
          go_ret
          exact ⟨rfl, HK3.out⟩
        | succ gg =>
          have hk4 : k < 4 := by omega
          have hlt : (k : Int) < 4 := by omega
          have hk0 : (0 : Int) ≤ (k : Int) := by omega
          have hixk := hix k hk4 wr
          obtain ⟨a, c, hSk⟩ := HSR.out k hk4
          rw [hSk] at hixk
          have hl := HLE.out k
          have hnt := HNT.out k
          have HSU := Lib.hid (HSUC.out k)
          have HPA := Lib.hid (parts_at (sprE n.E k).length 3 (by omega) (by omega) (by omega))
          generalize (sprE n.E k).length = q at *
          rw [show q + 3 - 1 = q + 2 by omega] at HPA
          have hqb : (q + 2) / 3 ≤ 4000 := by omega
          generalize (q + 2) / 3 = z at *
          generalize needTo n k = y at *
          clear hix hSk
          go_wp2_with fail
          refine (HPA.out _).mono ?_; rintro e w' ⟨rfl, rfl⟩
          go_wp2_with fail
          go_roundg gg
          case measure => omega
          case rel => exact ⟨k + 1, by omega, by go_num, by rw [HSU.out]; go_num, rfl⟩
    · rw [if_neg h6] at HZ
      have h6' : ¬ (6 : Int) < (m : Int) := by omega
      have HDZ := Lib.hid HZ
      clear HZ
      go_wp2_with fail
      refine (HSP.out _ (HK0.out.trans' HK2.out)).mono ?_; rintro e w3 ⟨S, rfl, hk3, hS⟩
      have HK3 := Lib.hid (HK0.out.trans' (HK2.out.trans' hk3))
      have HSR : Hid (∀ k, k < 4 → ∃ a c, S k = .slice a (sprE n.E k).length c) := fun k hk => by
        obtain ⟨g, ⟨a, c, h, -⟩, -⟩ := hS k hk
        exact ⟨a, c, h⟩
      have hix := fun k (hk : k < 4) wx => index_four S hk wx
      clear hS hk3 c17
      generalize (Value.agg (fourC S)) = ZS at *
      go_wp2_with fail
      clear h6'
      go_loopg [3, 19] 4 (fun gh s3 s19 wx => ∃ k : Nat, k + gh = 4 ∧ s19 = .int .i64 (k : Int) ∧ s3 = .int .i64 ((needTo n k : Nat) : Int) ∧ wx = w3)
      case atStart => exact ⟨0, by omega, rfl, by rw [← HD.out, HDZ.out]; rfl, rfl⟩
      case round =>
        obtain ⟨k, hk, rfl, rfl, rfl⟩ := hrel
        cases gk with
        | zero =>
          obtain rfl : k = 4 := by omega
          clear hk hix
          go_wp2_with fail
          go_ret
          exact ⟨rfl, HK3.out⟩
        | succ gg =>
          have hk4 : k < 4 := by omega
          have hlt : (k : Int) < 4 := by omega
          have hk0 : (0 : Int) ≤ (k : Int) := by omega
          have hixk := hix k hk4 wr
          obtain ⟨a, c, hSk⟩ := HSR.out k hk4
          rw [hSk] at hixk
          have hl := HLE.out k
          have hnt := HNT.out k
          have HSU := Lib.hid (HSUC.out k)
          have HPA := Lib.hid (parts_at (sprE n.E k).length 3 (by omega) (by omega) (by omega))
          generalize (sprE n.E k).length = q at *
          rw [show q + 3 - 1 = q + 2 by omega] at HPA
          have hqb : (q + 2) / 3 ≤ 4000 := by omega
          generalize (q + 2) / 3 = z at *
          generalize needTo n k = y at *
          clear hix hSk
          go_wp2_with fail
          refine (HPA.out _).mono ?_; rintro e w' ⟨rfl, rfl⟩
          go_wp2_with fail
          go_roundg gg
          case measure => omega
          case rel => exact ⟨k + 1, by omega, by go_num, by rw [HSU.out]; go_num, rfl⟩
  · rw [decide_eq_false hR] at HR
    rw [if_neg hR]
    clear hR
    go_enter Tryd.func27, Tryd.ntmps27
    go_wp2_with ((with_reducible show wpList _ _ _ (⟨_, .load 25 (.tmp 1), _, _, _, _⟩ :: _) _ _); refine wpList_load_any rfl 25 (.tmp 1) rfl _ rfl _ HLI.out ?_)
    refine (HR.out _ HK0.out).mono ?_; rintro e w1 ⟨rfl, hk1⟩
    have HK1 := Lib.hid (HK0.out.trans' hk1)
    clear hk1
    go_wp2_with fail
    go_ret
    exact ⟨rfl, HK1.out⟩

end Go.Proofs.YtmhcnkjmnbnldaaDoor

namespace Go.Proofs.YtmhcnkjmnbnldaaDoor
open Go.RowKit

/-- The i-th word of the entries from the f-th on. -/
def entX (E : List (ByteArray × Int)) (f i : Nat) : Int := if i % 2 = 0 then ((wordV (bl (enm E (f + i / 2))) : Nat) : Int) else eno E (f + i / 2)

/-- The first j entries' words, noughts behind. -/
def entTo (E : List (ByteArray × Int)) (f j : Nat) : List Int := (List.range 8).map fun i => if i < 2 * j then entX E f i else 0

/-- The words of the k-th block of entries. -/
def entRow (E : List (ByteArray × Int)) (k : Nat) : List Int := entTo E (4 * k) (min 4 (E.length - 4 * k))

theorem entTo_len (E : List (ByteArray × Int)) (f j : Nat) : (entTo E f j).length = 8 := by simp [entTo]

theorem entTo_get (E : List (ByteArray × Int)) (f j i : Nat) (h : i < 8) : (entTo E f j).getD i 0 = if i < 2 * j then entX E f i else 0 := by
  rw [entTo, List.getD_eq_getElem?_getD, List.getElem?_map, List.getElem?_range h]
  rfl

theorem entTo_zero (E : List (ByteArray × Int)) (f : Nat) : entTo E f 0 = List.replicate 8 0 := by
  refine z_ext (by simp [entTo]) fun i hi => ?_
  rw [entTo_len] at hi
  rw [entTo_get _ _ _ _ hi, if_neg (by omega), List.getD_eq_getElem?_getD, List.getElem?_replicate, if_pos hi]
  rfl

theorem entTo_succ (E : List (ByteArray × Int)) (f j : Nat) : ((entTo E f j).set (2 * j) ((wordV (bl (enm E (f + j))) : Nat) : Int)).set (2 * j + 1) (eno E (f + j)) = entTo E f (j + 1) := by
  refine z_ext (by simp [entTo]) fun i hi => ?_
  rw [List.length_set, List.length_set, entTo_len] at hi
  rw [getD_set_any, getD_set_any, entTo_get _ _ _ _ hi, entTo_get _ _ _ _ hi, List.length_set, entTo_len]
  by_cases h1 : 2 * j + 1 = i
  · subst h1
    rw [if_pos ⟨rfl, by omega⟩, if_pos (by omega), entX, if_neg (by omega), show (2 * j + 1) / 2 = j by omega]
  · rw [if_neg (fun h => h1 h.1)]
    by_cases h2 : 2 * j = i
    · subst h2
      rw [if_pos ⟨rfl, by omega⟩, if_pos (by omega), entX, if_pos (by omega), show 2 * j / 2 = j by omega]
    · rw [if_neg (fun h => h2 h.1)]
      by_cases h3 : i < 2 * j
      · rw [if_pos h3, if_pos (by omega)]
      · rw [if_neg h3, if_neg (by omega)]

theorem cells_entry : Tryd.prog.cellsOf 57 = 2 := by kernel_rfl
theorem size_entry : (Tryd.prog.info? 57).map (·.size) = some 2 := by kernel_rfl

/-- entries[f:h] -/
theorem slice_entries (g off n cap f h : Nat) (hf : f < cap) (hfh : f ≤ h) (hh : h ≤ cap) (w : World) :
    (Instr.sliceAt 23 (.slice (some ⟨g, off, none⟩) n cap) (some (.int .i64 (f : Int))) (some (.int .i64 (h : Int))) none).run Tryd.prog w = .ok (.slice (some ⟨g, off + f * 2, none⟩) (h - f) (cap - f)) w := by
  have hu : Tryd.prog.underlying 23 = some (.slice (Tryd.prog.elem 23)) := by kernel_rfl
  have he : Tryd.prog.elem 23 = 57 := by kernel_rfl
  have hs : (sizeOf 57).run Tryd.prog w = .ok 2 w := by kernel_rfl
  rw [run_sliceAt_slice _ _ _ _ _ _ hu, run_slice_lh _ _ _ _ _ hu .i64 .i64 (f : Int) (h : Int) (by omega) (by omega) (by omega), he, hs]
  simp only [Result.andThen_ok, sliced, Int.toNat_natCast]
  rw [if_neg (by omega)]
  simp [add_plain]

theorem slice_all8 (b : Nat) (w : World) : (Instr.sliceAt 63 (.pointer (some ⟨b, 0, none⟩)) none none none).run Tryd.prog w = .ok (.slice (some ⟨b, 0, none⟩) 8 8) w := by show Sem.run _ _ _ = _; kernel_rfl

/-- copy(d[o:], s), of words; s as it reads. -/
theorem copy_reads {w : World} {b T o n cap gs : Nat} {v : Value} {dl sl : List Int} (hb : Blk w b (u64s dl).toArray T) (hs : Reads w v gs (u64s sl)) (hm : sl.length ≤ n) (hfit : o + sl.length ≤ dl.length) :
    ∃ r w', (∀ ty, (Builtin.copy_ #[44, 44] ty #[.slice (some ⟨b, o, none⟩) n cap, v]).run Tryd.prog w = .ok r w') ∧ Blk w' b (u64s (dl.take o ++ sl ++ dl.drop (o + sl.length))).toArray T ∧ Keeps [b] w w' := by
  obtain ⟨a, c, rfl, h1, h2, HC⟩ := u64s_cell hs
  by_cases h0 : sl.length = 0
  · obtain rfl := List.eq_nil_of_length_eq_zero h0
    refine ⟨_, w, fun ty => run_copy_none (P := Tryd.prog) w 44 44 ty 30 _ a n cap 0 c Tryd.underlying44 size_u64 (by simp), ?_, Keeps.refl _ _⟩
    rw [List.append_nil, List.length_nil, Nat.add_zero, List.take_append_drop]
    exact hb
  · obtain ⟨hg, off, rfl, -⟩ := HC.out 0 (by omega)
    have hl : (u64s sl).length = min sl.length n := by rw [u64s_len]; omega
    refine ⟨_, _, fun ty => run_copy_row (P := Tryd.prog) w 44 44 ty 30 b o n cap ⟨gs, off, none⟩ sl.length c (u64s dl).toArray T (u64s sl) Tryd.underlying44 size_u64 hb hl ?_ ?_ ?_, ?_, (Keeps.refl _ _).setRow (by simp) _⟩
    · intro j u hu
      have hj : j < sl.length := by
        have := (List.getElem?_eq_some_iff.1 hu).1
        rwa [u64s_len] at this
      obtain ⟨-, off', ho', hc⟩ := HC.out j hj
      cases ho'
      rw [u64s_get hj] at hu
      rw [add_plain, hc, ← hu]
    · rw [List.size_toArray, u64s_len, u64s_len]; omega
    · exact fun u hu => u64s_one _ u hu
    · have e : ((u64s dl).toArray.toList.take o ++ u64s sl ++ (u64s dl).toArray.toList.drop (o + (u64s sl).length)).toArray = (u64s (dl.take o ++ sl ++ dl.drop (o + sl.length))).toArray := by
        rw [u64s_len]
        simp [u64s, List.map_take, List.map_drop]
      rw [e]
      exact setRow_blk hb

/-- A part of a row of entries. -/
theorem EReads.sub {w : World} {g off n cap : Nat} {E : List (ByteArray × Int)} (h : EReads w (.slice (some ⟨g, off, none⟩) n cap) g E) (hn : n = E.length) (f c : Nat) (hfc : f + c ≤ n) : EReads w (.slice (some ⟨g, off + f * 2, none⟩) c (cap - f)) g ((E.drop f).take c) := by
  obtain ⟨a, cap', hv, h1, h2, h3⟩ := h
  cases hv
  have hl : ((E.drop f).take c).length = c := by rw [List.length_take, List.length_drop]; omega
  refine ⟨_, cap - f, by rw [hl], by omega, by omega, fun h0 => ?_⟩
  rw [hl] at h0
  obtain ⟨hg, off', ho, hc⟩ := h3 (by omega)
  cases ho
  refine ⟨hg, _, rfl, fun j hj => ?_⟩
  rw [hl] at hj
  obtain ⟨c0, c1⟩ := hc (f + j) (by omega)
  have e : ((E.drop f).take c).getD j (ByteArray.empty, 0) = E.getD (f + j) (ByteArray.empty, 0) := by
    simp [List.getD_eq_getElem?_getD, hj]
  rw [show off + f * 2 + j * 2 = off + (f + j) * 2 by omega, enm, eno, e]
  exact ⟨c0, c1⟩

theorem ent_sub (E : List (ByteArray × Int)) (f c k : Nat) (h : k < c) : enm ((E.drop f).take c) k = enm E (f + k) ∧ eno ((E.drop f).take c) k = eno E (f + k) := by
  have e : ((E.drop f).take c).getD k (ByteArray.empty, 0) = E.getD (f + k) (ByteArray.empty, 0) := by
    simp [List.getD_eq_getElem?_getD, h]
  rw [enm, eno, e]
  exact ⟨rfl, rfl⟩

theorem EntOk.sub {E : List (ByteArray × Int)} (h : EntOk E) (f c : Nat) (hfc : f + c ≤ E.length) : EntOk ((E.drop f).take c) := by
  have hl : ((E.drop f).take c).length = c := by rw [List.length_take, List.length_drop]; omega
  refine ⟨by rw [hl]; have := h.len; omega, fun k hk => ?_, fun k hk => ?_⟩
  · rw [hl] at hk
    rw [(ent_sub E f c k hk).1]
    exact h.size _ (by omega)
  · rw [hl] at hk
    rw [(ent_sub E f c k hk).2]
    exact h.ino _ (by omega)

theorem entTo_words (E : List (ByteArray × Int)) (f j : Nat) (hj : j ≤ 4) (h : f + j ≤ E.length) : entTo E f j = wordsE ((E.drop f).take j) ++ List.replicate (8 - 2 * j) 0 := by
  have hl : ((E.drop f).take j).length = j := by rw [List.length_take, List.length_drop]; omega
  refine z_ext (by rw [entTo_len, List.length_append, wordsE_len, hl, List.length_replicate]; omega) fun i hi => ?_
  rw [entTo_len] at hi
  rw [entTo_get _ _ _ _ hi]
  by_cases h2 : i < 2 * j
  · rw [if_pos h2, List.getD_eq_getElem?_getD, List.getElem?_append_left (by rw [wordsE_len, hl]; omega), ← List.getD_eq_getElem?_getD]
    obtain ⟨w0, w1⟩ := wordsE_get ((E.drop f).take j) (i / 2) (by omega)
    obtain ⟨e0, e1⟩ := ent_sub E f j (i / 2) (by omega)
    unfold entX
    by_cases h3 : i % 2 = 0
    · rw [if_pos h3, ← e0, ← w0, show i / 2 * 2 = i by omega]
    · rw [if_neg h3, ← e1, ← w1, show i / 2 * 2 + 1 = i by omega]
  · rw [if_neg h2, List.getD_eq_getElem?_getD, List.getElem?_append_right (by rw [wordsE_len, hl]; omega), List.getElem?_replicate]
    split <;> rfl

set_option maxRecDepth 100000 in
set_option maxHeartbeats 4000000 in
theorem entryRow_at {w : World} {v : Value} {g : Nat} {E : List (ByteArray × Int)} (hE : EReads w v g E) (ho : EntOk E) (k : Nat) (hk : 4 * k < E.length) :
    Calls Tryd.prog 37 #[v, .int .i64 (k : Int)] w fun e w' => e = .returned (.agg (u64s (entRow E k)).toArray) ∧ Keeps [] w w' := by
  obtain ⟨a, cap, rfl, hcap, hmax, HEC⟩ := hE.open
  obtain ⟨hg, off, rfl, -, -⟩ := HEC.out _ hk
  unfold maxLen at hmax
  have hlen := ho.len
  obtain ⟨c, hc⟩ : ∃ c, c = min 4 (E.length - 4 * k) := ⟨_, rfl⟩
  have hc4 : c ≤ 4 := by omega
  unfold entRow
  rw [← hc]
  obtain ⟨f, hf⟩ : ∃ f, f = 4 * k := ⟨_, rfl⟩
  rw [← hf] at hk hc ⊢
  have hkf : (k : Int) * 4 = (f : Int) := by omega
  have hsl := fun wx => slice_entries g off E.length cap f (f + c) (by omega) (by omega) (by omega) wx
  rw [show f + c - f = c by omega] at hsl
  have HSL : Hid (∀ H : Int, H = (f : Int) + (c : Int) → ∀ wx, (Instr.sliceAt 23 (.slice (some ⟨g, off, none⟩) E.length cap) (some (.int .i64 (f : Int))) (some (.int .i64 H)) none).run Tryd.prog wx = .ok (.slice (some ⟨g, off + f * 2, none⟩) c (cap - f)) wx) := fun H hH wx => by
    have := hsl wx
    rw [show ((f + c : Nat) : Int) = H by omega] at this
    exact this
  have hzv := zero_r8
  obtain ⟨H, hH, hHc⟩ : ∃ H : Int, H = (f : Int) + (c : Int) ∧ ((((f : Int) + 4 ≤ (E.length : Int)) ∧ H = (f : Int) + 4) ∨ ((E.length : Int) < (f : Int) + 4 ∧ H = (E.length : Int))) := ⟨_, rfl, by omega⟩
  have hs2 := HSL.out H hH
  have hfc : f + c ≤ E.length := by omega
  have HSUB := Lib.hid (hE.sub rfl f c hfc)
  have HOKS := Lib.hid (ho.sub f c hfc)
  have HTW := Lib.hid (entTo_words E f c hc4 hfc)
  have HWL : Hid ((wordsE ((E.drop f).take c)).length = 2 * c) := by
    show _ = _
    rw [wordsE_len, List.length_take, List.length_drop]
    omega
  have HTL := Lib.hid (entTo_len E f c)
  have HENT : Hid (∀ wx, Keeps [] w wx → Calls Tryd.prog 64 #[.slice (some ⟨g, off + f * 2, none⟩) c (cap - f)] wx (MadeWords wx (wordsE ((E.drop f).take c)))) := fun wx hk => rowEntries_at (HSUB.out.keep hk (by simp)) HOKS.out
  generalize wordsE ((E.drop f).take c) = WE at *
  have hsa := slice_all8 (w.heap.size + 1)
  obtain ⟨W0, hW0⟩ : ∃ W0, W0 = (w.alloc (.cells (u64s (List.replicate 8 0)).toArray 63)).alloc (.cells (u64s (List.replicate 8 0)).toArray 63) := ⟨_, rfl⟩
  have HB1 : Hid (Blk W0 (w.heap.size + 1) (u64s (List.replicate 8 0)).toArray 63) := by
    have := Blk.new (w.alloc (.cells (u64s (List.replicate 8 0)).toArray 63)) (u64s (List.replicate 8 0)).toArray 63
    have e : (w.alloc (.cells (u64s (List.replicate 8 0)).toArray 63)).heap.size = w.heap.size + 1 := by simp
    rw [e, ← hW0] at this
    exact this
  have HB2 : Hid (Blk W0 w.heap.size (u64s (List.replicate 8 0)).toArray 63) := by
    rw [hW0]
    exact (Blk.new w _ _).alloc _
  have HK : Hid (Keeps [] w W0) := by
    rw [hW0]
    exact ((Keeps.refl _ _).alloc _).alloc _
  have HW0 := Lib.hid hW0
  clear hE ho hsl HSL hf hc hW0 HSUB HOKS hs2
  generalize hz8 : (u64s (List.replicate 8 0)).toArray = Z8 at *
  have HB1u : Hid (∀ wx, Keeps [] W0 wx → Blk wx (w.heap.size + 1) (u64s (List.replicate 8 0)).toArray 63) := fun wx hk => by rw [hz8]; exact HB1.out.keep hk (by simp)
  have HZ8 : Hid (Z8.size = 8) := by rw [← hz8]; rfl
  clear hz8 HB1
  generalize E.length = n at *
  rcases hHc with ⟨hH1, rfl⟩ | ⟨hH1, rfl⟩
  · obtain rfl : c = 4 := by omega
    have hwf : IntKind.i64.wrap ((f : Int) + 4) = (f : Int) + 4 := IntWalk.i64_in _ (by omega)
    have h1 : (0 : Int) ≤ (f : Int) + 4 := by omega
    have h2 : (f : Int) + 4 ≤ (cap : Int) := by omega
    have h3 : ((f : Int) + 4).toNat = f + 4 := by omega
    have h4 : ¬ cap = f := by omega
    clear hH hfc
    go_enter Tryd.func37, Tryd.ntmps37
    go_wp2_with fail
    rw [← HW0.out]
    go_region_with (go_at_call 64; refine (HENT.out _ HK.out.drew).mono ?_; rintro e w1 ⟨v1, g1, rfl, hr1, hg1, hk1⟩; obtain ⟨vc, w2, hcp, hb2, hk2⟩ := copy_reads (o := 0) (n := 8) (cap := 8) (HB1u.out _ ((Keeps.refl _ _).drew.trans' hk1)) hr1 (by have := HWL.out; omega) (by rw [List.length_replicate]; have := HWL.out; omega); (have hcp' := hcp 3); obtain ⟨a1, c1, rfl, -, -, -⟩ := u64s_cell hr1)
    have hrow : (List.replicate 8 (0 : Int)).take 0 ++ WE ++ (List.replicate 8 (0 : Int)).drop (0 + WE.length) = entTo E f 4 := by
      rw [HTW.out, HWL.out, List.take_zero, List.nil_append, Nat.zero_add, List.drop_replicate]
    rw [hrow] at hb2
    have HL := Lib.hid (load_r8 hb2 HTL.out)
    have hres : Blk w2 w.heap.size Z8 63 := (HB2.out.drew.keep hk1 (by simp)).keep hk2 (by simp)
    obtain ⟨w3, hS, hb4, hk3⟩ := store_whole (P := Tryd.prog) (ty := 63) (cs := u64s (entTo E f 4)) (by rw [u64s_len, HTL.out]; exact size_r8) hres (by rw [HZ8.out, u64s_len, HTL.out]) (u64s_one _)
    have HS := Lib.hid hS
    have HL2 := Lib.hid (load_r8 hb4 HTL.out)
    have HKP : Hid (Keeps [] w w3) := (((HK.out.drew.trans' hk1).trans hk2 (by intro x hx; rw [List.mem_singleton] at hx; omega))).trans hk3 (by intro x hx; rw [List.mem_singleton] at hx; omega)
    clear hrow hb2 hres hS hb4 hk3 hcp hcp' hk1 hk2 hg1 hr1
    go_wp2_with (first | ((with_reducible show wpList _ _ _ (⟨_, .load 63 (.tmp 5), _, _, _, _⟩ :: _) _ _); refine wpList_load_any rfl 63 (.tmp 5) rfl _ rfl _ HL.out ?_) | ((with_reducible show wpList _ _ _ (⟨_, .store 63 (.tmp 4) (.tmp 20), _, _, _, _⟩ :: _) _ _); refine wpList_store_any rfl 63 (.tmp 4) (.tmp 20) rfl _ rfl _ rfl _ HS.out ?_))
    exact bodyPost_ret (results_cell Tryd.results37 rfl HL2.out) rfl ⟨rfl, HKP.out⟩
  · have hwf : IntKind.i64.wrap ((f : Int) + 4) = (f : Int) + 4 := IntWalk.i64_in _ (by omega)
    have h2 : n ≤ cap := by omega
    have h3 : f ≤ n := by omega
    have h4 : ¬ cap = f := by omega
    have h5 : n - f = c := by omega
    clear hH hfc
    go_enter Tryd.func37, Tryd.ntmps37
    go_wp2_with fail
    rw [← HW0.out]
    go_region_with (go_at_call 64; refine (HENT.out _ HK.out.drew).mono ?_; rintro e w1 ⟨v1, g1, rfl, hr1, hg1, hk1⟩; obtain ⟨vc, w2, hcp, hb2, hk2⟩ := copy_reads (o := 0) (n := 8) (cap := 8) (HB1u.out _ ((Keeps.refl _ _).drew.trans' hk1)) hr1 (by have := HWL.out; omega) (by rw [List.length_replicate]; have := HWL.out; omega); (have hcp' := hcp 3); obtain ⟨a1, c1, rfl, -, -, -⟩ := u64s_cell hr1)
    have hrow : (List.replicate 8 (0 : Int)).take 0 ++ WE ++ (List.replicate 8 (0 : Int)).drop (0 + WE.length) = entTo E f c := by
      rw [HTW.out, HWL.out, List.take_zero, List.nil_append, Nat.zero_add, List.drop_replicate]
    rw [hrow] at hb2
    have HL := Lib.hid (load_r8 hb2 HTL.out)
    have hres : Blk w2 w.heap.size Z8 63 := (HB2.out.drew.keep hk1 (by simp)).keep hk2 (by simp)
    obtain ⟨w3, hS, hb4, hk3⟩ := store_whole (P := Tryd.prog) (ty := 63) (cs := u64s (entTo E f c)) (by rw [u64s_len, HTL.out]; exact size_r8) hres (by rw [HZ8.out, u64s_len, HTL.out]) (u64s_one _)
    have HS := Lib.hid hS
    have HL2 := Lib.hid (load_r8 hb4 HTL.out)
    have HKP : Hid (Keeps [] w w3) := (((HK.out.drew.trans' hk1).trans hk2 (by intro x hx; rw [List.mem_singleton] at hx; omega))).trans hk3 (by intro x hx; rw [List.mem_singleton] at hx; omega)
    clear hrow hb2 hres hS hb4 hk3 hcp hcp' hk1 hk2 hg1 hr1
    go_wp2_with (first | ((with_reducible show wpList _ _ _ (⟨_, .load 63 (.tmp 5), _, _, _, _⟩ :: _) _ _); refine wpList_load_any rfl 63 (.tmp 5) rfl _ rfl _ HL.out ?_) | ((with_reducible show wpList _ _ _ (⟨_, .store 63 (.tmp 4) (.tmp 20), _, _, _, _⟩ :: _) _ _); refine wpList_store_any rfl 63 (.tmp 4) (.tmp 20) rfl _ rfl _ rfl _ HS.out ?_))
    exact bodyPost_ret (results_cell Tryd.results37 rfl HL2.out) rfl ⟨rfl, HKP.out⟩

end Go.Proofs.YtmhcnkjmnbnldaaDoor

namespace Go.Proofs.YtmhcnkjmnbnldaaDoor
open Go.RowKit

theorem Tryd.info_put : (Tryd.prog.info? 82).map (fun i => (i.zero, i.size, i.bytes)) = some (some (.agg #[.int .i64 0, .int .u64 0]), 2, 16) := by kernel_rfl

def PutPost (w : World) (b gp : Nat) (B : List Int) (ps : List (Int × Int)) (e : Ending) (w' : World) : Prop :=
  e = .returned (.tuple #[]) ∧ ∃ gp', (gp' = gp ∨ (w.heap.size ≤ gp' ∧ gp' < w'.heap.size)) ∧ ShAt w' b gp' B ps ∧ Keeps [b, gp] w w'

/-- The puts behind one more: nothing of no place. -/
def putN (ps : List (Int × Int)) (i x : Int) : List (Int × Int) := if inB i = true then ps ++ [(i, x)] else ps

/-- The two stores of a put, behind the append. -/
theorem put_done {w w1 : World} {b gp gg2 cap2 a_n j : Nat} {B : List Int} {ps : List (Int × Int)} {x was : Int} {vp : Value} {o : Obj} (hb : Blk w b (shCells B (putAll B ps) vp) 77)
    (hg : ∀ k, vp.ownBlock = some k → k = gp) (lb : B.length = 3128) (lx : (putAll B ps).length = 3128) (hj : j < 3128)
    (he : notesN B (ps ++ [((j : Int), x)]) = notesN B ps ++ [((j : Int), was)]) (hpa : putAll B (ps ++ [((j : Int), x)]) = (putAll B ps).set j x) (hin : inP (ps ++ [((j : Int), x)]) 3128)
    (hl : (notesN B (ps ++ [((j : Int), x)])).length = a_n + 1)
    (hown : w1.ownsRow (b + 1) 82 2 (.slice (some ⟨gg2, 0, none⟩) (a_n + 1) cap2) (a_n + 1) (pcells (notesN B ps) ++ [.int .i64 (j : Int), .int .u64 was]))
    (hgrow : (w.alloc o).drew.grownBy w1 vp.ownBlock) (hat : vp.ownBlock = some gg2 ∨ gg2 = w.heap.size + 1) (hne : vp.ownBlock ≠ some b) :
    PutPost w b gp B (ps ++ [((j : Int), x)]) (.returned (.tuple #[])) ((w1.setCell ⟨b, 6256, none⟩ (.slice (some ⟨gg2, 0, none⟩) (a_n + 1) cap2)).setCell ⟨b, 3128 + j, none⟩ (.int .u64 x)) := by
  have hk1 : Keeps [gp] w w1 := ((Keeps.refl [gp] w).alloc o).drew.trans (Keeps.of_grown (l := [gp]) hgrow (by intro k hk; rw [hg k hk]; simp)) (by simp)
  have hb1 : Blk w1 b (shCells B (putAll B ps) vp) 77 := by
    have h1 : Blk (w.alloc o).drew b (shCells B (putAll B ps) vp) 77 := hb.alloc o
    have hlt := h1.lt
    unfold Blk at h1 ⊢
    rw [← h1]
    exact hgrow.block b hlt (fun e => hne e.symm)
  have hbg : b ≠ gg2 := by have := ownsRow_block hown gg2 rfl; omega
  have hk2 : ∀ (u v : Value), Keeps [b] w1 ((w1.setCell ⟨b, 6256, none⟩ u).setCell ⟨b, 3128 + j, none⟩ v) := fun u v => ((Keeps.refl [b] _).setCell (by simp) _).setCell (by simp) _
  refine ⟨rfl, gg2, ?_, ⟨⟨lb, ?_, .slice (some ⟨gg2, 0, none⟩) (a_n + 1) cap2, ?_, ?_, ?_⟩, hin⟩, ?_⟩
  · rcases hat with e | e
    · exact .inl (hg _ e)
    · refine .inr ⟨by omega, ?_⟩
      have := (hown.lt gg2 rfl).2
      simpa [World.setCell] using this
  · rw [hpa, List.length_set]; exact lx
  · have := (hb1.set 6256 (.slice (some ⟨gg2, 0, none⟩) (a_n + 1) cap2)).set (3128 + j) (.int .u64 x)
    rw [shCells_set2 _ lb lx, shCells_set1 _ lb (by omega)] at this
    rw [hpa]
    exact this
  · rw [hl, he, pcells_append]
    exact ownsRow_keep hown (hk2 _ _) (by intro k hk; cases hk; simpa using Ne.symm hbg)
  · intro k hk; cases hk; rfl
  · exact (hk1.mono (by simp)).trans (hk2 _ _) (by simp)

set_option maxHeartbeats 2000000 in
theorem txPut_at {w : World} {b gp : Nat} {B : List Int} {ps : List (Int × Int)} (h : ShAt w b gp B ps) (hn : ps.length ≤ 1000000) (i x : Int) :
    Calls Tryd.prog 23 #[.pointer (some ⟨b, 0, none⟩), .int .i64 i, .int .u64 x] w (PutPost w b gp B (putN ps i x)) := by
  have HI := Lib.hid (txIsPlace_at i w)
  unfold putN
  cases hi : inB i
  · rw [hi] at HI
    rw [if_neg (by simp)]
    have HM : Hid (PutPost w b gp B ps (.returned (.tuple #[])) w) := ⟨rfl, gp, .inl rfl, h, Keeps.refl _ _⟩
    clear hi h
    go_enter Tryd.func23, Tryd.ntmps23
    go_wp2_with (go_at_call 49; refine HI.out.mono ?_; rintro e w' ⟨rfl, rfl⟩)
    go_end0
    exact HM.out
  · rw [hi] at HI
    rw [if_pos rfl]
    obtain ⟨h0, h1⟩ := inB_iff.1 hi
    clear hi
    obtain ⟨j, rfl⟩ := Int.eq_ofNat_of_zero_le h0
    obtain ⟨⟨lb, lx, vp, hb, hr, hg⟩, inp⟩ := h
    obtain ⟨i0, hi, hz0, hz1, hz2⟩ := info_parts Tryd.info_put
    have hj : j < 3128 := by omega
    have c1 : w.cell? ⟨b, 6256, none⟩ = some vp := by rw [hb.cell, shCells_2 _ lb lx]
    have c2 : w.cell? ⟨b, 3128 + j, none⟩ = some (.int .u64 ((putAll B ps).getD j 0)) := by rw [hb.cell, shCells_1 _ lb (by omega)]
    have f1 : w.frozen? ⟨b, 6256, none⟩ = false := hb.frozen _
    have f2 : w.frozen? ⟨b, 3128 + j, none⟩ = false := hb.frozen _
    have F1 : ∀ o, (w.alloc o).drew.frozen? ⟨b, 6256, none⟩ = false := fun o => (hb.alloc o).frozen _
    have F2 : ∀ o, (w.alloc o).drew.frozen? ⟨b, 3128 + j, none⟩ = false := fun o => (hb.alloc o).frozen _
    have hbl := hb.lt
    have E2 : ∀ o, (w.alloc o).drew.cell? ⟨b, 3128 + j, none⟩ = some (.int .u64 ((putAll B ps).getD j 0)) := fun o => by rw [← c2]; exact World.cell?_of_block (w := w) (Below.heap_alloc _ _ _ hb.lt)
    have n1 : ¬ 3128 + j = 6256 := by omega
    have E1 : ∀ o, (w.alloc o).drew.cell? ⟨b, 6256, none⟩ = some vp := fun o => by rw [← c1]; exact World.cell?_of_block (w := w) (Below.heap_alloc _ _ _ hb.lt)
    have hne : vp.ownBlock ≠ some b := fun e => by have := ownsRow_block hr b e; omega
    obtain ⟨a, cap, hv, q1, q2⟩ := ownsRow_val hr
    rw [notesN_len] at hr hv q1
    have HE := Lib.hid (notesN_snoc B ps (j : Int) x)
    have HPA : Hid (putAll B (ps ++ [((j : Int), x)]) = (putAll B ps).set j x) := by show putAll B _ = _; rw [putAll_append]; rfl
    have HIN : Hid (inP (ps ++ [((j : Int), x)]) 3128) := inP_append inp (inP_one h0 h1)
    have HL : Hid ((notesN B (ps ++ [((j : Int), x)])).length = ps.length + 1) := by show List.length _ = _; rw [notesN_len]; simp
    rw [Int.toNat_natCast] at HE
    subst hv
    have HB := Lib.hid hb
    have HR := Lib.hid hr
    have HG := Lib.hid hg
    have LB := Lib.hid lb
    have LX := Lib.hid lx
    clear hb hr hg lb lx inp
    generalize (putAll B ps).getD j 0 = was at *
    generalize hps : ps.length = n at *
    have HPS := Lib.hid hps
    clear hps
    unfold maxLen at q2
    go_enter Tryd.func23, Tryd.ntmps23
    go_wp2_with fail
    refine HI.out.mono ?_; rintro e w' ⟨rfl, rfl⟩
    go_wp2_with fail
    go_region_law ((refine step_append_lies _ (by rfl) _ _ _ (by rfl) (b + 1) 82 i0 _ 2 16 Tryd.underlying75 hi hz0 hz1 hz2 rfl (by omega) (.slice a n cap) n _ (by rfl) ((HR.out.alloc _).drew) ⟨w.heap.size, 0, none⟩ 1 1 [.int .i64 (j : Int), .int .u64 was] (by rfl) (by rfl) (new_cells w [_, _] _ _ rfl) (by simp [Value.oneCell']) (by omega) (by unfold maxLen; omega) (by omega) (by simp; omega) (w.heap.size + 1) (by simp) ?_; intro gg2 cap2 w1 hown1 hgrow hat hlt; have hc1 := (hgrow.cell_far ⟨b, 6256, none⟩ (by simp; omega) (Ne.symm hne)).trans (E1 _); have hf1 := (hgrow.frozen_far ⟨b, 6256, none⟩ (by simp; omega) (Ne.symm hne)).trans (F1 _); have hc2 := (hgrow.cell_far ⟨b, 3128 + j, none⟩ (by simp; omega) (Ne.symm hne)).trans (E2 _); have hf2 := (hgrow.frozen_far ⟨b, 3128 + j, none⟩ (by simp; omega) (Ne.symm hne)).trans (F2 _)))
    all_goals
      have HM := Lib.hid (put_done HB.out HG.out LB.out LX.out hj HE.out HPA.out HIN.out HL.out hown1 hgrow hat hne)
      clear hown1 hgrow hat hlt hc1
      go_wp2_with fail
      go_end0
      exact HM.out

end Go.Proofs.YtmhcnkjmnbnldaaDoor

namespace Go.Proofs.YtmhcnkjmnbnldaaDoor
open Go.RowKit

/-- Eight words from a place on. -/
def rowL (X : List Int) (p : Nat) : List Int := (List.range 8).map fun j => X.getD (p + j) 0

theorem rowL_len (X : List Int) (p : Nat) : (rowL X p).length = 8 := by simp [rowL]

theorem rowL_get (X : List Int) (p k : Nat) (h : k < 8) : (rowL X p).getD k 0 = X.getD (p + k) 0 := by
  rw [rowL, List.getD_eq_getElem?_getD, List.getElem?_map, List.getElem?_range h]
  rfl

/-- The puts of eight words from a place on, the first k. -/
def rowPs (p : Nat) (l : List Int) (k : Nat) : List (Int × Int) := (List.range k).map fun j => (((p + j : Nat) : Int), l.getD j 0)

theorem rowPs_succ (p : Nat) (l : List Int) (k : Nat) : rowPs p l (k + 1) = rowPs p l k ++ [(((p + k : Nat) : Int), l.getD k 0)] := by
  unfold rowPs
  rw [List.range_succ, List.map_append]
  rfl

theorem rowPs_len (p : Nat) (l : List Int) (k : Nat) : (rowPs p l k).length = k := by simp [rowPs]

set_option maxRecDepth 100000 in
set_option maxHeartbeats 4000000 in
theorem rowAt_at {w : World} {b gp : Nat} {B : List Int} {ps : List (Int × Int)} (h : ShAt w b gp B ps) (p : Nat) (hp : p + 8 ≤ 3128) :
    Calls Tryd.prog 40 #[.pointer (some ⟨b, 0, none⟩), .int .i64 (p : Int)] w fun e w' => e = .returned (.agg (u64s (rowL (putAll B ps) p)).toArray) ∧ Keeps [] w w' := by
  have HSH := Lib.hid h
  have hd8 := rowL_len (putAll B ps) p
  have HGET : Hid (∀ (k : Nat) wx, k < 8 → Keeps [] w wx → Calls Tryd.prog 66 #[.pointer (some ⟨b, 0, none⟩), .int .i64 ((p : Int) + (k : Int))] wx fun e w' => e = .returned (.int .u64 ((rowL (putAll B ps) p).getD k 0)) ∧ wx = w') := fun k wx hk hkp => by
    have := txGet_at (HSH.out.keep hkp (by simp) (by simp)) ((p : Int) + (k : Int))
    unfold getN at this
    rw [if_pos (by omega), show ((p : Int) + (k : Int)).toNat = p + k by omega, ← rowL_get _ p k hk] at this
    exact this
  have HZ8 : (u64s (List.replicate 8 0)).toArray = (u64s (fillTo 0 (rowL (putAll B ps) p) 0)).toArray := by rw [fillTo_zero, hd8]
  clear h
  generalize rowL (putAll B ps) p = d at *
  obtain ⟨w0, hw0⟩ : ∃ w0, w0 = (w.alloc (.cells (u64s (List.replicate 8 0)).toArray 63)).alloc (.cells (u64s (List.replicate 8 0)).toArray 63) := ⟨_, rfl⟩
  have HB2 : Hid (Blk w0 w.heap.size (u64s (List.replicate 8 0)).toArray 63) := by
    have := (Blk.new w (u64s (List.replicate 8 0)).toArray 63).alloc (.cells (u64s (List.replicate 8 0)).toArray 63)
    rw [← hw0] at this
    exact this
  have HB3 : Hid (Blk w0 (w.heap.size + 1) (u64s (fillTo 0 d 0)).toArray 63) := by
    have := Blk.new (w.alloc (.cells (u64s (List.replicate 8 0)).toArray 63)) (u64s (List.replicate 8 0)).toArray 63
    have e : (w.alloc (.cells (u64s (List.replicate 8 0)).toArray 63)).heap.size = w.heap.size + 1 := by simp
    rw [e, ← hw0, HZ8] at this
    exact this
  have HK : Hid (Keeps [] w w0) := by
    show Keeps _ _ _
    rw [hw0]
    exact ((Keeps.refl [] w).alloc _).alloc _
  have hzv := zero_r8
  clear HZ8 HSH
  generalize hz8 : (u64s (List.replicate 8 0)).toArray = Z8 at *
  go_enter Tryd.func40, Tryd.ntmps40
  go_wp2_with fail
  rw [← hw0]
  go_loopg [7] 8 (fun gh s7 wx => ∃ k : Nat, k + gh = 8 ∧ s7 = .int .i64 (k : Int) ∧ Hid (Blk wx (w.heap.size + 1) (u64s (fillTo 0 d k)).toArray 63 ∧ Blk wx w.heap.size Z8 63 ∧ Keeps [] w wx))
  case atStart => exact ⟨0, by omega, rfl, HB3.out, HB2.out, HK.out⟩
  case round =>
    clear HB2 HB3 HK hzv hw0
    obtain ⟨k, hk, rfl, HP⟩ := hrel
    cases gk with
    | zero =>
      obtain rfl : k = 8 := by omega
      have hb3 := HP.out.1
      rw [show fillTo 0 d 8 = d by rw [← hd8]; exact fillTo_all 0 d] at hb3
      have HL := Lib.hid (load_r8 hb3 hd8)
      obtain ⟨w2, hS, hb4, hk2⟩ := store_whole (P := Tryd.prog) (ty := 63) (cs := u64s d) (by rw [u64s_len, hd8]; exact size_r8) HP.out.2.1 (by rw [← hz8]; simp [u64s_len, hd8]) (u64s_one _)
      have HS := Lib.hid hS
      have HL2 := Lib.hid (load_r8 hb4 hd8)
      have HKP := Lib.hid (HP.out.2.2.trans hk2 (by simp))
      clear hS hb3 hb4 hk2 HP hk
      go_wp2_with (first | ((with_reducible show wpList _ _ _ (⟨_, .load 63 (.tmp 5), _, _, _, _⟩ :: _) _ _); refine wpList_load_any rfl 63 (.tmp 5) rfl _ rfl _ HL.out ?_) | ((with_reducible show wpList _ _ _ (⟨_, .store 63 (.tmp 4) (.tmp 18), _, _, _, _⟩ :: _) _ _); refine wpList_store_any rfl 63 (.tmp 4) (.tmp 18) rfl _ rfl _ rfl _ HS.out ?_))
      exact bodyPost_ret (results_cell Tryd.results40 rfl HL2.out) rfl ⟨rfl, HKP.out⟩
    | succ gg =>
      have hk8 : k < 8 := by omega
      have hlt : (k : Int) < 8 := by omega
      have hk0 : (0 : Int) ≤ (k : Int) := by omega
      have HC := Lib.hid (HGET.out k wr hk8 HP.out.2.2)
      have hcell : wr.cell? ⟨w.heap.size + 1, k, none⟩ = some (.int .u64 ((fillTo 0 d k).getD k 0)) := by
        rw [HP.out.1.cell, List.getElem?_toArray, u64s_get (by rw [fillTo_len _ _ _ (by omega)]; omega)]
      have hf : wr.frozen? ⟨w.heap.size + 1, k, none⟩ = false := HP.out.1.frozen k
      have HB : Hid (Blk (wr.setCell ⟨w.heap.size + 1, k, none⟩ (.int .u64 (d.getD k 0))) (w.heap.size + 1) (u64s (fillTo 0 d (k + 1))).toArray 63) := by
        have := HP.out.1.set k (.int .u64 (d.getD k 0))
        rw [List.setIfInBounds_toArray, u64s_set, fillTo_succ 0 d k (by omega) (d.getD k 0) (by simp [List.getD_eq_getElem?_getD, show k < d.length by omega])] at this
        exact this
      have HB' : Hid (Blk (wr.setCell ⟨w.heap.size + 1, k, none⟩ (.int .u64 (d.getD k 0))) w.heap.size Z8 63) := HP.out.2.1.other (by simp) _
      have HKP := Lib.hid HP.out.2.2
      clear HP
      generalize d.getD k 0 = x at *
      generalize (fillTo 0 d k).getD k 0 = y at *
      go_wp2_with fail
      refine HC.out.mono ?_; rintro e w' ⟨rfl, rfl⟩
      go_wp2_with fail
      go_roundg gg
      case measure => omega
      case rel => exact ⟨k + 1, by omega, by go_num, HB.out, HB'.out, HKP.out.setCell (by simp) _⟩

set_option maxRecDepth 100000 in
set_option maxHeartbeats 4000000 in
theorem putRow_at {w : World} {b gp : Nat} {B : List Int} {ps : List (Int × Int)} (h : ShAt w b gp B ps) (hn : ps.length ≤ 900000) (p : Nat) (hp : p + 8 ≤ 3128) (l : List Int) (hl : l.length = 8) :
    Calls Tryd.prog 35 #[.pointer (some ⟨b, 0, none⟩), .int .i64 (p : Int), .agg (u64s l).toArray] w (PutPost w b gp B (ps ++ rowPs p l 8)) := by
  have HL : Hid ((loadVar 63 ⟨w.heap.size, 0, none⟩).run Tryd.prog (w.alloc (.cells (u64s l).toArray 63)) = .ok (.agg (u64s l).toArray) (w.alloc (.cells (u64s l).toArray 63))) := load_r8 (Blk.new w _ _) hl
  have HX : Hid (∀ k, k < 8 → (u64s l).toArray[k]? = some (.int .u64 (l.getD k 0))) := fun k hk => by rw [List.getElem?_toArray, u64s_get (by omega)]
  have HK0 : Hid (Keeps [b, gp] w (w.alloc (.cells (u64s l).toArray 63))) := (Keeps.refl _ w).alloc _
  have HSH := Lib.hid (h.keep ((Keeps.refl [] w).alloc (.cells (u64s l).toArray 63)) (by simp) (by simp))
  clear h
  generalize (u64s l).toArray = Z at *
  go_enter Tryd.func35, Tryd.ntmps35
  go_wp2_with ((with_reducible show wpList _ _ _ (⟨_, .load 63 (.tmp 5), _, _, _, _⟩ :: _) _ _); refine wpList_load_any rfl 63 (.tmp 5) rfl _ rfl _ HL.out ?_)
  go_loopg [9] 8 (fun gh s9 wx => ∃ k : Nat, k + gh = 8 ∧ s9 = .int .i64 (k : Int) ∧ Hid (∃ gp', (gp' = gp ∨ (w.heap.size ≤ gp' ∧ gp' < wx.heap.size)) ∧ ShAt wx b gp' B (ps ++ rowPs p l k) ∧ Keeps [b, gp] w wx))
  case atStart => exact ⟨0, by omega, rfl, gp, .inl rfl, by rw [show rowPs p l 0 = [] from rfl, List.append_nil]; exact HSH.out, HK0.out⟩
  case round =>
    clear HSH HK0 HL
    obtain ⟨k, hk, rfl, HP⟩ := hrel
    obtain ⟨gp', hgp, hsh, hkp⟩ := HP.out
    cases gk with
    | zero =>
      obtain rfl : k = 8 := by omega
      have HE : Hid (PutPost w b gp B (ps ++ rowPs p l 8) (.returned (.tuple #[])) wr) := ⟨rfl, gp', hgp, hsh, hkp⟩
      clear HP hgp hsh hkp hk
      go_wp2_with fail
      go_end0
      exact HE.out
    | succ gg =>
      have hk8 : k < 8 := by omega
      have hlt : (k : Int) < 8 := by omega
      have hk0 : (0 : Int) ≤ (k : Int) := by omega
      have hix := index_r8 hk8 (HX.out k hk8)
      have hput : putN (ps ++ rowPs p l k) ((p : Int) + (k : Int)) (l.getD k 0) = ps ++ rowPs p l (k + 1) := by
        rw [putN, if_pos (by rw [inB_iff]; omega), rowPs_succ, List.append_assoc, Int.natCast_add]
      have HC := txPut_at hsh (by rw [List.length_append, rowPs_len]; omega) ((p : Int) + (k : Int)) (l.getD k 0)
      rw [hput] at HC
      have HC := Lib.hid HC
      have HG := Lib.hid hgp
      have HKP := Lib.hid hkp
      clear HP hgp hsh hkp hput
      generalize l.getD k 0 = x at *
      go_wp2_with fail
      refine HC.out.mono ?_; rintro e w2 ⟨rfl, gp2, hg2, hs2, hk2⟩
      have HR : Hid (∃ gp', (gp' = gp ∨ (w.heap.size ≤ gp' ∧ gp' < w2.heap.size)) ∧ ShAt w2 b gp' B (ps ++ rowPs p l (k + 1)) ∧ Keeps [b, gp] w w2) := by
        have hsz := HKP.out.size
        have hsz2 := hk2.size
        refine ⟨gp2, ?_, hs2, HKP.out.trans hk2 fun x hx => ?_⟩
        · rcases HG.out with h | h <;> rcases hg2 with h2 | h2 <;> omega
        · simp only [List.mem_cons, List.not_mem_nil, or_false] at hx ⊢
          rcases HG.out with h | h <;> omega
      clear hg2 hs2 hk2
      go_wp2_with fail
      go_roundg gg
      case measure => omega
      case rel => exact ⟨k + 1, by omega, by go_num, HR.out⟩

end Go.Proofs.YtmhcnkjmnbnldaaDoor

namespace Go.Proofs.YtmhcnkjmnbnldaaDoor

/-- How many of the lowest n bits are set. -/
def ones (n x : Nat) : Nat := ((List.range n).filter fun j => x.testBit j).length

/-- Which of 64 bits are set, rising. -/
def bitL (x : Nat) : List Nat := (List.range 64).filter fun j => x.testBit j

theorem ones_bitL (x : Nat) : ones 64 x = (bitL x).length := rfl

theorem testBit_byte (b a j : Nat) (hb : b < 256) : (b + 256 * a).testBit j = if j < 8 then b.testBit j else a.testBit (j - 8) := by
  have := Nat.testBit_two_pow_mul_add a (b := b) (i := 8) (by simpa using hb) j
  rw [Nat.add_comm]
  simpa using this

theorem and_byte (b m a M : Nat) (hb : b < 256) (hm : m < 256) : (b + 256 * a) &&& (m + 256 * M) = (b &&& m) + 256 * (a &&& M) := by
  apply Nat.eq_of_testBit_eq
  intro j
  have hbm : b &&& m < 256 := Nat.lt_of_le_of_lt Nat.and_le_left hb
  rw [Nat.testBit_and, testBit_byte b a j hb, testBit_byte m M j hm, testBit_byte _ _ j hbm]
  split <;> simp [Nat.testBit_and]

theorem filter_range_add (p : Nat → Bool) (m n : Nat) : (List.range (m + n)).filter p = (List.range m).filter p ++ ((List.range n).filter fun j => p (m + j)).map (m + ·) := by
  rw [List.range_add, List.filter_append, List.filter_map]
  rfl

theorem ones_byte (n b a : Nat) (hb : b < 256) : ones (8 + n) (b + 256 * a) = ones 8 b + ones n a := by
  unfold ones
  rw [filter_range_add, List.length_append, List.length_map]
  congr 1
  · congr 1
    apply List.filter_congr
    intro j hj
    rw [List.mem_range] at hj
    rw [testBit_byte b a j hb, if_pos hj]
  · congr 1
    apply List.filter_congr
    intro j _
    rw [testBit_byte b a _ hb, if_neg (by omega), Nat.add_sub_cancel_left]

/-- The byte m, n times. -/
def rep (m : Nat) : Nat → Nat
  | 0 => 0
  | n + 1 => m + 256 * rep m n

def q1 (b : Nat) : Nat := (b / 2 &&& 85) + (b &&& 85)
def q2 (b : Nat) : Nat := (b / 4 &&& 51) + (b &&& 51)
def q3 (b : Nat) : Nat := (b / 16 + b) % 16

def st1 (n x : Nat) : Nat := (x / 2 &&& rep 85 n) + (x &&& rep 85 n)
def st2 (n x : Nat) : Nat := (x / 4 &&& rep 51 n) + (x &&& rep 51 n)
def st3 (n x : Nat) : Nat := (x / 16 + x) &&& rep 15 n

theorem q1_carry : ∀ b : Fin 256, ∀ c : Fin 2, (b.val / 2 + 128 * c.val) &&& 85 = b.val / 2 &&& 85 := by decide +kernel
theorem q2_carry : ∀ b : Fin 256, ∀ c : Fin 4, (b.val / 4 + 64 * c.val) &&& 51 = b.val / 4 &&& 51 := by decide +kernel
theorem q_all : ∀ b : Fin 256, q1 b.val < 256 ∧ q2 (q1 b.val) < 256 ∧ q2 (q1 b.val) / 16 ≤ 4 ∧ q2 (q1 b.val) % 16 ≤ 4 ∧ q3 (q2 (q1 b.val)) = ones 8 b.val ∧ ones 8 b.val ≤ 8 := by decide +kernel

theorem st1_succ (n b a : Nat) (hb : b < 256) : st1 (n + 1) (b + 256 * a) = q1 b + 256 * st1 n a := by
  unfold st1 q1
  have e : (b + 256 * a) / 2 = (b / 2 + 128 * (a % 2)) + 256 * (a / 2) := by omega
  have c := q1_carry ⟨b, hb⟩ ⟨a % 2, by omega⟩
  simp only at c
  rw [e, rep, and_byte _ _ _ _ (by omega) (by omega), and_byte _ _ _ _ hb (by omega), c]
  omega

theorem st2_succ (n b a : Nat) (hb : b < 256) : st2 (n + 1) (b + 256 * a) = q2 b + 256 * st2 n a := by
  unfold st2 q2
  have e : (b + 256 * a) / 4 = (b / 4 + 64 * (a % 4)) + 256 * (a / 4) := by omega
  have c := q2_carry ⟨b, hb⟩ ⟨a % 4, by omega⟩
  simp only at c
  rw [e, rep, and_byte _ _ _ _ (by omega) (by omega), and_byte _ _ _ _ hb (by omega), c]
  omega

theorem and15 (x : Nat) : x &&& 15 = x % 16 := by
  have := Nat.and_two_pow_sub_one_eq_mod x 4
  simpa using this

theorem st3_succ (n b a : Nat) (h1 : b / 16 ≤ 4) (h2 : b % 16 ≤ 4) (h3 : a % 16 ≤ 4) : st3 (n + 1) (b + 256 * a) = q3 b + 256 * st3 n a := by
  unfold st3 q3
  have e : (b + 256 * a) / 16 + (b + 256 * a) = (b / 16 + b + 16 * (a % 16)) + 256 * (a / 16 + a) := by omega
  rw [e, rep, and_byte _ _ _ _ (by omega) (by omega), and15]
  omega

theorem st1_zero : st1 0 0 = 0 := rfl
theorem st2_zero : st2 0 0 = 0 := rfl
theorem st3_zero : st3 0 0 = 0 := rfl

/-- Eight bytes. -/
def by8 (a b c d e f g h : Nat) : Nat := a + 256 * (b + 256 * (c + 256 * (d + 256 * (e + 256 * (f + 256 * (g + 256 * (h + 256 * 0)))))))

theorem by8_split (x : Nat) (hx : x < 18446744073709551616) : ∃ a b c d e f g h, (a < 256 ∧ b < 256 ∧ c < 256 ∧ d < 256 ∧ e < 256 ∧ f < 256 ∧ g < 256 ∧ h < 256) ∧ x = by8 a b c d e f g h := by
  refine ⟨x % 256, x / 256 % 256, x / 65536 % 256, x / 16777216 % 256, x / 4294967296 % 256, x / 1099511627776 % 256, x / 281474976710656 % 256, x / 72057594037927936, ?_, ?_⟩
  · omega
  · unfold by8; omega

theorem step_lt {a y K : Nat} (ha : a < 256) (hy : y < K) : a + 256 * y < 256 * K := by omega
theorem step_le {a y K : Nat} (ha : a ≤ 68) (hy : y ≤ K) : a + 256 * y ≤ 68 + 256 * K := by omega

theorem by8_lt {a b c d e f g h : Nat} (ha : a < 256) (hb : b < 256) (hc : c < 256) (hd : d < 256) (he : e < 256) (hf : f < 256) (hg : g < 256) (hh : h < 256) : by8 a b c d e f g h < 18446744073709551616 :=
  Nat.lt_of_lt_of_le (step_lt ha (step_lt hb (step_lt hc (step_lt hd (step_lt he (step_lt hf (step_lt hg (step_lt hh (Nat.zero_lt_one))))))))) (by decide)

theorem by8_le {a b c d e f g h : Nat} (ha : a ≤ 68) (hb : b ≤ 68) (hc : c ≤ 68) (hd : d ≤ 68) (he : e ≤ 68) (hf : f ≤ 68) (hg : g ≤ 68) (hh : h ≤ 68) : by8 a b c d e f g h ≤ 4919131752989213764 :=
  Nat.le_trans (step_le ha (step_le hb (step_le hc (step_le hd (step_le he (step_le hf (step_le hg (step_le hh (Nat.le_refl 0))))))))) (by decide)

set_option maxHeartbeats 2000000 in
theorem by8_sum (a3 b3 c3 d3 e3 f3 g3 h3 : Nat) (A6 : a3 ≤ 8) (B6 : b3 ≤ 8) (C6 : c3 ≤ 8) (D6 : d3 ≤ 8) (E6 : e3 ≤ 8) (F6 : f3 ≤ 8) (G6 : g3 ≤ 8) (H6 : h3 ≤ 8) : ∃ x4 x5 x6, by8 a3 b3 c3 d3 e3 f3 g3 h3 + by8 a3 b3 c3 d3 e3 f3 g3 h3 / 256 = x4 ∧ x4 + x4 / 65536 = x5 ∧ x5 + x5 / 4294967296 = x6 ∧
    x4 < 9223372036854775808 ∧ x5 < 9223372036854775808 ∧ x6 < 9223372036854775808 ∧ x6 % 128 = a3 + (b3 + (c3 + (d3 + (e3 + (f3 + (g3 + (h3 + 0))))))) := by
  refine ⟨_, _, _, rfl, rfl, rfl, ?_⟩
  unfold by8
  have k3 : (a3 + 256 * (b3 + 256 * (c3 + 256 * (d3 + 256 * (e3 + 256 * (f3 + 256 * (g3 + 256 * (h3 + 256 * 0)))))))) / 256 = b3 + 256 * (c3 + 256 * (d3 + 256 * (e3 + 256 * (f3 + 256 * (g3 + 256 * h3))))) := by omega
  rw [k3]
  clear k3
  generalize hy : a3 + 256 * (b3 + 256 * (c3 + 256 * (d3 + 256 * (e3 + 256 * (f3 + 256 * (g3 + 256 * (h3 + 256 * 0))))))) + (b3 + 256 * (c3 + 256 * (d3 + 256 * (e3 + 256 * (f3 + 256 * (g3 + 256 * h3)))))) = y
  have hy' : y = (a3 + b3 + 256 * (b3 + c3)) + 65536 * ((c3 + d3 + 256 * (d3 + e3)) + 65536 * ((e3 + f3 + 256 * (f3 + g3)) + 65536 * (g3 + h3 + 256 * h3))) := by omega
  clear hy
  have k4 : y / 65536 = (c3 + d3 + 256 * (d3 + e3)) + 65536 * ((e3 + f3 + 256 * (f3 + g3)) + 65536 * (g3 + h3 + 256 * h3)) := by omega
  rw [k4]
  subst hy'
  clear k4
  generalize hz : a3 + b3 + 256 * (b3 + c3) + 65536 * (c3 + d3 + 256 * (d3 + e3) + 65536 * (e3 + f3 + 256 * (f3 + g3) + 65536 * (g3 + h3 + 256 * h3))) + (c3 + d3 + 256 * (d3 + e3) + 65536 * (e3 + f3 + 256 * (f3 + g3) + 65536 * (g3 + h3 + 256 * h3))) = z
  have hz' : z = (a3 + b3 + c3 + d3 + 256 * (b3 + c3 + d3 + e3) + 65536 * (c3 + d3 + e3 + f3 + 256 * (d3 + e3 + f3 + g3))) + 4294967296 * ((e3 + f3 + g3 + h3) + 256 * (f3 + g3 + h3) + 65536 * (g3 + h3 + 256 * h3)) := by omega
  clear hz
  have k5 : z / 4294967296 = (e3 + f3 + g3 + h3) + 256 * (f3 + g3 + h3) + 65536 * (g3 + h3 + 256 * h3) := by omega
  rw [k5]
  refine ⟨by omega, by omega, by omega, ?_⟩
  omega


/-- What the counting comes to: each of its six steps, and the sum. -/
theorem count_steps (x : Nat) (hx : x < 18446744073709551616) : ∃ x1 x2 x3 x4 x5 x6, st1 8 x = x1 ∧ st2 8 x1 = x2 ∧ st3 8 x2 = x3 ∧ x3 + x3 / 256 = x4 ∧ x4 + x4 / 65536 = x5 ∧ x5 + x5 / 4294967296 = x6 ∧
    x1 < 18446744073709551616 ∧ x2 < 18446744073709551616 ∧ x2 / 16 + x2 < 18446744073709551616 ∧ x3 < 18446744073709551616 ∧ x4 < 9223372036854775808 ∧ x5 < 9223372036854775808 ∧ x6 < 9223372036854775808 ∧ x6 % 128 = ones 64 x := by
  obtain ⟨a, b, c, d, e, f, g, h, ⟨ha, hb, hc, hd, he, hf, hg, hh⟩, rfl⟩ := by8_split x hx
  have A := q_all ⟨a, ha⟩; have B := q_all ⟨b, hb⟩; have C := q_all ⟨c, hc⟩; have D := q_all ⟨d, hd⟩
  have E := q_all ⟨e, he⟩; have F := q_all ⟨f, hf⟩; have G := q_all ⟨g, hg⟩; have H := q_all ⟨h, hh⟩
  simp only at A B C D E F G H
  have hs1 : st1 8 (by8 a b c d e f g h) = by8 (q1 a) (q1 b) (q1 c) (q1 d) (q1 e) (q1 f) (q1 g) (q1 h) := by
    unfold by8
    rw [st1_succ _ _ _ ha, st1_succ _ _ _ hb, st1_succ _ _ _ hc, st1_succ _ _ _ hd, st1_succ _ _ _ he, st1_succ _ _ _ hf, st1_succ _ _ _ hg, st1_succ _ _ _ hh, st1_zero]
  have hs2 : st2 8 (by8 (q1 a) (q1 b) (q1 c) (q1 d) (q1 e) (q1 f) (q1 g) (q1 h)) = by8 (q2 (q1 a)) (q2 (q1 b)) (q2 (q1 c)) (q2 (q1 d)) (q2 (q1 e)) (q2 (q1 f)) (q2 (q1 g)) (q2 (q1 h)) := by
    unfold by8
    rw [st2_succ _ _ _ A.1, st2_succ _ _ _ B.1, st2_succ _ _ _ C.1, st2_succ _ _ _ D.1, st2_succ _ _ _ E.1, st2_succ _ _ _ F.1, st2_succ _ _ _ G.1, st2_succ _ _ _ H.1, st2_zero]
  have hs3 : st3 8 (by8 (q2 (q1 a)) (q2 (q1 b)) (q2 (q1 c)) (q2 (q1 d)) (q2 (q1 e)) (q2 (q1 f)) (q2 (q1 g)) (q2 (q1 h))) = by8 (ones 8 a) (ones 8 b) (ones 8 c) (ones 8 d) (ones 8 e) (ones 8 f) (ones 8 g) (ones 8 h) := by
    unfold by8
    rw [st3_succ _ _ _ A.2.2.1 A.2.2.2.1 (by omega), st3_succ _ _ _ B.2.2.1 B.2.2.2.1 (by omega), st3_succ _ _ _ C.2.2.1 C.2.2.2.1 (by omega), st3_succ _ _ _ D.2.2.1 D.2.2.2.1 (by omega),
      st3_succ _ _ _ E.2.2.1 E.2.2.2.1 (by omega), st3_succ _ _ _ F.2.2.1 F.2.2.2.1 (by omega), st3_succ _ _ _ G.2.2.1 G.2.2.2.1 (by omega), st3_succ _ _ _ H.2.2.1 H.2.2.2.1 (by omega), st3_zero,
      A.2.2.2.2.1, B.2.2.2.2.1, C.2.2.2.2.1, D.2.2.2.2.1, E.2.2.2.2.1, F.2.2.2.2.1, G.2.2.2.2.1, H.2.2.2.2.1]
  have ho : ones 64 (by8 a b c d e f g h) = ones 8 a + (ones 8 b + (ones 8 c + (ones 8 d + (ones 8 e + (ones 8 f + (ones 8 g + (ones 8 h + 0))))))) := by
    unfold by8
    rw [show (64 : Nat) = 8 + (8 + (8 + (8 + (8 + (8 + (8 + (8 + 0))))))) from rfl, ones_byte _ _ _ ha, ones_byte _ _ _ hb, ones_byte _ _ _ hc, ones_byte _ _ _ hd, ones_byte _ _ _ he, ones_byte _ _ _ hf, ones_byte _ _ _ hg, ones_byte _ _ _ hh]
    rfl
  obtain ⟨x4, x5, x6, p4, p5, p6, b4, b5, b6, hm⟩ := by8_sum _ _ _ _ _ _ _ _ A.2.2.2.2.2 B.2.2.2.2.2 C.2.2.2.2.2 D.2.2.2.2.2 E.2.2.2.2.2 F.2.2.2.2.2 G.2.2.2.2.2 H.2.2.2.2.2
  have l2 : by8 (q2 (q1 a)) (q2 (q1 b)) (q2 (q1 c)) (q2 (q1 d)) (q2 (q1 e)) (q2 (q1 f)) (q2 (q1 g)) (q2 (q1 h)) ≤ 4919131752989213764 := by
    apply by8_le
    · have := A.2.2.1; have := A.2.2.2.1; omega
    · have := B.2.2.1; have := B.2.2.2.1; omega
    · have := C.2.2.1; have := C.2.2.2.1; omega
    · have := D.2.2.1; have := D.2.2.2.1; omega
    · have := E.2.2.1; have := E.2.2.2.1; omega
    · have := F.2.2.1; have := F.2.2.2.1; omega
    · have := G.2.2.1; have := G.2.2.2.1; omega
    · have := H.2.2.1; have := H.2.2.2.1; omega
  refine ⟨_, _, _, x4, x5, x6, hs1, hs2, hs3, p4, p5, p6, by8_lt A.1 B.1 C.1 D.1 E.1 F.1 G.1 H.1, ?_, ?_, ?_, b4, b5, b6, ?_⟩
  · clear A B C D E F G H hs1 hs2 hs3 ho p4 p5 p6 hm; omega
  · clear A B C D E F G H hs1 hs2 hs3 ho p4 p5 p6 hm; omega
  · clear A B C D E F G H hs1 hs2 hs3 ho p5 p6 hm; omega
  · rw [ho]; exact hm

end Go.Proofs.YtmhcnkjmnbnldaaDoor

namespace Go.Proofs.YtmhcnkjmnbnldaaDoor

theorem filter_range_cut (p q : Nat → Bool) (n c : Nat) (hc : c < n) (hlow : ∀ j, j < c → p j = false ∧ q j = false) (hp : p c = true) (hq : q c = false) (hup : ∀ j, c < j → p j = q j) :
    (List.range n).filter p = c :: (List.range n).filter q := by
  obtain ⟨d, rfl⟩ : ∃ d, n = c + (1 + d) := ⟨n - c - 1, by omega⟩
  have e1 : ∀ r : Nat → Bool, (∀ j, j < c → r j = false) → (List.range c).filter r = [] := by
    intro r hr
    rw [List.filter_eq_nil_iff]
    intro j hj
    rw [List.mem_range] at hj
    simp [hr j hj]
  rw [filter_range_add p, filter_range_add q, e1 p fun j h => (hlow j h).1, e1 q fun j h => (hlow j h).2, filter_range_add _ 1 d, filter_range_add _ 1 d]
  have s1 : (List.range 1).filter (fun j => p (c + j)) = [0] := by simp [List.range_succ, hp]
  have s2 : (List.range 1).filter (fun j => q (c + j)) = [] := by simp [List.range_succ, hq]
  have s3 : (List.range d).filter (fun j => p (c + (1 + j))) = (List.range d).filter (fun j => q (c + (1 + j))) := List.filter_congr fun j _ => hup _ (by omega)
  rw [s1, s2, s3]
  simp

theorem testBit_pow_mul (k m j : Nat) : (2 ^ k * m).testBit j = (decide (k ≤ j) && m.testBit (j - k)) := by
  rw [Nat.mul_comm, Nat.testBit_mul_two_pow]

/-- The lowest set bit is taken away. -/
theorem bitL_next (x : Nat) (h0 : x ≠ 0) (hx : x < 18446744073709551616) : Lib.ctz 64 x < 64 ∧ bitL x = Lib.ctz 64 x :: bitL (x &&& (x - 1)) := by
  have hx' : x < 2 ^ 64 := hx
  obtain ⟨m, hm, hk⟩ := Lib.ctzFrom_spec 64 x (by omega) hx'
  have e : Lib.ctz 64 x = Lib.ctzFrom 64 x := by simp [Lib.ctz, h0]
  rw [e]
  refine ⟨hk, ?_⟩
  generalize Lib.ctzFrom 64 x = k at *
  clear e
  have hp : 0 < 2 ^ k := Nat.two_pow_pos k
  have e1 : x - 1 = 2 ^ k * (2 * m) + (2 ^ k - 1) := by
    rw [hm, Nat.mul_add, Nat.mul_one]; omega
  have t0 : ∀ j, (2 ^ k * (2 * m)).testBit j = (decide (k < j) && m.testBit (j - k - 1)) := by
    intro j
    rw [testBit_pow_mul]
    by_cases h : k < j
    · obtain ⟨d, rfl⟩ : ∃ d, j = k + (d + 1) := ⟨j - k - 1, by omega⟩
      have e2 : k + (d + 1) - k = d + 1 := by omega
      rw [e2, Nat.testBit_succ, show 2 * m / 2 = m by omega]
      simp
    · have : k ≤ j → (2 * m).testBit (j - k) = false := by
        intro hkj
        rw [show j - k = 0 by omega, Nat.testBit_zero]
        simp
      by_cases h2 : k ≤ j
      · simp [this h2, h]
      · simp [h2, h]
  have tx : ∀ j, x.testBit j = (decide (j = k) || (decide (k < j) && m.testBit (j - k - 1))) := by
    intro j
    rw [hm, testBit_pow_mul]
    by_cases h : k < j
    · obtain ⟨d, rfl⟩ : ∃ d, j = k + (d + 1) := ⟨j - k - 1, by omega⟩
      have e2 : k + (d + 1) - k = d + 1 := by omega
      rw [e2, Nat.testBit_succ, show (2 * m + 1) / 2 = m by omega]
      simp
    · by_cases h2 : k = j
      · subst h2; simp [Nat.testBit_zero]
      · have h3 : ¬ k ≤ j := by omega
        have h4 : ¬ j = k := by omega
        simp [h, h3, h4]
  have ty : ∀ j, (x &&& (x - 1)).testBit j = (decide (k < j) && m.testBit (j - k - 1)) := by
    intro j
    rw [Nat.testBit_and, tx, e1, Nat.testBit_two_pow_mul_add _ (by omega)]
    by_cases h : j < k
    · have h2 : ¬ j = k := by omega
      have h3 : ¬ k < j := by omega
      simp [h2, h3]
    · rw [if_neg h]
      by_cases h2 : k < j
      · obtain ⟨d, rfl⟩ : ∃ d, j = k + (d + 1) := ⟨j - k - 1, by omega⟩
        have e2 : k + (d + 1) - k = d + 1 := by omega
        rw [e2, Nat.testBit_succ, show 2 * m / 2 = m by omega]
        simp
      · obtain rfl : j = k := by omega
        simp [Nat.testBit_zero]
  unfold bitL
  refine filter_range_cut _ _ 64 k hk ?_ ?_ ?_ ?_
  · intro j hj
    rw [tx, ty]
    have h2 : ¬ j = k := by omega
    have h3 : ¬ k < j := by omega
    simp [h2, h3]
  · rw [tx]; simp
  · rw [ty]; simp
  · intro j hj
    rw [tx, ty]
    have h2 : ¬ j = k := by omega
    simp [h2]

theorem bitL_zero : bitL 0 = [] := by simp [bitL]
theorem bitL_len (x : Nat) : (bitL x).length ≤ 64 := by
  unfold bitL
  have := List.length_filter_le (fun j => x.testBit j) (List.range 64)
  simpa using this

/-- The words are words. -/
def In64 (X : List Int) : Prop := ∀ i, 0 ≤ X.getD i 0 ∧ X.getD i 0 < 18446744073709551616

theorem In64.set {X : List Int} (h : In64 X) (i : Nat) (x : Int) (h0 : 0 ≤ x) (h1 : x < 18446744073709551616) : In64 (X.set i x) := by
  intro j
  rw [List.getD_eq_getElem?_getD, List.getElem?_set]
  split
  · split
    · exact ⟨h0, h1⟩
    · exact ⟨by simp, by simp⟩
  · rw [← List.getD_eq_getElem?_getD]; exact h j

theorem In64.put {ps : List (Int × Int)} : ∀ {X : List Int}, In64 X → (∀ p ∈ ps, 0 ≤ p.2 ∧ p.2 < 18446744073709551616) → In64 (putAll X ps) := by
  induction ps with
  | nil => intro X h _; exact h
  | cons p ps ih =>
    intro X h hp
    show In64 (putAll (X.set p.1.toNat p.2) ps)
    have := hp p (by simp)
    exact ih (h.set _ _ this.1 this.2) fun q hq => hp q (by simp [hq])

/-- The k-th word of the bits. -/
def bw (X : List Int) (k : Nat) : Nat := (X.getD (816 + k) 0).toNat

theorem bw_lt {X : List Int} (h : In64 X) (k : Nat) : bw X k < 18446744073709551616 := by have := h (816 + k); unfold bw; omega
theorem bw_cast {X : List Int} (h : In64 X) (k : Nat) : ((bw X k : Nat) : Int) = X.getD (816 + k) 0 := by have := h (816 + k); unfold bw; omega

/-- Whether a block is used. -/
def usedN (X : List Int) (b : Nat) : Bool := (bw X (b / 64)).testBit (b % 64)

/-- The free blocks of the k-th word, as bits: the block 0 is none. -/
def frW (X : List Int) (k : Nat) : Nat := if k = 0 then (18446744073709551615 - bw X 0) &&& (18446744073709551615 - 1) else 18446744073709551615 - bw X k

theorem testBit_not (x j : Nat) (hx : x < 18446744073709551616) : (18446744073709551615 - x).testBit j = (decide (j < 64) && !x.testBit j) := by
  have := Nat.testBit_two_pow_sub_succ (x := x) (n := 64) hx j
  rw [← this]
  congr 1
  show _ = 18446744073709551616 - (x + 1)
  omega

theorem frW_lt (X : List Int) (k : Nat) : frW X k < 18446744073709551616 := by
  unfold frW
  split
  · have : (18446744073709551615 - bw X 0) &&& (18446744073709551615 - 1) ≤ 18446744073709551615 - bw X 0 := Nat.and_le_left
    omega
  · omega

theorem testBit_frW {X : List Int} (h : In64 X) (k j : Nat) : (frW X k).testBit j = (decide (j < 64) && !(bw X k).testBit j && !(decide (k = 0) && decide (j = 0))) := by
  unfold frW
  split
  · rename_i hk
    subst hk
    rw [Nat.testBit_and, testBit_not _ _ (bw_lt h 0), testBit_not _ _ (by omega), show (1 : Nat) = 2 ^ 0 from rfl, Nat.testBit_two_pow]
    by_cases h1 : j < 64 <;> by_cases h2 : j = 0 <;> simp [h1, h2] <;> (intro; omega)
  · rename_i hk
    rw [testBit_not _ _ (bw_lt h k)]
    simp [hk]

/-- The free blocks below n, rising. -/
def freeTo (X : List Int) (n : Nat) : List Nat := (List.range n).filter fun b => b != 0 && !usedN X b

def freeL (X : List Int) : List Nat := freeTo X 256

theorem freeTo_zero (X : List Int) : freeTo X 0 = [] := rfl

theorem freeTo_word {X : List Int} (h : In64 X) (k : Nat) : freeTo X (64 * (k + 1)) = freeTo X (64 * k) ++ (bitL (frW X k)).map (64 * k + ·) := by
  unfold freeTo bitL
  rw [show 64 * (k + 1) = 64 * k + 64 by omega, filter_range_add]
  congr 2
  apply List.filter_congr
  intro j hj
  rw [List.mem_range] at hj
  rw [testBit_frW h, usedN, show (64 * k + j) / 64 = k by omega, show (64 * k + j) % 64 = j by omega]
  by_cases h1 : k = 0 <;> by_cases h2 : j = 0
  · subst h1; subst h2; simp
  · simp [h1, h2, hj]
  · have h3 : ¬ (64 * k = 0) := by omega
    simp [h1, h2, h3]
  · have : ¬ (64 * k + j = 0) := by omega
    simp [h1, h2, hj]

theorem freeTo_mem {X : List Int} {n b : Nat} : b ∈ freeTo X n ↔ b < n ∧ b ≠ 0 ∧ usedN X b = false := by
  unfold freeTo
  rw [List.mem_filter, List.mem_range]
  simp

theorem freeTo_nodup (X : List Int) (n : Nat) : (freeTo X n).Nodup := List.Pairwise.filter _ List.nodup_range

theorem freeL_len (X : List Int) : (freeL X).length ≤ 255 := by
  unfold freeL freeTo
  rw [show (256 : Nat) = 1 + 255 from rfl, filter_range_add, List.length_append]
  have h1 : ((List.range 1).filter fun b => b != 0 && !usedN X b).length = 0 := by simp [List.range_succ]
  have h2 := List.length_filter_le (fun j => (1 + j) != 0 && !usedN X (1 + j)) (List.range 255)
  rw [List.length_map, h1]
  simp only [List.length_range] at h2
  omega

/-- How many are free below a word. -/
theorem freeTo_len {X : List Int} (h : In64 X) (k : Nat) : (freeTo X (64 * (k + 1))).length = (freeTo X (64 * k)).length + ones 64 (frW X k) := by
  rw [freeTo_word h, List.length_append, List.length_map, ones_bitL]

/-- A word of which one bit is set, or taken back. -/
def setW (x j : Nat) (u : Bool) : Nat := if u = true then (x &&& (18446744073709551615 - 2 ^ j)) ||| 2 ^ j else x &&& (18446744073709551615 - 2 ^ j)

theorem pow_lt64 {j : Nat} (hj : j < 64) : 2 ^ j < 18446744073709551616 := Nat.lt_of_lt_of_le (Nat.pow_lt_pow_right (by decide) hj) (by decide)

theorem setW_lt {x j : Nat} (hx : x < 18446744073709551616) (hj : j < 64) (u : Bool) : setW x j u < 18446744073709551616 := by
  have h1 : x &&& (18446744073709551615 - 2 ^ j) < 2 ^ 64 := Nat.lt_of_le_of_lt Nat.and_le_left hx
  unfold setW
  split
  · exact Nat.or_lt_two_pow h1 (pow_lt64 hj)
  · exact h1

theorem testBit_setW {x j : Nat} (hx : x < 18446744073709551616) (hj : j < 64) (u : Bool) (i : Nat) : (setW x j u).testBit i = if i = j then u else x.testBit i := by
  have h64 : ¬ i < 64 → x.testBit i = false := by
    intro h
    apply Nat.testBit_lt_two_pow
    exact Nat.lt_of_lt_of_le hx (Nat.pow_le_pow_right (n := 2) (i := 64) (by decide) (by omega))
  have h1 : (x &&& (18446744073709551615 - 2 ^ j)).testBit i = (x.testBit i && !decide (i = j)) := by
    rw [Nat.testBit_and, testBit_not _ _ (pow_lt64 hj), Nat.testBit_two_pow]
    by_cases h : i < 64
    · by_cases h2 : i = j
      · simp [h2]
      · have : ¬ j = i := fun e => h2 e.symm
        simp [h, h2, this]
    · simp [h64 h]
  unfold setW
  split
  · rename_i hu
    rw [Nat.testBit_or, h1, Nat.testBit_two_pow, hu]
    by_cases h2 : i = j
    · simp [h2]
    · have : ¬ j = i := fun e => h2 e.symm
      simp [h2, this]
  · rename_i hu
    rw [h1]
    have : u = false := by simpa using hu
    subst this
    by_cases h2 : i = j <;> simp [h2]

/-- What is put to set a block's bit. -/
def setPs (X : List Int) (b : Nat) (u : Bool) : List (Int × Int) := if b = 0 ∨ 256 ≤ b then [] else [((816 + b / 64 : Nat), (setW (bw X (b / 64)) (b % 64) u : Nat))]

theorem setPs_in {X : List Int} (h : In64 X) (b : Nat) (u : Bool) : ∀ p ∈ setPs X b u, 0 ≤ p.2 ∧ p.2 < 18446744073709551616 := by
  intro p hp
  unfold setPs at hp
  split at hp
  · simp at hp
  · rw [List.mem_singleton] at hp
    subst hp
    have := setW_lt (bw_lt h (b / 64)) (Nat.mod_lt b (by decide : 0 < 64)) u
    exact ⟨by simp, by show ((_ : Nat) : Int) < _; omega⟩

theorem getD_setI (l : List Int) (i j : Nat) (x : Int) (hi : i < l.length) : (l.set i x).getD j 0 = if i = j then x else l.getD j 0 := by
  rw [List.getD_eq_getElem?_getD, List.getElem?_set]
  by_cases e : i = j
  · subst e; simp [hi]
  · rw [if_neg e, if_neg e, List.getD_eq_getElem?_getD]

theorem usedN_set {X : List Int} (h : In64 X) (hl : X.length = 3128) (b : Nat) (h0 : b ≠ 0) (hb : b < 256) (u : Bool) (c : Nat) : usedN (putAll X (setPs X b u)) c = if c = b then u else usedN X c := by
  unfold setPs
  rw [if_neg (by omega), putAll_one, Int.toNat_natCast]
  unfold usedN bw
  rw [getD_setI _ _ _ _ (by omega)]
  by_cases e : 816 + b / 64 = 816 + c / 64
  · rw [if_pos e, Int.toNat_natCast, show (X.getD (816 + b / 64) 0).toNat = bw X (b / 64) from rfl, testBit_setW (bw_lt h (b / 64)) (Nat.mod_lt b (by decide : 0 < 64))]
    have e2 : c / 64 = b / 64 := by omega
    rw [e2]
    by_cases e3 : c = b
    · rw [if_pos e3, if_pos (by rw [e3])]
    · rw [if_neg e3, if_neg (by omega)]; rfl
  · rw [if_neg e, if_neg (by intro e2; subst e2; exact e rfl)]

/-- What is put to empty a block. -/
def emptyTo (b k : Nat) : List (Int × Int) := (List.range k).map fun (j : Nat) => (((1080 + b * 8 + j : Nat) : Int), (0 : Int))
def emptyPs (b : Nat) : List (Int × Int) := emptyTo b 8

theorem emptyTo_succ (b k : Nat) : emptyTo b (k + 1) = emptyTo b k ++ [(((1080 + b * 8 + k : Nat) : Int), (0 : Int))] := by
  unfold emptyTo
  rw [List.range_succ, List.map_append]
  rfl

theorem emptyTo_len (b k : Nat) : (emptyTo b k).length = k := by simp [emptyTo]

theorem emptyPs_mem {b : Nat} {p : Int × Int} (h : p ∈ emptyPs b) : ∃ j, j < 8 ∧ p = (((1080 + b * 8 + j : Nat) : Int), (0 : Int)) := by
  unfold emptyPs emptyTo at h
  rw [List.mem_map] at h
  obtain ⟨j, hj, rfl⟩ := h
  exact ⟨j, List.mem_range.1 hj, rfl⟩

theorem usedN_other {X : List Int} {ps : List (Int × Int)} (h : ∀ p ∈ ps, 1080 ≤ p.1) (c : Nat) (hc : c < 256) : usedN (putAll X ps) c = usedN X c := by
  unfold usedN bw
  rw [putAll_other _ _ _ fun p hp => by have := h p hp; omega]

/-- What is put to take these blocks. -/
def takePs (X : List Int) : List Nat → List (Int × Int)
  | [] => []
  | b :: l => (setPs X b true ++ emptyPs b) ++ takePs (putAll X (setPs X b true ++ emptyPs b)) l

theorem take1_in {X : List Int} (h : In64 X) (b : Nat) : ∀ p ∈ setPs X b true ++ emptyPs b, 0 ≤ p.2 ∧ p.2 < 18446744073709551616 := by
  intro p hp
  rw [List.mem_append] at hp
  rcases hp with hp | hp
  · exact setPs_in h b true p hp
  · obtain ⟨j, -, rfl⟩ := emptyPs_mem hp
    exact ⟨Int.le_refl 0, by show (0 : Int) < _; omega⟩

theorem usedN_take1 {X : List Int} (h : In64 X) (hl : X.length = 3128) (b : Nat) (h0 : b ≠ 0) (hb : b < 256) (c : Nat) (hc : c < 256) : usedN (putAll X (setPs X b true ++ emptyPs b)) c = (usedN X c || decide (c = b)) := by
  rw [putAll_append, usedN_other (fun p hp => by obtain ⟨j, -, rfl⟩ := emptyPs_mem hp; show (1080 : Int) ≤ ((_ : Nat) : Int); omega) c hc, usedN_set h hl b h0 hb]
  by_cases e : c = b <;> simp [e]

theorem setPs_len (X : List Int) (b : Nat) (h0 : b ≠ 0) (hb : b < 256) (u : Bool) : (setPs X b u).length = 1 := by
  unfold setPs
  rw [if_neg (by omega)]
  rfl

theorem takePs_len (l : List Nat) : ∀ X : List Int, (∀ b ∈ l, b ≠ 0 ∧ b < 256) → (takePs X l).length = 9 * l.length := by
  induction l with
  | nil => intro X _; rfl
  | cons b l ih =>
    intro X h
    obtain ⟨h0, h1⟩ := h b (by simp)
    show ((setPs X b true ++ emptyPs b) ++ takePs _ l).length = _
    rw [List.length_append, List.length_append, setPs_len X b h0 h1, emptyPs, emptyTo_len, ih _ fun c hc => h c (by simp [hc])]
    simp only [List.length_cons]
    omega

theorem takePs_snoc (l : List Nat) (b : Nat) : ∀ X : List Int, takePs X (l ++ [b]) = takePs X l ++ (setPs (putAll X (takePs X l)) b true ++ emptyPs b) := by
  induction l with
  | nil => intro X; show (setPs X b true ++ emptyPs b) ++ [] = [] ++ _; rw [List.append_nil]; rfl
  | cons c l ih =>
    intro X
    have e : putAll X (takePs X (c :: l)) = putAll (putAll X (setPs X c true ++ emptyPs c)) (takePs (putAll X (setPs X c true ++ emptyPs c)) l) := putAll_append _ _ _
    rw [e]
    show (setPs X c true ++ emptyPs c) ++ takePs (putAll X (setPs X c true ++ emptyPs c)) (l ++ [b]) = ((setPs X c true ++ emptyPs c) ++ takePs (putAll X (setPs X c true ++ emptyPs c)) l) ++ _
    rw [ih, List.append_assoc (setPs X c true ++ emptyPs c)]

theorem takePs_state (l : List Nat) : ∀ X : List Int, In64 X → X.length = 3128 → (∀ b ∈ l, b ≠ 0 ∧ b < 256) →
    In64 (putAll X (takePs X l)) ∧ (putAll X (takePs X l)).length = 3128 ∧ ∀ c, c < 256 → usedN (putAll X (takePs X l)) c = (usedN X c || decide (c ∈ l)) := by
  induction l with
  | nil => intro X h hl _; exact ⟨h, hl, fun c _ => by simp [takePs, putAll]⟩
  | cons b l ih =>
    intro X h hl hb
    obtain ⟨h0, h1⟩ := hb b (by simp)
    have hX : In64 (putAll X (setPs X b true ++ emptyPs b)) := h.put (take1_in h b)
    obtain ⟨k1, k2, k3⟩ := ih (putAll X (setPs X b true ++ emptyPs b)) hX (by rw [putAll_len]; exact hl) fun c hc => hb c (by simp [hc])
    have e : putAll X (takePs X (b :: l)) = putAll (putAll X (setPs X b true ++ emptyPs b)) (takePs (putAll X (setPs X b true ++ emptyPs b)) l) := putAll_append _ _ _
    rw [e]
    refine ⟨k1, k2, fun c hc => ?_⟩
    rw [k3 c hc, usedN_take1 h hl b h0 h1 c hc]
    by_cases e1 : c = b <;> by_cases e2 : c ∈ l <;> simp [e1, e2]

theorem filter_drop_take {l : List Nat} (hn : l.Nodup) (n : Nat) : l.filter (fun c => !decide (c ∈ l.take n)) = l.drop n := by
  have h1 : l.filter (fun c => !decide (c ∈ l.take n)) = (l.take n ++ l.drop n).filter (fun c => !decide (c ∈ l.take n)) := by rw [List.take_append_drop]
  rw [h1, List.filter_append]
  have hd : ∀ c, c ∈ l.take n → c ∈ l.drop n → False := by
    rw [← List.take_append_drop n l] at hn
    intro c h2 h3
    exact (List.nodup_append.1 hn).2.2 c h2 c h3 rfl
  have e1 : (l.take n).filter (fun c => !decide (c ∈ l.take n)) = [] := by
    rw [List.filter_eq_nil_iff]; intro c hc; simp [hc]
  have e2 : (l.drop n).filter (fun c => !decide (c ∈ l.take n)) = l.drop n := by
    rw [List.filter_eq_self]; intro c hc
    have : c ∉ l.take n := fun h => hd c h hc
    simp [this]
  rw [e1, e2, List.nil_append]

/-- Behind a take of the first n the others are free. -/
theorem freeL_take {X : List Int} (h : In64 X) (hl : X.length = 3128) (n : Nat) : In64 (putAll X (takePs X ((freeL X).take n))) ∧ (putAll X (takePs X ((freeL X).take n))).length = 3128 ∧ freeL (putAll X (takePs X ((freeL X).take n))) = (freeL X).drop n := by
  have hm : ∀ b ∈ (freeL X).take n, b ≠ 0 ∧ b < 256 := fun b hb => by
    have := freeTo_mem.1 (List.mem_of_mem_take hb)
    exact ⟨this.2.1, this.1⟩
  obtain ⟨k1, k2, k3⟩ := takePs_state ((freeL X).take n) X h hl hm
  refine ⟨k1, k2, ?_⟩
  have hd := filter_drop_take (freeTo_nodup X 256) n
  have e : ∀ Y, freeTo Y 256 = (List.range 256).filter (fun b => b != 0 && !usedN Y b) := fun _ => rfl
  have k3' : ∀ c, c < 256 → usedN (putAll X (takePs X (List.take n (freeTo X 256)))) c = (usedN X c || decide (c ∈ List.take n (freeTo X 256))) := k3
  clear k3 k1 k2 hm
  show freeTo (putAll X (takePs X (List.take n (freeTo X 256)))) 256 = List.drop n (freeTo X 256)
  generalize List.take n (freeTo X 256) = L at *
  rw [← hd, e X, e, List.filter_filter]
  apply List.filter_congr
  intro c hc
  rw [List.mem_range] at hc
  rw [k3' c hc]
  by_cases e1 : c ∈ L <;> simp [e1]

end Go.Proofs.YtmhcnkjmnbnldaaDoor

namespace Go.Proofs.YtmhcnkjmnbnldaaDoor
open Go.RowKit

/-- The place of the e-th entry's name. -/
def entAt (l : List Int) (e : Nat) : Nat := 1080 + 8 * (l.getD (e / 4) 0).toNat + 2 * (e % 4)

def entW (X l : List Int) (e : Nat) : Nat := (X.getD (entAt l e) 0).toNat
def entI (X l : List Int) (e : Nat) : Int := X.getD (entAt l e + 1) 0

/-- So many entries, as the words of a directory's blocks tell them. -/
def entsE (X l : List Int) (m : Nat) : List (ByteArray × Int) := (List.range m).map fun e => (strN ((nameN (entW X l e)).getD []), entI X l e)

theorem entsE_len (X l : List Int) (m : Nat) : (entsE X l m).length = m := by simp [entsE]

theorem entsE_get (X l : List Int) (m e : Nat) (h : e < m) : enm (entsE X l m) e = strN ((nameN (entW X l e)).getD []) ∧ eno (entsE X l m) e = entI X l e := by
  have : (entsE X l m).getD e (ByteArray.empty, 0) = (strN ((nameN (entW X l e)).getD []), entI X l e) := by
    rw [entsE, List.getD_eq_getElem?_getD, List.getElem?_map, List.getElem?_range h]
    rfl
  rw [enm, eno, this]
  exact ⟨rfl, rfl⟩

theorem take_ent (E : List (ByteArray × Int)) (n e : Nat) (h : e < n) : enm (E.take n) e = enm E e ∧ eno (E.take n) e = eno E e := by
  have : (E.take n).getD e (ByteArray.empty, 0) = E.getD e (ByteArray.empty, 0) := by simp [List.getD_eq_getElem?_getD, h]
  rw [enm, eno, this]
  exact ⟨rfl, rfl⟩

/-- The row of a block hangs on the entries up to it alone. -/
theorem entRow_take (E : List (ByteArray × Int)) (k c : Nat) (hc : c = min 4 (E.length - 4 * k)) (hk : 4 * k < E.length) : entRow (E.take (4 * k + c)) k = entRow E k := by
  unfold entRow
  rw [List.length_take, show min 4 (min (4 * k + c) E.length - 4 * k) = c by omega, ← hc]
  refine z_ext (by rw [entTo_len, entTo_len]) fun i hi => ?_
  rw [entTo_len] at hi
  rw [entTo_get _ _ _ _ hi, entTo_get _ _ _ _ hi]
  by_cases h : i < 2 * c
  · rw [if_pos h, if_pos h]
    obtain ⟨h1, h2⟩ := take_ent E (4 * k + c) (4 * k + i / 2) (by omega)
    rw [entX, entX, h1, h2]
  · rw [if_neg h, if_neg h]

/-- The k-th block of a directory of m entries is one. -/
def BlkOk (X l : List Int) (m k : Nat) : Prop :=
  l.getD k 0 ≠ 0 ∧ (∀ j, j < min 4 (m - 4 * k) → (nameN (entW X l (4 * k + j))).isSome = true ∧ entI X l (4 * k + j) < 32) ∧ entRow (entsE X l m) k = rowL X (1080 + 8 * (l.getD k 0).toNat)

def EntsOk (X l : List Int) (m : Nat) : Prop := m ≤ 24 ∧ l = uptoL l (blocksN m) ∧ ∀ k, k < blocksN m → BlkOk X l m k

theorem ent_place (l : List Int) (k j : Nat) (hj : j < 4) : entAt l (4 * k + j) = 1080 + 8 * (l.getD k 0).toNat + 2 * j := by
  rw [entAt, show (4 * k + j) / 4 = k by omega, show (4 * k + j) % 4 = j by omega]

theorem nameN_some {W : Nat} {l : List Nat} (h : nameN W = some l) : l.length ≤ 7 ∧ (∀ c ∈ l, c < 256) ∧ goodN l = true ∧ wordN l = W := by
  unfold nameN at h
  split at h
  · rename_i hc
    cases h
    exact ⟨by rw [List.length_take]; omega, fun c hc' => byts_lt W c (List.mem_of_mem_take hc'), hc.2.1, hc.2.2⟩
  · cases h

theorem name_size (W : Nat) : (strN ((nameN W).getD [])).size ≤ 7 := by
  rw [strN_size]
  cases h : nameN W with
  | none => simp
  | some l => exact (nameN_some h).1

end Go.Proofs.YtmhcnkjmnbnldaaDoor

namespace Go.Proofs.YtmhcnkjmnbnldaaDoor
open Go.RowKit

def blockN (b : Int) : Int := if b < 0 ∨ 256 ≤ b then -1 else 1080 + b * 8

set_option maxHeartbeats 400000 in
theorem txBlock_at (b : Int) (w : World) : Calls Tryd.prog 36 #[.int .i64 b] w fun e w' => e = .returned (.int .i64 (blockN b)) ∧ w = w' := by
  rcases (show b < 0 ∨ 256 ≤ b ∨ (0 ≤ b ∧ b < 256) by omega) with h | h | ⟨h1, h2⟩
  · rw [blockN, if_pos (.inl h)]
    go_enter Tryd.func36, Tryd.ntmps36
    go_wp2
    go_ret
    exact ⟨rfl, rfl⟩
  · rw [blockN, if_pos (.inr h)]
    have h0 : ¬ b < 0 := by omega
    go_enter Tryd.func36, Tryd.ntmps36
    go_wp2
    go_ret
    exact ⟨rfl, rfl⟩
  · rw [blockN, if_neg (by omega)]
    go_enter Tryd.func36, Tryd.ntmps36
    go_wp2
    go_ret
    exact ⟨rfl, rfl⟩

end Go.Proofs.YtmhcnkjmnbnldaaDoor
