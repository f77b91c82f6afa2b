/-
  Layer 7, the reference: Need. Layer 6 (fmt1): Lay, where it refuses. Layer 5: the laws' sheet. Layer 5: the reference's Bits. Layer 5: four words loaded as an array; numbers read. Layer 6 (fmt1): Lay, where it lays. Layer 7 (fmt2): Lay.
-/
import Derived.Test.YtmhcnkjmnbnldaaDoorG08
import Derived.Test.YtmhcnkjmnbnldaaDoorG07
import Derived.Test.YtmhcnkjmnbnldaaDoorG03
import Derived.Test.YtmhcnkjmnbnldaaDoorG04
import Derived.Test.YtmhcnkjmnbnldaaDoorG02
import Derived.Deep.DeepCutAuto
namespace Go.Proofs.YtmhcnkjmnbnldaaDoor
open Go.RowKit

theorem need_facts (q y : Nat) (hq : q ≤ 10000) (hy : y ≤ 100000) : ∃ a b c : Int, (q : Int) + 2 = a ∧ wrap64 a = a ∧ a.tdiv 3 = b ∧ wrap64 b = b ∧ (y : Int) + b = c ∧ wrap64 c = c ∧ Hid (c = ((y + (q + 2) / 3 : Nat) : Int)) := by
  have h3 : ((q : Int) + 2).tdiv 3 = (((q + 2) / 3 : Nat) : Int) := by rw [show (q : Int) + 2 = ((q + 2 : Nat) : Int) by omega, show (3 : Int) = ((3 : Nat) : Int) from rfl, Int.ofNat_tdiv]
  refine ⟨_, _, _, rfl, by unfold wrap64; omega, rfl, ?_, rfl, ?_, ?_⟩
  · rw [h3]; unfold wrap64; omega
  · rw [h3]; unfold wrap64; omega
  · show _ = _
    rw [h3]; omega

set_option maxRecDepth 100000 in
set_option maxHeartbeats 4000000 in
theorem refNeed_file (n : Ino) (v : Value) (hB : n.B.length = 13) (hK : n.K = 1) (hF : FileP n) (w : World) :
    Calls Tryd.prog 26 #[.agg (inoC n v)] w fun e w' => e = .returned (.int .i64 ((needF n : Nat) : Int)) ∧ Keeps [] w w' := by
  have HRUN := Lib.hid (fun wx => refRuns_at n.B hB wx)
  have hb0 := Blk.new w (inoC n v) 25
  have HK0 : Hid (Keeps [] w (w.alloc (.cells (inoC n v) 25))) := (Keeps.refl [] w).alloc _
  have HL1 : Hid ((loadVar 22 ⟨w.heap.size, 4, none⟩).run Tryd.prog (w.alloc (.cells (inoC n v) 25)) = .ok (.agg (zs n.B).toArray) (w.alloc (.cells (inoC n v) 25))) := load_n13 (off := 4) hb0 hB fun k hk => inoC_B _ (by omega)
  have c1 : (w.alloc (.cells (inoC n v) 25)).cell? ⟨w.heap.size, 1, none⟩ = some (.int .i64 1) := by rw [hb0.cell, ← hK]; exact (inoAt v hB).f1
  have hN := need_file hF
  by_cases h6 : 6 < (runsL n.B).length
  · rw [if_pos h6] at hN
    rw [hN]
    have h6' : (6 : Int) < ((runsL n.B).length : Int) := by omega
    clear hb0 hN hF hK hB h6
    generalize inoC n v = Z at *
    generalize (zs n.B).toArray = ZB at *
    generalize runsL n.B = R at *
    go_enter Tryd.func26, Tryd.ntmps26
    go_wp2_with ((with_reducible show wpList _ _ _ (⟨_, .load 22 (.tmp 8), _, _, _, _⟩ :: _) _ _); refine wpList_load_any rfl 22 (.tmp 8) rfl _ rfl _ HL1.out ?_)
    refine (HRUN.out _).mono ?_; rintro e w2 ⟨va, ga, rfl, hra, hga, hka⟩
    obtain ⟨aa, ca, rfl, -, -, -⟩ := u64s_cell hra
    have HK2 := Lib.hid (HK0.out.trans' hka)
    clear hra hga hka
    go_wp2_with fail
    go_ret
    exact ⟨rfl, HK2.out⟩
  · rw [if_neg h6] at hN
    rw [hN]
    have h6' : ¬ (6 : Int) < ((runsL n.B).length : Int) := by omega
    clear hb0 hN hF hK hB h6
    generalize inoC n v = Z at *
    generalize (zs n.B).toArray = ZB at *
    generalize runsL n.B = R at *
    go_enter Tryd.func26, Tryd.ntmps26
    go_wp2_with ((with_reducible show wpList _ _ _ (⟨_, .load 22 (.tmp 8), _, _, _, _⟩ :: _) _ _); refine wpList_load_any rfl 22 (.tmp 8) rfl _ rfl _ HL1.out ?_)
    refine (HRUN.out _).mono ?_; rintro e w2 ⟨va, ga, rfl, hra, hga, hka⟩
    obtain ⟨aa, ca, rfl, -, -, -⟩ := u64s_cell hra
    have HK2 := Lib.hid (HK0.out.trans' hka)
    clear hra hga hka
    go_wp2_with fail
    go_ret
    exact ⟨rfl, HK2.out⟩

set_option maxRecDepth 100000 in
set_option maxHeartbeats 4000000 in
theorem refNeed_dir (n : Ino) (v : Value) (g : Nat) (hB : n.B.length = 13) (hK : n.K = 2) (hD : DirP n) (w : World) (hE : EReads w v g n.E) (hgood : ∀ k, k < n.E.length → goodN (bl (enm n.E k)) = true ∧ wordN (bl (enm n.E k)) < 18446744073709551616) :
    Calls Tryd.prog 26 #[.agg (inoC n v)] w fun e w' => e = .returned (.int .i64 ((needF n : Nat) : Int)) ∧ Keeps [] w w' := by
  have h24 := hD.1
  have HBK : Hid (∀ wx, Keeps [] w wx → ∀ q : Nat, q < 4 → Calls Tryd.prog 53 #[v, .int .i64 (q : Int)] wx (MadeEnts wx (sprE n.E q))) := by
    intro wx hk q hq
    have h1 := hE.keep hk (by simp)
    have h2 : n.E.length ≤ 10000 := Nat.le_trans h24 (by decide)
    exact refBucket_at h1 h2 hgood q hq
  have hb0 := Blk.new w (inoC n v) 25
  have HK0 : Hid (Keeps [] w (w.alloc (.cells (inoC n v) 25))) := (Keeps.refl [] w).alloc _
  have HC17 : Hid (∀ wx, Keeps [] (w.alloc (.cells (inoC n v) 25)) wx → wx.cell? ⟨w.heap.size, 17, none⟩ = some v) := fun wx hk => by rw [(hb0.keep hk (by simp)).cell]; exact inoC_E _ hB
  have c1 : (w.alloc (.cells (inoC n v) 25)).cell? ⟨w.heap.size, 1, none⟩ = some (.int .i64 2) := by rw [hb0.cell, ← hK]; exact (inoAt v hB).f1
  have HLE : Hid (∀ k, (sprE n.E k).length ≤ 24) := fun k => Nat.le_trans (sprE_len _ _) h24
  have HFL : Hid (∀ k, k ≤ 4 → fstN n.E k ≤ 100) := fun k hk => by
    have h1 := fstN_mono n.E hk
    have e0 := sprE_len n.E 0
    have e1 := sprE_len n.E 1
    have e2 := sprE_len n.E 2
    have e3 := sprE_len n.E 3
    simp only [fstN, dN] at h1
    omega
  rw [need_dir hD]
  clear hb0 hE hgood hD hK h24 hB
  generalize inoC n v = Z at *
  go_enter Tryd.func26, Tryd.ntmps26
  go_wp2_with fail
  clear c1
  go_loopg [3, 4] 4 (fun gh s3 s4 wx => ∃ k : Nat, k + gh = 4 ∧ s4 = .int .i64 (k : Int) ∧ s3 = .int .i64 ((fstN n.E k : Nat) : Int) ∧ Hid (Keeps [] (w.alloc (.cells Z 25)) wx))
  case atStart => exact ⟨0, by omega, rfl, rfl, Keeps.refl _ _⟩
  case round =>
    obtain ⟨k, hk, rfl, rfl, HP⟩ := hrel
    cases gk with
    | zero =>
      obtain rfl : k = 4 := by omega
      have HKF := Lib.hid (HK0.out.trans' HP.out)
      clear hk
      go_wp2_with fail
      go_ret
      exact ⟨rfl, HKF.out⟩
    | succ gg =>
      have hk4 : k < 4 := by omega
      have hlt : (k : Int) < 4 := by omega
      have c17 := HC17.out wr HP.out
      have HB := Lib.hid (HBK.out wr (HK0.out.trans' HP.out) k hk4)
      have HSU : Hid (fstN n.E (k + 1) = fstN n.E k + ((sprE n.E k).length + 2) / 3) := rfl
      obtain ⟨a, b, c, f1, f2, f3, f4, f5, f6, HC⟩ := need_facts (sprE n.E k).length (fstN n.E k) (by have := HLE.out k; omega) (by have := HFL.out k (by omega); omega)
      have HKK : Hid (k + (gg + 1) = 4) := hk
      clear hk hk4
      generalize fstN n.E k = y at *
      go_wp2_with fail
      refine HB.out.mono ?_; rintro e w2 ⟨vb, gb, rfl, hvb, hgb, hkb⟩
      obtain ⟨ab, cb, rfl, -⟩ := hvb
      have HKP := Lib.hid (HP.out.trans' hkb)
      clear hgb hkb c17 HB
      generalize (sprE n.E k).length = q at *
      go_wp2_with fail
      go_roundg gg
      case measure => omega
      case rel => exact ⟨k + 1, by have := HKK.out; omega, by go_num, by rw [HSU.out, ← HC.out, f6], HKP.out⟩

end Go.Proofs.YtmhcnkjmnbnldaaDoor

namespace Go.Proofs.YtmhcnkjmnbnldaaDoor
open Go.RowKit

/-- It can be laid. -/
def LayP (i : Int) (n : Ino) : Prop := (0 ≤ i ∧ i < 32) ∧ n.F = 1 ∧ RightP n

instance (i : Int) (n : Ino) : Decidable (LayP i n) := by unfold LayP; infer_instance

set_option maxRecDepth 100000 in
set_option maxHeartbeats 4000000 in
theorem lay_arg {w : World} {p : Value} (i : Int) (n : Ino) (v : Value) (g : Nat) (hB : n.B.length = 13) (hE : EReads w v g n.E) (hN : ∀ k, k < n.E.length → (enm n.E k).size ≤ 9223372036854775807) (hno : ¬ LayP i n) :
    Calls Tryd.prog 11 #[p, .int .i64 i, .agg (inoC n v)] w fun e w' => e = .returned (.int .i64 1) ∧ Keeps [] w w' := by
  have HRT : Hid (∀ wx, Keeps [] w wx → Calls Tryd.prog 14 #[.agg (inoC n v)] wx fun e w' => e = .returned (.bool (decide (RightP n))) ∧ Keeps [] wx w') := fun wx hk => right_at n v g hB wx (hE.keep hk (by simp)) hN
  have hat := inoAt v hB
  have hb0 := Blk.new w (inoC n v) 25
  have HL := Lib.hid (load_ino hb0 hB)
  have HI := Lib.hid (txInode_at i)
  generalize inoC n v = Z at *
  have c0 : (w.alloc (.cells Z 25)).cell? ⟨w.heap.size, 0, none⟩ = some (.int .i64 n.F) := by rw [hb0.cell]; exact hat.f0
  have HK : Hid (Keeps [] w (w.alloc (.cells Z 25))) := (Keeps.refl [] w).alloc _
  have HNO := Lib.hid hno
  clear hb0 hat hE hN hB hno
  by_cases hi : i < 0 ∨ 32 ≤ i
  · have hin : inodeN i = -1 := by unfold inodeN; rw [if_pos hi]
    rw [hin] at HI
    clear hin
    go_enter Tryd.func11, Tryd.ntmps11
    go_wp2_with fail
    refine (HI.out _).mono ?_; rintro e w' ⟨rfl, rfl⟩
    go_wp2_with fail
    go_ret
    exact ⟨rfl, HK.out⟩
  · have hin : inodeN i = ((824 + 8 * i.toNat : Nat) : Int) := by unfold inodeN; rw [if_neg hi]; omega
    rw [hin] at HI
    have hp0 : (0 : Int) ≤ ((824 + 8 * i.toNat : Nat) : Int) := by omega
    generalize ((824 + 8 * i.toNat : Nat) : Int) = q at *
    clear hin
    by_cases hF : n.F = 1
    · have HQ : Hid (decide (RightP n) = false) := decide_eq_false fun h => HNO.out ⟨by omega, hF, h⟩
      rw [hF] at c0
      rw [HQ.out] at HRT
      go_enter Tryd.func11, Tryd.ntmps11
      go_wp2_with fail
      refine (HI.out _).mono ?_; rintro e w' ⟨rfl, rfl⟩
      go_wp2_with ((with_reducible show wpList _ _ _ (⟨_, .load 25 (.tmp 5), _, _, _, _⟩ :: _) _ _); refine wpList_load_want (by simp [Region.wanted, yielded, hp0]) 25 (.tmp 5) rfl _ rfl _ HL.out ?_)
      refine (HRT.out _ HK.out).mono ?_; rintro e w1 ⟨rfl, hk1⟩
      have HK1 := Lib.hid (HK.out.trans' hk1)
      clear hk1
      go_wp2_with fail
      go_ret
      exact ⟨rfl, HK1.out⟩
    · have hF' : (n.F != 1) = true := bne_iff_ne.2 hF
      generalize n.F = f at *
      go_enter Tryd.func11, Tryd.ntmps11
      go_wp2_with fail
      refine (HI.out _).mono ?_; rintro e w' ⟨rfl, rfl⟩
      go_wp2_with fail
      go_ret
      exact ⟨rfl, HK.out⟩

set_option maxRecDepth 100000 in
set_option maxHeartbeats 4000000 in
theorem lay_space {w : World} {b gp : Nat} {B : List Int} {ps : List (Int × Int)} (h : ShAt w b gp B ps) (h64 : In64 (putAll B ps)) (i : Int) (n : Ino) (v : Value) (g : Nat) (hB : n.B.length = 13) (hE : EReads w v g n.E) (hN : ∀ k, k < n.E.length → (enm n.E k).size ≤ 9223372036854775807)
    (hok : LayP i n) (hfew : (freeL (putAll B ps)).length < needN n) :
    Calls Tryd.prog 11 #[.pointer (some ⟨b, 0, none⟩), .int .i64 i, .agg (inoC n v)] w fun e w' => e = .returned (.int .i64 7) ∧ Keeps [] w w' := by
  have HRT : Hid (∀ wx, Keeps [] w wx → Calls Tryd.prog 14 #[.agg (inoC n v)] wx fun e w' => e = .returned (.bool true) ∧ Keeps [] wx w') := fun wx hk => by
    have := right_at n v g hB wx (hE.keep hk (by simp)) hN
    rwa [decide_eq_true hok.2.2] at this
  have hl24 := (blocks_le hok.2.2).1
  have HNEED : Hid (∀ wx, Calls Tryd.prog 33 #[.agg (inoC n v)] wx fun e w' => e = .returned (.int .i64 ((needN n : Nat) : Int)) ∧ Keeps [] wx w') := fun wx => by
    obtain ⟨a, cap, rfl, -⟩ := hE
    exact need_at n a cap hB (by omega) wx
  have HTK : Hid (∀ wx, Keeps [] w wx → Calls Tryd.prog 32 #[.pointer (some ⟨b, 0, none⟩), .int .i64 ((needN n : Nat) : Int)] wx fun e w' => e = .returned (.tuple #[.slice none 0 0, .int .i64 7]) ∧ wx = w') := fun wx hk =>
    paTake_less (h.keep hk (by simp) (by simp)) h64 (needN n) hfew
  have hat := inoAt v hB
  have hb0 := Blk.new w (inoC n v) 25
  have HL : Hid (∀ wx, Keeps [] (w.alloc (.cells (inoC n v) 25)) wx → (loadVar 25 ⟨w.heap.size, 0, none⟩).run Tryd.prog wx = .ok (.agg (inoC n v)) wx) := fun wx hk => load_ino (hb0.keep hk (by simp)) hB
  have HI := Lib.hid (txInode_at i)
  generalize inoC n v = Z at *
  have c0 : (w.alloc (.cells Z 25)).cell? ⟨w.heap.size, 0, none⟩ = some (.int .i64 1) := by rw [hb0.cell, ← hok.2.1]; exact hat.f0
  have HK : Hid (Keeps [] w (w.alloc (.cells Z 25))) := (Keeps.refl [] w).alloc _
  have hin : inodeN i = ((824 + 8 * i.toNat : Nat) : Int) := by unfold inodeN; rw [if_neg (by have := hok.1; omega)]; have := hok.1; omega
  rw [hin] at HI
  have hp0 : (0 : Int) ≤ ((824 + 8 * i.toNat : Nat) : Int) := by omega
  generalize ((824 + 8 * i.toNat : Nat) : Int) = q at *
  clear hb0 hat hE hN hB hin hok h h64 hfew
  have HL0 := Lib.hid (HL.out _ (Keeps.refl [] _))
  generalize ((needN n : Nat) : Int) = nn at *
  go_enter Tryd.func11, Tryd.ntmps11
  go_wp2_with fail
  refine (HI.out _).mono ?_; rintro e w' ⟨rfl, rfl⟩
  go_wp2_with ((with_reducible show wpList _ _ _ (⟨_, .load 25 (.tmp 5), _, _, _, _⟩ :: _) _ _); refine wpList_load_want (by simp [Region.wanted, yielded, hp0]) 25 (.tmp 5) rfl _ rfl _ HL0.out ?_)
  refine (HRT.out _ HK.out).mono ?_; rintro e w1 ⟨rfl, hk1⟩
  have HK1 := Lib.hid (HK.out.trans' hk1)
  have HL1 := Lib.hid (HL.out _ hk1)
  clear hk1
  go_wp2_with ((with_reducible show wpList _ _ _ (⟨_, .load 25 (.tmp 5), _, _, _, _⟩ :: _) _ _); refine wpList_load_any rfl 25 (.tmp 5) rfl _ rfl _ HL1.out ?_)
  refine (HNEED.out _).mono ?_; rintro e w2 ⟨rfl, hk2⟩
  have HK2 := Lib.hid (HK1.out.trans' hk2)
  clear hk2
  go_wp2_with fail
  refine (HTK.out _ HK2.out).mono ?_; rintro e w3 ⟨rfl, rfl⟩
  go_wp2_with fail
  go_ret
  exact ⟨rfl, HK2.out⟩

end Go.Proofs.YtmhcnkjmnbnldaaDoor

namespace Go.Proofs.YtmhcnkjmnbnldaaDoor
open Go.RowKit

/-- The words under the laws' sheet, as they are laid: p words of the bits, ones up to q. -/
def laidX (ws : List Nat) (p q : Nat) : List Int := (List.range 3128).map fun j => if 816 ≤ j ∧ j < 816 + p then ((ws.getD (j - 816) 0 : Nat) : Int) else if 1080 ≤ j ∧ j < q then 1 else 0

theorem laidX_len (ws : List Nat) (p q : Nat) : (laidX ws p q).length = 3128 := by simp [laidX]

theorem laidX_get (ws : List Nat) (p q j : Nat) (hj : j < 3128) : (laidX ws p q).getD j 0 = if 816 ≤ j ∧ j < 816 + p then ((ws.getD (j - 816) 0 : Nat) : Int) else if 1080 ≤ j ∧ j < q then 1 else 0 := by
  rw [laidX, List.getD_eq_getElem?_getD, List.getElem?_map, List.getElem?_range hj]
  rfl

theorem ext_getD {l m : List Int} (hl : l.length = 3128) (hm : m.length = 3128) (h : ∀ j, j < 3128 → l.getD j 0 = m.getD j 0) : l = m := by
  apply List.ext_getElem (by rw [hl, hm])
  intro j h1 h2
  have := h j (by omega)
  simpa [List.getD_eq_getElem?_getD, h1, h2] using this

def zerosM : List Int := List.replicate 3128 0

theorem laidX_zero (ws : List Nat) : zerosM = laidX ws 0 1080 := by
  refine ext_getD List.length_replicate (laidX_len _ _ _) fun j hj => ?_
  rw [laidX_get _ _ _ _ hj, if_neg (by omega), if_neg (by omega), zerosM, List.getD_eq_getElem?_getD, List.getElem?_replicate, if_pos hj]
  rfl

theorem laidX_word (ws : List Nat) (p : Nat) (hp : p < 4) : (laidX ws p 1080).set (816 + p) ((ws.getD p 0 : Nat) : Int) = laidX ws (p + 1) 1080 := by
  refine ext_getD (by rw [List.length_set, laidX_len]) (laidX_len _ _ _) fun j hj => ?_
  rw [getD_setI _ _ _ _ (by rw [laidX_len]; omega), laidX_get _ _ _ _ hj, laidX_get _ _ _ _ hj]
  by_cases e : 816 + p = j
  · subst e
    rw [if_pos rfl, if_pos (by omega), Nat.add_sub_cancel_left]
  · rw [if_neg e]
    by_cases e2 : 816 ≤ j ∧ j < 816 + p
    · rw [if_pos e2, if_pos (by omega)]
    · rw [if_neg e2, if_neg (by omega), if_neg (by omega)]

theorem laidX_one (ws : List Nat) (q : Nat) (h0 : 1080 ≤ q) (hq : q < 3128) : (laidX ws 4 q).set q 1 = laidX ws 4 (q + 1) := by
  refine ext_getD (by rw [List.length_set, laidX_len]) (laidX_len _ _ _) fun j hj => ?_
  rw [getD_setI _ _ _ _ (by rw [laidX_len]; omega), laidX_get _ _ _ _ hj, laidX_get _ _ _ _ hj]
  by_cases e : q = j
  · subst e
    rw [if_pos rfl, if_neg (by omega), if_pos (by omega)]
  · rw [if_neg e]
    by_cases e2 : 816 ≤ j ∧ j < 816 + 4
    · rw [if_pos e2, if_pos e2]
    · rw [if_neg e2, if_neg e2]
      by_cases e3 : 1080 ≤ j ∧ j < q
      · rw [if_pos e3, if_pos (by omega)]
      · rw [if_neg e3, if_neg (by omega)]

/-- The words under the laws' sheet. -/
def sheetW (ws : List Nat) : List Int := laidX ws 4 3128

theorem sheetW_pad (ws : List Nat) : padW (sheetW ws) = sheetW ws := by
  unfold padW sheetW
  rw [laidX_len, List.take_of_length_le (by rw [laidX_len]; omega), Nat.sub_self, List.replicate_zero, List.append_nil]

theorem sheetW_64 (ws : List Nat) (h : ∀ i, ws.getD i 0 < 18446744073709551616) : In64 (sheetW ws) := by
  intro j
  by_cases hj : j < 3128
  · unfold sheetW
    rw [laidX_get _ _ _ _ hj]
    split
    · have := h (j - 816); omega
    · split <;> omega
  · rw [List.getD_eq_getElem?_getD, List.getElem?_eq_none (by rw [sheetW, laidX_len]; omega)]
    simp

theorem sheetW_bits (ws : List Nat) (k : Nat) (hk : k < 4) : bw (sheetW ws) k = ws.getD k 0 := by
  unfold bw sheetW
  rw [laidX_get _ _ _ _ (by omega), if_pos (by omega), Nat.add_sub_cancel_left, Int.toNat_natCast]

theorem owns_wordsM (w : World) (n : Nat) (hn : n ≤ 100000) : Owns (w.alloc (.cells (madeCells #[.int .u64 0] n) 30)) (.slice (some ⟨w.heap.size, 0, none⟩) n n) w.heap.size 30 1 n (u64s (List.replicate n 0)) := by
  refine ⟨by simp [u64s], _, n, rfl, Nat.le_refl _, by unfold maxLen; omega, fun _ => ⟨rfl, _, Blk.new _ _ _, by simp [size_madeCells], ?_⟩⟩
  rw [toList_madeCells_one, u64s_zero, List.take_of_length_le (by simp [u64s])]

theorem make_zeroW (w : World) : ∃ mc, (Instr.makeSlice 44 (.int .i64 3128) (.int .i64 3128)).run Tryd.prog w = .ok (.slice (some ⟨w.heap.size, 0, none⟩) 3128 3128) (w.alloc (.cells mc 30)) ∧
    Owns (w.alloc (.cells mc 30)) (.slice (some ⟨w.heap.size, 0, none⟩) 3128 3128) w.heap.size 30 1 3128 (u64s zerosM) :=
  ⟨_, make_u64 3128 (by omega) 3128 rfl 3128 (.inr rfl) w, owns_wordsM w 3128 (by omega)⟩

/-- Four words, as an array has them. -/
def w4 (ws : List Nat) : Array Value := #[.int .u64 ((ws.getD 0 0 : Nat) : Int), .int .u64 ((ws.getD 1 0 : Nat) : Int), .int .u64 ((ws.getD 2 0 : Nat) : Int), .int .u64 ((ws.getD 3 0 : Nat) : Int)]

theorem w4_get (ws : List Nat) (k : Nat) (hk : k < 4) : (w4 ws)[k]? = some (.int .u64 ((ws.getD k 0 : Nat) : Int)) := by
  rcases (show k = 0 ∨ k = 1 ∨ k = 2 ∨ k = 3 by omega) with rfl | rfl | rfl | rfl <;> rfl

end Go.Proofs.YtmhcnkjmnbnldaaDoor

namespace Go.Proofs.YtmhcnkjmnbnldaaDoor
open Go.RowKit

/-- The bits of four words, block by block, the first n of them. -/
def bitsB (ws : List Nat) (n : Nat) : List Bool := (List.range 256).map fun c => if c < n then (ws.getD (c / 64) 0).testBit (c % 64) else false

theorem bitsB_len (ws : List Nat) (n : Nat) : (bitsB ws n).length = 256 := by simp [bitsB]

theorem bitsB_get (ws : List Nat) (n c : Nat) (hc : c < 256) : (bitsB ws n).getD c false = if c < n then (ws.getD (c / 64) 0).testBit (c % 64) else false := by
  rw [bitsB, List.getD_eq_getElem?_getD, List.getElem?_map, List.getElem?_range hc]
  rfl

theorem ext_getB {l m : List Bool} (hl : l.length = 256) (hm : m.length = 256) (h : ∀ j, j < 256 → l.getD j false = m.getD j false) : l = m := by
  apply List.ext_getElem (by rw [hl, hm])
  intro j h1 h2
  have := h j (by omega)
  simpa [List.getD_eq_getElem?_getD, h1, h2] using this

theorem getD_setB (l : List Bool) (i j : Nat) (x : Bool) (hi : i < l.length) : (l.set i x).getD j false = if i = j then x else l.getD j false := by
  rw [List.getD_eq_getElem?_getD, List.getElem?_set]
  by_cases e : i = j
  · subst e; simp [hi]
  · rw [if_neg e, if_neg e, List.getD_eq_getElem?_getD]

theorem bitsB_zero (ws : List Nat) : List.replicate 256 false = bitsB ws 0 := by
  refine ext_getB List.length_replicate (bitsB_len _ _) fun j hj => ?_
  rw [bitsB_get _ _ _ hj, if_neg (by omega), List.getD_eq_getElem?_getD, List.getElem?_replicate, if_pos hj]
  rfl

theorem bitsB_succ (ws : List Nat) (k j : Nat) (hk : k < 4) (hj : j < 64) : (bitsB ws (64 * k + j)).set (64 * k + j) ((ws.getD k 0).testBit j) = bitsB ws (64 * k + j + 1) := by
  refine ext_getB (by rw [List.length_set, bitsB_len]) (bitsB_len _ _) fun c hc => ?_
  rw [getD_setB _ _ _ _ (by rw [bitsB_len]; omega), bitsB_get _ _ _ hc, bitsB_get _ _ _ hc]
  by_cases e : 64 * k + j = c
  · rw [if_pos e, if_pos (by omega), show c / 64 = k by omega, show c % 64 = j by omega]
  · rw [if_neg e]
    by_cases e2 : c < 64 * k + j
    · rw [if_pos e2, if_pos (by omega)]
    · rw [if_neg e2, if_neg (by omega)]

theorem Tryd.info_bool : (Tryd.prog.info? 4).map (fun i => (i.zero, i.size, i.bytes)) = some (some (.bool false), 1, 1) := by kernel_rfl

theorem make_bools (w : World) (n : Nat) (hn : n ≤ 100000) : (Instr.makeSlice 40 (.int .i64 (n : Int)) (.int .i64 (n : Int))).run Tryd.prog w = .ok (.slice (some ⟨w.heap.size, 0, none⟩) n n) (w.alloc (.cells (madeCells #[.bool false] n) 4)) := by
  obtain ⟨i0, hi, hz0, hz1, hz2⟩ := info_parts Tryd.info_bool
  have := run_make (P := Tryd.prog) w 40 4 i0 _ Tryd.underlying40 hi hz0 .i64 .i64 (n : Int) (n : Int) (by omega) (by omega) (by rw [hz2]; omega) (by omega)
  rw [hz1, Int.toNat_natCast, Nat.mul_one] at this
  exact this

theorem owns_bools (w : World) (n : Nat) (hn : n ≤ 100000) : Owns (w.alloc (.cells (madeCells #[.bool false] n) 4)) (.slice (some ⟨w.heap.size, 0, none⟩) n n) w.heap.size 4 1 n (bools (List.replicate n false)) := by
  refine ⟨by simp [bools], _, n, rfl, Nat.le_refl _, by unfold maxLen; omega, fun _ => ⟨rfl, _, Blk.new _ _ _, by simp [size_madeCells], ?_⟩⟩
  rw [toList_madeCells_one, List.take_of_length_le (by simp)]
  simp [bools]

theorem make_bits (w : World) : ∃ mc, (Instr.makeSlice 40 (.int .i64 256) (.int .i64 256)).run Tryd.prog w = .ok (.slice (some ⟨w.heap.size, 0, none⟩) 256 256) (w.alloc (.cells mc 4)) ∧
    Owns (w.alloc (.cells mc 4)) (.slice (some ⟨w.heap.size, 0, none⟩) 256 256) w.heap.size 4 1 256 (bools (List.replicate 256 false)) :=
  ⟨_, make_bools w 256 (by omega), owns_bools w 256 (by omega)⟩

theorem bools_getO {w : World} {v : Value} {g T n : Nat} {xs : List Bool} (h : Owns w v g T 1 n (bools xs)) (hn : xs.length = n) {j : Nat} (hj : j < n) :
    (∃ cap, v = .slice (some ⟨g, 0, none⟩) n cap ∧ n ≤ cap ∧ cap ≤ maxLen) ∧ w.cell? ⟨g, j, none⟩ = some (.bool (xs.getD j false)) ∧ w.frozen? ⟨g, j, none⟩ = false := by
  obtain ⟨-, h1, h2, h3⟩ := h.cell (by omega)
  exact ⟨h1, (h2 j (by omega)).trans (bools_get (by omega)), h3 j⟩

theorem Owns.setB {w : World} {v : Value} {g T n : Nat} {xs : List Bool} (h : Owns w v g T 1 n (bools xs)) (j : Nat) (x : Bool) : Owns (w.setCell ⟨g, j, none⟩ (.bool x)) v g T 1 n (bools (xs.set j x)) := by
  have := h.set j (.bool x)
  rwa [bools_set] at this

/-- What Bits leaves. -/
def MadeBits (w : World) (bl : List Bool) (e : Ending) (w' : World) : Prop :=
  ∃ g, e = .returned (.slice (some ⟨g, 0, none⟩) 256 256) ∧ Owns w' (.slice (some ⟨g, 0, none⟩) 256 256) g 4 1 256 (bools bl) ∧ w.heap.size ≤ g ∧ Keeps [] w w'

set_option maxRecDepth 100000 in
set_option maxHeartbeats 4000000 in
theorem bits_at (ws : List Nat) (hws : ∀ i, ws.getD i 0 < 18446744073709551616) (w : World) : Calls Tryd.prog 18 #[.agg (w4 ws)] w (MadeBits w (bitsB ws 256)) := by
  have hcell := fun k hk => w4_get ws k hk
  have HC := Lib.hid hcell
  have HWS := Lib.hid hws
  clear hcell hws
  generalize w4 ws = Z at *
  obtain ⟨mc, hmk, hoz⟩ := make_bits (w.alloc (.cells Z 31))
  have hz : (w.alloc (.cells Z 31)).heap.size = w.heap.size + 1 := by simp
  rw [hz] at hmk hoz
  rw [bitsB_zero ws] at hoz
  have HO := Lib.hid hoz
  have HB : Hid (Blk ((w.alloc (.cells Z 31)).alloc (.cells mc 4)) w.heap.size Z 31) := (Blk.new w Z _).alloc _
  have HK : Hid (Keeps [] w ((w.alloc (.cells Z 31)).alloc (.cells mc 4))) := ((Keeps.refl [] w).alloc _).alloc _
  clear hoz hz
  go_enter Tryd.func18, Tryd.ntmps18
  go_wp2_with fail
  clear hmk
  go_loopg [4] 4 (fun gh s4 wx => ∃ k : Nat, k + gh = 4 ∧ s4 = .int .i64 (k : Int) ∧ Hid (Owns wx (.slice (some ⟨w.heap.size + 1, 0, none⟩) 256 256) (w.heap.size + 1) 4 1 256 (bools (bitsB ws (64 * k))) ∧ Blk wx w.heap.size Z 31 ∧ Keeps [] w wx))
  case atStart => exact ⟨0, by omega, rfl, HO.out, HB.out, HK.out⟩
  case round =>
    clear HO HB HK
    obtain ⟨k, hk, rfl, HR⟩ := hrel
    cases gk with
    | zero =>
      obtain rfl : k = 4 := by omega
      clear hk
      have HM : Hid (MadeBits w (bitsB ws 256) (.returned (.slice (some ⟨w.heap.size + 1, 0, none⟩) 256 256)) wr) := ⟨_, rfl, HR.out.1, by omega, HR.out.2.2⟩
      clear HR
      go_wp2_with fail
      go_ret
      exact HM.out
    | succ gg =>
      have hk4 : k < 4 := by omega
      have hlt : (k : Int) < 4 := by omega
      have hk0 : (0 : Int) ≤ (k : Int) := by omega
      have c0 : wr.cell? ⟨w.heap.size, k, none⟩ = some (.int .u64 ((ws.getD k 0 : Nat) : Int)) := by rw [HR.out.2.1.cell, HC.out k hk4]
      have HSU := Lib.hid (fun j hj => bitsB_succ ws k j hk4 hj)
      have HTB : Hid (∀ j, (ws.getD k 0).testBit j = decide (ws.getD k 0 / 2 ^ j % 2 = 1)) := fun j => Nat.testBit_eq_decide_div_mod_eq
      have HXL := Lib.hid (HWS.out k)
      generalize ws.getD k 0 = x at *
      go_wp2_with fail
      clear c0
      go_loopg [5, 6] 64 (fun gh s5 s6 wx => ∃ j : Nat, j + gh = 64 ∧ s6 = .int .i64 (j : Int) ∧ s5 = .int .u64 ((x / 2 ^ j : Nat) : Int) ∧ Hid (Owns wx (.slice (some ⟨w.heap.size + 1, 0, none⟩) 256 256) (w.heap.size + 1) 4 1 256 (bools (bitsB ws (64 * k + j))) ∧ Blk wx w.heap.size Z 31 ∧ Keeps [] w wx))
      case atStart => exact ⟨0, by omega, rfl, by simp, HR.out⟩
      case round =>
        clear HR
        obtain ⟨j, hj, rfl, rfl, HR⟩ := hrel
        cases gk with
        | zero =>
          obtain rfl : j = 64 := by omega
          clear hj
          go_wp2_with fail
          go_roundg gg
          case measure => omega
          case rel => exact ⟨k + 1, by omega, by go_num, HR.out⟩
        | succ g2 =>
          have hj6 : j < 64 := by omega
          have hltj : (j : Int) < 64 := by omega
          have hj0 : (0 : Int) ≤ (j : Int) := by omega
          obtain ⟨ho, hb, hkp⟩ := HR.out
          obtain ⟨-, hc, hf⟩ := bools_getO ho (bitsB_len _ _) (show 64 * k + j < 256 by omega)
          have htb := HTB.out j
          have HS : Hid (Owns (wr.setCell ⟨w.heap.size + 1, 64 * k + j, none⟩ (.bool (x.testBit j))) (.slice (some ⟨w.heap.size + 1, 0, none⟩) 256 256) (w.heap.size + 1) 4 1 256 (bools (bitsB ws (64 * k + j + 1)))) := by
            show Owns _ _ _ _ _ _ _
            rw [← HSU.out j hj6]
            exact ho.setB _ _
          have HBN : Hid (Blk (wr.setCell ⟨w.heap.size + 1, 64 * k + j, none⟩ (.bool (x.testBit j))) w.heap.size Z 31) := hb.other (by simp) _
          have HKP := Lib.hid hkp
          have HX : Hid (((x / 2 ^ j : Nat) : Int) / 2 = ((x / 2 ^ (j + 1) : Nat) : Int)) := by
            show _ = _
            rw [Nat.pow_succ, ← Nat.div_div_eq_div_mul]
            omega
          have HXW := Lib.hid (wrapU (x / 2 ^ (j + 1)) (Nat.lt_of_le_of_lt (Nat.div_le_self _ _) HXL.out))
          clear ho hb hkp HR
          generalize hm : x / 2 ^ j = m at *
          have e1 : ((m : Int) % 2 == 1) = x.testBit j := by rw [htb, Bool.eq_iff_iff]; simp; omega
          have hm0 : (0 : Int) ≤ (m : Int) := by omega
          clear htb hm
          generalize x.testBit j = t at *
          generalize (bitsB ws (64 * k + j)).getD (64 * k + j) false = old at *
          go_wp2_with fail
          go_roundg g2
          case measure => omega
          case rel => exact ⟨j + 1, by omega, by go_num, by rw [HX.out, HXW.out], HS.out, HBN.out, HKP.out.setCell (by simp) _⟩

end Go.Proofs.YtmhcnkjmnbnldaaDoor

namespace Go.Proofs.YtmhcnkjmnbnldaaDoor
open Go.RowKit

theorem size_w4 : (Tryd.prog.info? 31).map (·.size) = some 4 := by kernel_rfl

/-- The array is loaded whole. -/
theorem load_w4 {w : World} {g : Nat} {ws : List Nat} (hb : Blk w g (w4 ws) 31) : (loadVar 31 ⟨g, 0, none⟩).run Tryd.prog w = .ok (.agg (w4 ws)) w := by
  have := run_loadVar_cells (P := Tryd.prog) (w := w) g 0 (w4 ws).toList Tryd.underlying31 rfl (by rw [size_w4]; rfl) fun j hj => by
    rw [Nat.zero_add, hb.cell, Array.getElem?_toList]
  simpa using this

theorem free_zero : (freeL (padW [])).take 2 = [1, 2] ∧ 2 ≤ (freeL (padW [])).length := by decide +kernel

theorem padW_64 : In64 (padW []) := fun i => by
  rw [padW_get]
  split <;> simp

theorem ints_cell {w : World} {v : Value} {g : Nat} {l : List Nat} (h : Reads w v g (i64s l)) : ∃ a cap, v = .slice a l.length cap ∧ l.length ≤ cap ∧ cap ≤ maxLen ∧
    Hid (∀ k, k < l.length → g < w.heap.size ∧ ∃ off, a = some ⟨g, off, none⟩ ∧ w.cell? ⟨g, off + k, none⟩ = some (.int .i64 ((l.getD k 0 : Nat) : Int))) := by
  obtain ⟨a, cap, h0, h1, h2, h3⟩ := h
  rw [i64s_len] at *
  refine ⟨a, cap, h0, h1, h2, fun k hk => ?_⟩
  obtain ⟨hg, off, ho, hc⟩ := h3 (by intro e; have := congrArg List.length e; rw [i64s_len, List.length_nil] at this; omega)
  exact ⟨hg, off, ho, (hc k hk).trans (i64s_get hk)⟩

end Go.Proofs.YtmhcnkjmnbnldaaDoor

namespace Go.Proofs.YtmhcnkjmnbnldaaDoor
open Go.RowKit

theorem load_sl {P : Program} {w : World} {ty e : TypeId} {g off T : Nat} {Z : Array Value} {v : Value} (hu : P.underlying ty = some (.slice e)) (hb : Blk w g Z T) (hz : Z[off]? = some v) : (loadVar ty ⟨g, off, none⟩).run P w = .ok v w := by
  have hagg : (isAgg ty).run P w = .ok false w := by
    unfold isAgg
    rw [Sem.run_bind, run_underlying hu w]
    rfl
  have hc : w.cell? ⟨g, off, none⟩ = some v := by rw [hb.cell, hz]
  simp [loadVar, Sem.run_bind, hagg, hc]

set_option maxRecDepth 100000 in
set_option maxHeartbeats 8000000 in
theorem lay_ok {w : World} {b gp : Nat} {B : List Int} {ps : List (Int × Int)} (h : ShAt w b gp B ps) (h64 : In64 (putAll B ps)) (hT : TabAt w) (hgp : gp < w.heap.size) (hps : ps.length ≤ 800000) (i : Int) (n : Ino) (v : Value) (g : Nat) (hB : n.B.length = 13) (hE : EReads w v g n.E)
    (hN : ∀ k, k < n.E.length → (enm n.E k).size ≤ 9223372036854775807) (hok : LayP i n) (hgg : n.E.length ≠ 0 → g ≠ b ∧ g ≠ gp) (hn : needN n ≤ (freeL (putAll B ps)).length) :
    Calls Tryd.prog 11 #[.pointer (some ⟨b, 0, none⟩), .int .i64 i, .agg (inoC n v)] w fun e w' => e = .returned (.int .i64 0) ∧ Onto w b gp B (ps ++ layPs (putAll B ps) i.toNat n ((freeL (putAll B ps)).take (needN n))) w' := by
  have HRT : Hid (∀ wx, Keeps [] w wx → Calls Tryd.prog 14 #[.agg (inoC n v)] wx fun e w' => e = .returned (.bool true) ∧ Keeps [] wx w') := fun wx hk => by
    have := right_at n v g hB wx (hE.keep hk (by simp)) hN
    rwa [decide_eq_true hok.2.2] at this
  have hbl := blocks_le hok.2.2
  have HNEED : Hid (∀ wx, Calls Tryd.prog 33 #[.agg (inoC n v)] wx fun e w' => e = .returned (.int .i64 ((needN n : Nat) : Int)) ∧ Keeps [] wx w') := fun wx => by
    obtain ⟨a, cap, rfl, -⟩ := hE
    exact need_at n a cap hB (by omega) wx
  have HEB : Hid (∀ wx, Calls Tryd.prog 34 #[.agg (inoC n v)] wx fun e w' => e = .returned (.int .i64 ((blocksN n.E.length : Nat) : Int)) ∧ Keeps [] wx w') := fun wx => by
    obtain ⟨a, cap, rfl, -⟩ := hE
    exact entryBlocks_at n a cap hB (by omega) wx
  have hfl := freeL_len (putAll B ps)
  have HTK : Hid (∀ wx, Keeps [] w wx → Calls Tryd.prog 32 #[.pointer (some ⟨b, 0, none⟩), .int .i64 ((needN n : Nat) : Int)] wx (TakePost wx b gp B ps ((freeL (putAll B ps)).take (needN n)))) := fun wx hk =>
    paTake_ok (h.keep hk (by simp) (by simp)) h64 (hT.keep hk) (Nat.lt_of_lt_of_le hgp hk.size) (by omega) (needN n) hn
  have HIN : Hid (∀ c ∈ (freeL (putAll B ps)).take (needN n), c ≠ 0 ∧ c < 256) := fun c hc => by
    have := freeTo_mem.1 (List.mem_of_mem_take hc)
    exact ⟨this.2.1, this.1⟩
  have hlen : ((freeL (putAll B ps)).take (needN n)).length = needN n := by rw [List.length_take, Nat.min_eq_left hn]
  have hcn : blocksN n.E.length ≤ needN n ∧ needN n ≤ blocksN n.E.length + 1 := by unfold needN; split <;> omega
  have hat := inoAt v hB
  have hb0 := Blk.new w (inoC n v) 25
  have hbl0 := h.raw.lt
  have HI := Lib.hid (txInode_at i)
  have HTO := Lib.hid (tagOk_right hok.2.2)
  have HEO := Lib.hid (entOk_right hok.2.2 hN)
  have HR := Lib.hid hok.2.2
  have HB := Lib.hid hB
  have HIR : Hid (∀ (l : List Int) (list : Int), l.length = 13 → Nats l → 0 ≤ list ∧ list < 9223372036854775808 → ∀ wx, Calls Tryd.prog 39 #[.agg (inoC n v), .agg (zs l).toArray, .int .i64 list] wx fun e w' => e = .returned (.agg (u64s (inoRow n l list)).toArray) ∧ Keeps [] wx w') := fun l list hl hnl h0 wx => inodeRow_at n v hB HTO.out l hl hnl list h0 wx
  have HLB : Hid (∀ wx, Blk wx w.heap.size (inoC n v) 25 → (loadVar 25 ⟨w.heap.size, 0, none⟩).run Tryd.prog wx = .ok (.agg (inoC n v)) wx ∧ (loadVar 22 ⟨w.heap.size, 4, none⟩).run Tryd.prog wx = .ok (.agg (zs n.B).toArray) wx) := fun wx hb => ⟨load_ino hb hB, load_B hb hB⟩
  have HLAY : Hid (layPs (putAll B ps) i.toNat n ((freeL (putAll B ps)).take (needN n)) = takePs (putAll B ps) ((freeL (putAll B ps)).take (needN n)) ++ rowsPs i.toNat n ((freeL (putAll B ps)).take (needN n))) := rfl
  have HTL : Hid ((takePs (putAll B ps) ((freeL (putAll B ps)).take (needN n))).length = 9 * needN n) := by
    show _ = _
    rw [takePs_len _ _ HIN.out, hlen]
  generalize hol : (freeL (putAll B ps)).take (needN n) = own at *
  generalize layPs (putAll B ps) i.toNat n own = lps at *
  generalize htps : takePs (putAll B ps) own = tps at *
  have HTPS := Lib.hid htps
  clear htps
  have hgI : inodeN i = ((824 + 8 * i.toNat : Nat) : Int) := by unfold inodeN; rw [if_neg (by have := hok.1; omega)]; have := hok.1; omega
  rw [hgI] at HI
  have hi32 : i.toNat < 32 := by have := hok.1; omega
  have c0 : (w.alloc (.cells (inoC n v) 25)).cell? ⟨w.heap.size, 0, none⟩ = some (.int .i64 1) := by rw [hb0.cell, ← hok.2.1]; exact hat.f0
  generalize hZ : inoC n v = Z at *
  have hZ17 : Z[17]? = some v := hat.f5
  have HK : Hid (Keeps [] w (w.alloc (.cells Z 25))) := (Keeps.refl [] w).alloc _
  have HB0 := Lib.hid hb0
  have HE := Lib.hid hE
  have HS := Lib.hid h
  have HPS := Lib.hid hps
  have HL0 := Lib.hid (HLB.out _ hb0).1
  generalize hq : 824 + 8 * i.toNat = q at *
  have HQ : Hid (q = 824 + 8 * i.toNat) := hq.symm
  have hq3 : q + 8 ≤ 3128 := by omega
  clear hq hi32
  have hp0 : (0 : Int) ≤ (q : Int) := by omega
  clear hb0 hat hE hN hB hgI h h64 hT hfl hn hol hps
  go_enter Tryd.func11, Tryd.ntmps11
  go_wp2_with fail
  refine (HI.out _).mono ?_; rintro e w' ⟨rfl, rfl⟩
  go_wp2_with ((with_reducible show wpList _ _ _ (⟨_, .load 25 (.tmp 5), _, _, _, _⟩ :: _) _ _); refine wpList_load_want (by simp [Region.wanted, yielded, hp0]) 25 (.tmp 5) rfl _ rfl _ HL0.out ?_)
  refine (HRT.out _ HK.out).mono ?_; rintro e w1 ⟨rfl, hk1⟩
  have HK1 := Lib.hid (HK.out.trans' hk1)
  have HB1 := Lib.hid (HB0.out.keep hk1 (by simp))
  have HL1 := Lib.hid (HLB.out _ HB1.out).1
  clear hk1 HL0 HB0 HK
  go_wp2_with ((with_reducible show wpList _ _ _ (⟨_, .load 25 (.tmp 5), _, _, _, _⟩ :: _) _ _); refine wpList_load_any rfl 25 (.tmp 5) rfl _ rfl _ HL1.out ?_)
  refine (HNEED.out _).mono ?_; rintro e w2 ⟨rfl, hk2⟩
  have HK2 := Lib.hid (HK1.out.trans' hk2)
  have HB2 := Lib.hid (HB1.out.keep hk2 (by simp))
  clear hk2 HK1 HB1 HL1 HNEED HRT
  go_wp2_with fail
  refine (HTK.out _ HK2.out).mono ?_; rintro e w3 ⟨vo, go, rfl, hro, hgo1, hgo2, gp1, hgp1, hne1, hs3, hk3⟩
  rw [HTPS.out] at hs3
  have hz2 := HK2.out.size
  have hb2 := HB2.out.lt
  have HB3 := Lib.hid (HB2.out.keep hk3 (by simp only [List.mem_cons, List.not_mem_nil, or_false]; omega))
  have HE3 : Hid (EReads w3 v g n.E) := (HE.out.keep HK2.out (by simp)).keep hk3 (fun hne => by have := hgg hne; simp only [List.mem_cons, List.not_mem_nil, or_false]; omega)
  have HK3 : Hid (Keeps [b, gp] w w3) := (HK2.out.mono (by simp)).trans' hk3
  have HS3 := Lib.hid hs3
  have HRO := Lib.hid hro
  have HL3 := Lib.hid (HLB.out _ HB3.out).1
  have hz3 := hk3.size
  obtain ⟨a, oc, rfl, ho1, ho2, -⟩ := hro
  have HOL : Hid ((i64s own).length = needN n) := by show _ = _; rw [i64s_len, hlen]
  rw [HOL.out] at ho1 HRO ⊢
  have HGG : Hid (n.E.length ≠ 0 → g ∉ [b, gp1]) := fun h0 hm => by
    have h1 := hgg h0
    have h2 : g < w.heap.size := by
      rcases Nat.lt_or_ge g w.heap.size with h | h
      · exact h
      · exact absurd (List.mem_singleton.2 rfl) (HE.out.apart (l := [g]) (fun x hx => by rw [List.mem_singleton] at hx; omega) h0)
    simp only [List.mem_cons, List.not_mem_nil, or_false] at hm
    rcases hm with rfl | rfl
    · exact h1.1 rfl
    · omega
  clear HTK HK2 HB2 HE HS hk3 hs3
  have hzn := zero_n13
  go_wp2_with ((with_reducible show wpList _ _ _ (⟨_, .load 25 (.tmp 5), _, _, _, _⟩ :: _) _ _); refine wpList_load_any rfl 25 (.tmp 5) rfl _ rfl _ HL3.out ?_)
  refine (HEB.out _).mono ?_; rintro e w4 ⟨rfl, hk4⟩
  have HB4 := Lib.hid (HB3.out.keep hk4 (by simp))
  have HE4 := Lib.hid (HE3.out.keep hk4 (by simp))
  have HK4 := Lib.hid (HK3.out.trans' (hk4.mono (by simp)))
  have HS4 := Lib.hid (HS3.out.keep hk4 (by simp) (by simp))
  have HRO4 := Lib.hid (HRO.out.keep hk4 (by simp))
  have hz4 := hk4.size
  have HLB4 := Lib.hid (HLB.out _ HB4.out).2
  have HN0 := Blk.new w4 (zs (List.replicate 13 0)).toArray 22
  obtain ⟨w5, hst5, hb5, hk5⟩ := store_whole (P := Tryd.prog) (ty := 22) (cs := zs n.B) (by rw [zs_len, HB.out]; exact size_n13) HN0 (by simp [zs_len, HB.out]) (zs_one _)
  have HST5 := Lib.hid hst5
  have hk45 : Keeps [] w4 w5.drew := (((Keeps.refl [] w4).alloc _).trans hk5 (by intro x hx; rw [List.mem_singleton] at hx; omega)).drew
  have HRO5 := HRO4.out.keep hk45 (by simp)
  rw [← hlen] at HRO5
  obtain ⟨vc, w6, hcp, hb6, hk6⟩ := copy_ints (n := 13) (cap := 13) (m := blocksN n.E.length) (mc := oc) hb5.drew HRO5 (by omega) (by rw [HB.out]; omega) (by omega)
  have HCP := Lib.hid hcp
  have hk46 : Keeps [] w4 w6 := hk45.trans hk6 (by intro x hx; rw [List.mem_singleton] at hx; omega)
  have HB6 := Lib.hid (HB4.out.keep hk46 (by simp))
  have HE6 := Lib.hid (HE4.out.keep hk46 (by simp))
  have HK6 := Lib.hid (HK4.out.trans' (hk46.mono (by simp)))
  have HS6 := Lib.hid (HS4.out.keep hk46 (by simp) (by simp))
  have HRO6 := Lib.hid (HRO4.out.keep hk46 (by simp))
  have hb6' : Blk w6 w4.heap.size (zs (laidL n own)).toArray 22 := hb6
  have HA6 := Lib.hid hb6'
  have hz6 := hk46.size
  have hlt6 := hb6'.lt
  have hs13 := slice_l13 w4.heap.size
  have hsu := slice_upto a (needN n) oc (blocksN n.E.length) (by omega)
  have HLL := Lib.hid (laidL_len (own := own) HB.out (by omega) (by omega))
  have H256 := Lib.hid (laidL_256 HR.out HB.out (by omega) HIN.out)
  have HLI : Hid (blocksN n.E.length < own.length → listI n own = own.getD (blocksN n.E.length) 0 ∧ listPs n own = rowPs (1080 + 8 * listI n own) ((laidL n own).drop 5) 8) := fun hc => by
    refine ⟨by unfold listI; rw [if_pos hc], by unfold listPs; rw [if_pos hc]⟩
  have HLO : Hid (¬ blocksN n.E.length < own.length → listI n own = 0 ∧ listPs n own = []) := fun hc => by
    refine ⟨by unfold listI; rw [if_neg hc], by unfold listPs; rw [if_neg hc]⟩
  have HLY : Hid (lps = tps ++ (entPs n.E (laidL n own) (blocksN n.E.length) ++ (listPs n own ++ rowPs q (inoRow n (laidL n own) ((listI n own : Nat) : Int)) 8))) := by
    have h1 := HLAY.out
    unfold rowsPs at h1
    rw [← HQ.out] at h1
    exact h1
  have HEL : Hid (∀ k, k < blocksN n.E.length → 4 * k < n.E.length) := fun k hk => by unfold blocksN at hk; omega
  have HTL6 := HTL.out
  have hpsl := HPS.out
  clear hst5 hb5 hk5 hk45 hcp hb6 hk6 hk46 hb6' HN0 HLAY HEB HL3 HK3 HS3 HE3 HB3 HRO HK4 HS4 HE4 HB4 HRO4 HRO5 hk4
  generalize hcnt : blocksN n.E.length = cnt at *
  generalize (zs n.B).toArray = ZB at *
  generalize (zs (List.replicate 13 0)).toArray = ZN at *
  go_wp2_with (first | ((with_reducible show wpList _ _ _ (⟨_, .load 22 (.tmp 38), _, _, _, _⟩ :: _) _ _); refine wpList_load_any rfl 22 (.tmp 38) rfl _ rfl _ HLB4.out ?_) | ((with_reducible show wpList _ _ _ (⟨_, .store 22 (.tmp 10) (.tmp 39), _, _, _, _⟩ :: _) _ _); refine wpList_store_any rfl 22 (.tmp 10) (.tmp 39) rfl _ rfl _ rfl _ HST5.out ?_))
  refine wp_region_last (l := [_, _, _, _]) (o := _) (S := fun wx => wx = w5.drew) (by kernel_rfl) rfl (by kernel_rfl) (fun d _ _ _ _ h => by cases d <;> exact h) rfl (by kernel_rfl) (by kernel_rfl) ?_
  repeat (refine EachList.cons ?_ (EachIf.val rfl ?h) ?_; (case h => (intro wx hx; go_simp; rfl)); simp only [Act.put, List.setIfInBounds_toArray, List.set_cons_zero, List.set_cons_succ])
  refine EachList.done fun wx hx => ?_
  subst hx
  refine wpList_copy_any rfl (.tmp 40) (.tmp 43) 34 34 rfl _ _ rfl rfl (HCP.out _) ?_
  clear hs13 hsu HST5 HLB4 HCP hzn
  have HG6 : Hid (gp1 = gp ∨ (w.heap.size ≤ gp1 ∧ gp1 < w6.heap.size)) := by show _ ∨ _; omega
  have hlb : b < w.heap.size ∧ w.heap.size < w4.heap.size ∧ gp1 < w6.heap.size ∧ gp1 ≠ w.heap.size ∧ gp1 ≠ w4.heap.size ∧ go < w4.heap.size ∧ w.heap.size ≤ go := by omega
  have hgo6 : go < w6.heap.size := by omega
  generalize w4.heap.size = lb at *
  have HX : Hid (∀ wx, Keeps [b, gp1] w6 wx → Blk wx w.heap.size Z 25 ∧ EReads wx v g n.E ∧ Reads wx (.slice a (needN n) oc) go (i64s own) ∧ Blk wx lb (zs (laidL n own)).toArray 22) := fun wx hk => by
    refine ⟨HB6.out.keep hk ?_, HE6.out.keep hk HGG.out, HRO6.out.keep hk ?_, HA6.out.keep hk ?_⟩
    · simp only [List.mem_cons, List.not_mem_nil, or_false]; omega
    · simp only [List.mem_cons, List.not_mem_nil, or_false]; omega
    · simp only [List.mem_cons, List.not_mem_nil, or_false]; omega
  have HST : Hid (Onto w6 b gp1 B (ps ++ (tps ++ entPs n.E (laidL n own) 0)) w6) := by
    show Onto _ _ _ _ _ _
    rw [show entPs n.E (laidL n own) 0 = [] from rfl, List.append_nil]
    exact Onto.refl HS6.out
  have HCN : Hid (cnt ≤ 6) := hbl.2.1
  have HF : Hid (∀ (x : Int), x = ((listI n own : Nat) : Int) → ∀ wy, Onto w6 b gp1 B (ps ++ (tps ++ (entPs n.E (laidL n own) cnt ++ listPs n own))) wy → ∀ wx, Keeps [] wy wx →
      (loadVar 25 ⟨w.heap.size, 0, none⟩).run Tryd.prog wx = .ok (.agg Z) wx ∧ (loadVar 22 ⟨lb, 0, none⟩).run Tryd.prog wx = .ok (.agg (zs (laidL n own)).toArray) wx ∧
      Calls Tryd.prog 39 #[.agg Z, .agg (zs (laidL n own)).toArray, .int .i64 x] wx (fun e w' => e = .returned (.agg (u64s (inoRow n (laidL n own) x)).toArray) ∧ Keeps [] wx w') ∧
      Calls Tryd.prog 35 #[.pointer (some ⟨b, 0, none⟩), .int .i64 (q : Int), .agg (u64s (inoRow n (laidL n own) x)).toArray] wx (fun e w' => e = .returned (.tuple #[]) ∧ Hid (Onto w b gp B (ps ++ lps) w'))) := by
    rintro x rfl wy ⟨gp2, hgp2, hs2, hk2⟩ wx hk
    obtain ⟨HBr, -, -, HAr⟩ := HX.out _ hk2
    have hli : listI n own < 256 := by
      by_cases hc : cnt < own.length
      · have h1 := HIN.out (own.getD cnt 0) (by rw [List.getD_eq_getElem?_getD, List.getElem?_eq_getElem hc]; exact List.getElem_mem _)
        rw [(HLI.out hc).1]
        exact h1.2
      · rw [(HLO.out hc).1]; omega
    have hlp : (listPs n own).length ≤ 8 := by
      by_cases hc : cnt < own.length
      · rw [(HLI.out hc).2, rowPs_len]; omega
      · rw [(HLO.out hc).2]; simp
    have hbx := HBr.keep hk (by simp)
    have hax := HAr.keep hk (by simp)
    have hrl : (inoRow n (laidL n own) ((listI n own : Nat) : Int)).length = 8 := by simp [inoRow, HLL.out]
    refine ⟨(HLB.out _ hbx).1, load_n13 (off := 0) hax HLL.out (fun k hk => by rw [Nat.zero_add, List.getElem?_toArray, zs_get (by rw [HLL.out]; exact hk)]), HIR.out _ _ HLL.out (fun k => by have := H256.out k; omega) (by omega) wx, ?_⟩
    have h1 := putRow_at (hs2.keep hk (by simp) (by simp)) (by simp only [List.length_append, entPs_len, HTL6]; omega) q (by omega) (inoRow n (laidL n own) ((listI n own : Nat) : Int)) hrl
    refine h1.mono ?_
    rintro e w' ⟨he, h2⟩
    refine ⟨he, ?_⟩
    have e1 : ps ++ (tps ++ (entPs n.E (laidL n own) cnt ++ listPs n own)) ++ rowPs q (inoRow n (laidL n own) ((listI n own : Nat) : Int)) 8 = ps ++ lps := by rw [HLY.out]; simp only [List.append_assoc]
    rw [e1] at h2
    have hz2 := hk2.size
    exact Onto.trans HG6.out HK6.out (Onto.trans hgp2 hk2 (Onto.mono hk (by omega) h2))
  go_wp2_with fail
  go_loopg [46] cnt (fun gh s46 wx => ∃ k : Nat, k + gh = cnt ∧ s46 = .int .i64 (k : Int) ∧ Hid (Onto w6 b gp1 B (ps ++ (tps ++ entPs n.E (laidL n own) k)) wx))
  case atStart => exact ⟨0, by omega, rfl, HST.out⟩
  case round =>
    clear HST
    obtain ⟨k, hk, rfl, HP⟩ := hrel
    obtain ⟨gp2, hgp2, hs2, hk2⟩ := HP.out
    obtain ⟨HBr, HEr, HRr, HAr⟩ := HX.out _ hk2
    have hz2 := hk2.size
    cases gk with
    | zero =>
      obtain rfl : k = cnt := by omega
      by_cases hc : k < own.length
      · obtain ⟨hli, hlp⟩ := HLI.out hc
        obtain ⟨off, hoff, hcell⟩ : ∃ off, a = some ⟨go, off, none⟩ ∧ wr.cell? ⟨go, off + k, none⟩ = some (.int .i64 ((listI n own : Nat) : Int)) := by
          obtain ⟨a', cap', he, -, -, HC⟩ := ints_cell HRr
          injection he with h1 h2 h3
          subst h1
          obtain ⟨-, off, ho, hc'⟩ := HC.out k hc
          exact ⟨off, ho, by rw [hc', hli]⟩
        have hli256 : listI n own < 256 := by
          have h1 := HIN.out (own.getD k 0) (by rw [List.getD_eq_getElem?_getD, List.getElem?_eq_getElem hc]; exact List.getElem_mem _)
          rw [hli]
          exact h1.2
        have HLD : Hid (∀ wx, Keeps [] wr wx → (loadVar 22 ⟨lb, 0, none⟩).run Tryd.prog wx = .ok (.agg (zs (laidL n own)).toArray) wx) := fun wx hk' =>
          load_n13 (off := 0) (HAr.keep hk' (by simp)) HLL.out (fun k hk => by rw [Nat.zero_add, List.getElem?_toArray, zs_get (by rw [HLL.out]; exact hk)])
        have HBK : Hid (∀ wx, Calls Tryd.prog 36 #[.int .i64 ((listI n own : Nat) : Int)] wx fun e w' => e = .returned (.int .i64 ((1080 + 8 * listI n own : Nat) : Int)) ∧ wx = w') := fun wx => by
          have := txBlock_at ((listI n own : Nat) : Int) wx
          rwa [blockN, if_neg (by omega), show 1080 + ((listI n own : Nat) : Int) * 8 = ((1080 + 8 * listI n own : Nat) : Int) by omega] at this
        have HLR : Hid (∀ wx, Calls Tryd.prog 38 #[.agg (zs (laidL n own)).toArray] wx fun e w' => e = .returned (.agg (u64s ((laidL n own).drop 5)).toArray) ∧ Keeps [] wx w') := fun wx => listRow_at _ HLL.out (fun k => by have := H256.out k; omega) wx
        have HPR : Hid (∀ wx, Keeps [] wr wx → Calls Tryd.prog 35 #[.pointer (some ⟨b, 0, none⟩), .int .i64 ((1080 + 8 * listI n own : Nat) : Int), .agg (u64s ((laidL n own).drop 5)).toArray] wx fun e w' => e = .returned (.tuple #[]) ∧ Onto w6 b gp1 B (ps ++ (tps ++ (entPs n.E (laidL n own) k ++ listPs n own))) w') := fun wx hk' => by
          have h1 := putRow_at (hs2.keep hk' (by simp) (by simp)) (by simp only [List.length_append, entPs_len, HTL6]; omega) (1080 + 8 * listI n own) (by omega) ((laidL n own).drop 5) (by rw [List.length_drop, HLL.out])
          refine h1.mono ?_
          rintro e w' ⟨he, h2⟩
          refine ⟨he, ?_⟩
          rw [List.append_assoc, List.append_assoc, ← hlp] at h2
          exact Onto.trans hgp2 hk2 (Onto.mono hk' (by omega) h2)
        have hlt : (k : Int) < ((needN n : Nat) : Int) := by omega
        have hk0 : (0 : Int) ≤ (k : Int) := by omega
        subst hoff
        have HF := Lib.hid (HF.out ((listI n own : Nat) : Int) rfl)
        clear HP hs2 HBr HEr HRr HAr HLI HLO hli hlp HX
        generalize (u64s (inoRow n (laidL n own) ((listI n own : Nat) : Int))).toArray = ZR at *
        generalize (u64s ((laidL n own).drop 5)).toArray = ZD at *
        generalize (zs (laidL n own)).toArray = ZL at *
        generalize ((1080 + 8 * listI n own : Nat) : Int) = bk at *
        generalize ((listI n own : Nat) : Int) = li at *
        go_wp2_with fail
        refine wp_region_last (l := [_, _, _, _, _]) (o := _) (S := fun wx => Keeps [] wr wx) (by kernel_rfl) rfl (by kernel_rfl) (fun d _ _ _ _ h => by cases d <;> exact h) ((Keeps.refl _ _).drew) (by kernel_rfl) (by kernel_rfl) ?_
        repeat (first
          | (refine EachList.cons (.agg ZL) (EachIf.load rfl 22 (.tmp 10) rfl _ rfl fun wx hx => HLD.out wx hx) ?_; simp only [Act.put, List.setIfInBounds_toArray, List.set_cons_zero, List.set_cons_succ])
          | (refine EachList.cons (.int .i64 bk) (EachIf.call rfl 36 #[.int .i64 li] ?he ?h) ?_; (case he => (intro wz; go_simp)); (case h => exact fun wx hx => (HBK.out wx).mono fun e w' he => ⟨he.1, he.2 ▸ hx⟩); simp only [Act.put, List.setIfInBounds_toArray, List.set_cons_zero, List.set_cons_succ])
          | (refine EachList.cons (.agg ZD) (EachIf.call rfl 38 #[.agg ZL] ?he ?h) ?_; (case he => (intro wz; go_simp)); (case h => exact fun wx hx => (HLR.out wx).mono fun e w' he => ⟨he.1, hx.trans' he.2⟩); simp only [Act.put, List.setIfInBounds_toArray, List.set_cons_zero, List.set_cons_succ])
          | (refine EachList.cons ?_ (EachIf.val rfl ?h) ?_; (case h => (intro wx hx; clear hx; go_simp; rfl)); simp only [Act.put, List.setIfInBounds_toArray, List.set_cons_zero, List.set_cons_succ]))
        refine EachList.done fun wx hx => ?_
        have HKX := Lib.hid hx
        clear hx
        go_wp2_with fail
        refine (HPR.out _ HKX.out).mono ?_; rintro e w7 ⟨rfl, hon⟩
        have HF7 := Lib.hid (HF.out w7 hon)
        clear HF hon HKX HPR HLR HLD HBK
        go_wp2_with fail
        refine wp_region_last (l := [_, _, _, _, _, _, _]) (o := _) (S := fun wx => Keeps [] w7 wx) (by kernel_rfl) rfl (by kernel_rfl) (fun d _ _ _ _ h => by cases d <;> exact h) ((Keeps.refl _ _).drew) (by kernel_rfl) (by kernel_rfl) ?_
        repeat (first
          | (refine EachList.cons (.agg Z) (EachIf.load rfl 25 (.tmp 5) rfl _ rfl fun wx hx => (HF7.out wx hx).1) ?_; simp only [Act.put, List.setIfInBounds_toArray, List.set_cons_zero, List.set_cons_succ])
          | (refine EachList.cons (.agg ZL) (EachIf.load rfl 22 (.tmp 10) rfl _ rfl fun wx hx => (HF7.out wx hx).2.1) ?_; simp only [Act.put, List.setIfInBounds_toArray, List.set_cons_zero, List.set_cons_succ])
          | (refine EachList.cons (.int .i64 (q : Int)) (EachIf.call rfl 31 #[.int .i64 i] ?he ?h) ?_; (case he => (intro wz; go_simp)); (case h => exact fun wx hx => (HI.out wx).mono fun e w' he => ⟨he.1, he.2 ▸ hx⟩); simp only [Act.put, List.setIfInBounds_toArray, List.set_cons_zero, List.set_cons_succ])
          | (refine EachList.cons (.agg ZR) (EachIf.call rfl 39 #[.agg Z, .agg ZL, .int .i64 li] ?he ?h) ?_; (case he => (intro wz; go_simp)); (case h => exact fun wx hx => (HF7.out wx hx).2.2.1.mono fun e w' he => ⟨he.1, hx.trans' he.2⟩); simp only [Act.put, List.setIfInBounds_toArray, List.set_cons_zero, List.set_cons_succ])
          | (refine EachList.cons ?_ (EachIf.val rfl ?h) ?_; (case h => (intro wx hx; clear hx; go_simp; rfl)); simp only [Act.put, List.setIfInBounds_toArray, List.set_cons_zero, List.set_cons_succ]))
        refine EachList.done fun wx hx => ?_
        have HKX := Lib.hid hx
        clear hx
        go_wp2_with fail
        refine (HF7.out _ HKX.out).2.2.2.mono ?_; rintro e w' ⟨rfl, hon⟩
        go_wp2_with fail
        go_ret
        exact ⟨rfl, hon.out⟩
      · obtain ⟨hli, hlp⟩ := HLO.out hc
        have HFW := Lib.hid (HF.out 0 (by rw [hli]; rfl) wr (by rw [hlp, List.append_nil]; exact HP.out))
        have hge : ¬ (k : Int) < ((needN n : Nat) : Int) := by omega
        clear HF HP hs2 HBr HEr HRr HAr HLI HLO hli hlp HX
        generalize (u64s (inoRow n (laidL n own) 0)).toArray = ZR at *
        generalize (zs (laidL n own)).toArray = ZL at *
        go_wp2_with fail
        refine wp_region_last (l := [_, _, _, _, _, _, _]) (o := _) (S := fun wx => Keeps [] wr wx) (by kernel_rfl) rfl (by kernel_rfl) (fun d _ _ _ _ h => by cases d <;> exact h) ((Keeps.refl _ _).drew) (by kernel_rfl) (by kernel_rfl) ?_
        repeat (first
          | (refine EachList.cons (.agg Z) (EachIf.load rfl 25 (.tmp 5) rfl _ rfl fun wx hx => (HFW.out wx hx).1) ?_; simp only [Act.put, List.setIfInBounds_toArray, List.set_cons_zero, List.set_cons_succ])
          | (refine EachList.cons (.agg ZL) (EachIf.load rfl 22 (.tmp 10) rfl _ rfl fun wx hx => (HFW.out wx hx).2.1) ?_; simp only [Act.put, List.setIfInBounds_toArray, List.set_cons_zero, List.set_cons_succ])
          | (refine EachList.cons (.int .i64 (q : Int)) (EachIf.call rfl 31 #[.int .i64 i] ?he ?h) ?_; (case he => (intro wz; go_simp)); (case h => exact fun wx hx => (HI.out wx).mono fun e w' he => ⟨he.1, he.2 ▸ hx⟩); simp only [Act.put, List.setIfInBounds_toArray, List.set_cons_zero, List.set_cons_succ])
          | (refine EachList.cons (.agg ZR) (EachIf.call rfl 39 #[.agg Z, .agg ZL, .int .i64 0] ?he ?h) ?_; (case he => (intro wz; go_simp)); (case h => exact fun wx hx => (HFW.out wx hx).2.2.1.mono fun e w' he => ⟨he.1, hx.trans' he.2⟩); simp only [Act.put, List.setIfInBounds_toArray, List.set_cons_zero, List.set_cons_succ])
          | (refine EachList.cons ?_ (EachIf.val rfl ?h) ?_; (case h => (intro wx hx; clear hx; go_simp; rfl)); simp only [Act.put, List.setIfInBounds_toArray, List.set_cons_zero, List.set_cons_succ]))
        refine EachList.done fun wx hx => ?_
        have HKX := Lib.hid hx
        clear hx
        go_wp2_with fail
        refine (HFW.out _ HKX.out).2.2.2.mono ?_; rintro e w' ⟨rfl, hon⟩
        go_wp2_with fail
        go_ret
        exact ⟨rfl, hon.out⟩
    | succ gg =>
      have hkc : k < cnt := by omega
      have hlt : (k : Int) < (cnt : Int) := by omega
      have hk0 : (0 : Int) ≤ (k : Int) := by omega
      have hk13 : (k : Int) < 13 := by omega
      have hl256 := H256.out k
      have HLC : Hid (∀ wx, Keeps [] wr wx → (loadVar 3 ⟨lb, k, none⟩).run Tryd.prog wx = .ok (.int .i64 ((laidL n own).getD k 0)) wx) := fun wx hk' => load_one (off := k) Tryd.underlying3 (HAr.keep hk' (by simp)) (by rw [List.getElem?_toArray, zs_get (by rw [HLL.out]; omega)])
      have HLV : Hid (∀ wx, Keeps [] wr wx → (loadVar 23 ⟨w.heap.size, 17, none⟩).run Tryd.prog wx = .ok v wx) := fun wx hk' => load_sl (off := 17) Tryd.underlying23 (HBr.keep hk' (by simp)) hZ17
      have HBK : Hid (∀ wx, Calls Tryd.prog 36 #[.int .i64 ((laidL n own).getD k 0)] wx fun e w' => e = .returned (.int .i64 ((1080 + 8 * ((laidL n own).getD k 0).toNat : Nat) : Int)) ∧ wx = w') := fun wx => by
        have := txBlock_at ((laidL n own).getD k 0) wx
        rwa [blockN, if_neg (by omega), show 1080 + (laidL n own).getD k 0 * 8 = ((1080 + 8 * ((laidL n own).getD k 0).toNat : Nat) : Int) by omega] at this
      have HER : Hid (∀ wx, Keeps [] wr wx → Calls Tryd.prog 37 #[v, .int .i64 (k : Int)] wx fun e w' => e = .returned (.agg (u64s (entRow n.E k)).toArray) ∧ Keeps [] wx w') := fun wx hk' => entryRow_at (HEr.keep hk' (by simp)) HEO.out k (HEL.out k hkc)
      have HPR : Hid (∀ wx, Keeps [] wr wx → Calls Tryd.prog 35 #[.pointer (some ⟨b, 0, none⟩), .int .i64 ((1080 + 8 * ((laidL n own).getD k 0).toNat : Nat) : Int), .agg (u64s (entRow n.E k)).toArray] wx fun e w' => e = .returned (.tuple #[]) ∧ Hid (Onto w6 b gp1 B (ps ++ (tps ++ entPs n.E (laidL n own) (k + 1))) w')) := fun wx hk' => by
        have h1 := putRow_at (hs2.keep hk' (by simp) (by simp)) (by simp only [List.length_append, entPs_len, HTL6]; omega) (1080 + 8 * ((laidL n own).getD k 0).toNat) (by omega) (entRow n.E k) (entTo_len _ _ _)
        refine h1.mono ?_
        rintro e w' ⟨he, h2⟩
        refine ⟨he, ?_⟩
        rw [List.append_assoc, List.append_assoc, ← entPs_succ] at h2
        exact Onto.trans hgp2 hk2 (Onto.mono hk' (by omega) h2)
      clear HP hs2 HBr HEr HRr HAr HX HF HLI HLO hl256
      generalize ((1080 + 8 * ((laidL n own).getD k 0).toNat : Nat) : Int) = bk at *
      generalize (laidL n own).getD k 0 = x at *
      generalize (u64s (entRow n.E k)).toArray = RW at *
      go_wp2_with fail
      refine wp_region_last (l := [_, _, _, _, _, _, _, _, _]) (o := _) (S := fun wx => Keeps [] wr wx) (by kernel_rfl) rfl (by kernel_rfl) (fun d _ _ _ _ h => by cases d <;> exact h) ((Keeps.refl _ _).drew) (by kernel_rfl) (by kernel_rfl) ?_
      repeat (first
        | (refine EachList.cons (.int .i64 x) (EachIf.load rfl 3 (.tmp 51) rfl _ rfl fun wx hx => HLC.out wx hx) ?_; simp only [Act.put, List.setIfInBounds_toArray, List.set_cons_zero, List.set_cons_succ])
        | (refine EachList.cons v (EachIf.load rfl 23 (.tmp 54) rfl _ rfl fun wx hx => HLV.out wx hx) ?_; simp only [Act.put, List.setIfInBounds_toArray, List.set_cons_zero, List.set_cons_succ])
        | (refine EachList.cons (.int .i64 bk) (EachIf.call rfl 36 #[.int .i64 x] ?he ?h) ?_; (case he => (intro wz; go_simp)); (case h => exact fun wx hx => (HBK.out wx).mono fun e w' he => ⟨he.1, he.2 ▸ hx⟩); simp only [Act.put, List.setIfInBounds_toArray, List.set_cons_zero, List.set_cons_succ])
        | (refine EachList.cons (.agg RW) (EachIf.call rfl 37 #[v, .int .i64 (k : Int)] ?he ?h) ?_; (case he => (intro wz; go_simp)); (case h => exact fun wx hx => (HER.out wx hx).mono fun e w' he => ⟨he.1, hx.trans' he.2⟩); simp only [Act.put, List.setIfInBounds_toArray, List.set_cons_zero, List.set_cons_succ])
        | (refine EachList.cons ?_ (EachIf.val rfl ?h) ?_; (case h => (intro wx hx; clear hx; go_simp; rfl)); simp only [Act.put, List.setIfInBounds_toArray, List.set_cons_zero, List.set_cons_succ]))
      refine EachList.done fun wx hx => ?_
      have HKX := Lib.hid hx
      clear hx
      go_wp2_with fail
      refine (HPR.out _ HKX.out).mono ?_; rintro e w' ⟨rfl, hon⟩
      go_wp2_with fail
      go_roundg gg
      case measure => omega
      case rel => exact ⟨k + 1, by omega, by go_num, hon.out⟩

end Go.Proofs.YtmhcnkjmnbnldaaDoor

namespace Go.Proofs.YtmhcnkjmnbnldaaDoor
open Go.RowKit

/-- It can be laid. -/
def Lay2P (i : Int) (n : Ino) : Prop := (0 ≤ i ∧ i < 32) ∧ n.F = 2 ∧ RightP n

instance (i : Int) (n : Ino) : Decidable (Lay2P i n) := by unfold Lay2P; infer_instance

set_option maxRecDepth 100000 in
set_option maxHeartbeats 4000000 in
theorem lay2_arg {w : World} {p : Value} (i : Int) (n : Ino) (v : Value) (g : Nat) (hB : n.B.length = 13) (hE : EReads w v g n.E) (hN : ∀ k, k < n.E.length → (enm n.E k).size ≤ 9223372036854775807) (hno : ¬ Lay2P i n) :
    Calls Tryd.prog 25 #[p, .int .i64 i, .agg (inoC n v)] w fun e w' => e = .returned (.int .i64 1) ∧ Keeps [] w w' := by
  have HRT : Hid (∀ wx, Keeps [] w wx → Calls Tryd.prog 14 #[.agg (inoC n v)] wx fun e w' => e = .returned (.bool (decide (RightP n))) ∧ Keeps [] wx w') := fun wx hk => right_at n v g hB wx (hE.keep hk (by simp)) hN
  have hat := inoAt v hB
  have hb0 := Blk.new w (inoC n v) 25
  have HL := Lib.hid (load_ino hb0 hB)
  have HI := Lib.hid (txInode_at i)
  generalize inoC n v = Z at *
  have c0 : (w.alloc (.cells Z 25)).cell? ⟨w.heap.size, 0, none⟩ = some (.int .i64 n.F) := by rw [hb0.cell]; exact hat.f0
  have HK : Hid (Keeps [] w (w.alloc (.cells Z 25))) := (Keeps.refl [] w).alloc _
  have HNO := Lib.hid hno
  clear hb0 hat hE hN hB hno
  by_cases hi : i < 0 ∨ 32 ≤ i
  · have hin : inodeN i = -1 := by unfold inodeN; rw [if_pos hi]
    rw [hin] at HI
    clear hin
    go_enter Tryd.func25, Tryd.ntmps25
    go_wp2_with fail
    refine (HI.out _).mono ?_; rintro e w' ⟨rfl, rfl⟩
    go_wp2_with fail
    go_ret
    exact ⟨rfl, HK.out⟩
  · have hin : inodeN i = ((824 + 8 * i.toNat : Nat) : Int) := by unfold inodeN; rw [if_neg hi]; omega
    rw [hin] at HI
    have hp0 : (0 : Int) ≤ ((824 + 8 * i.toNat : Nat) : Int) := by omega
    generalize ((824 + 8 * i.toNat : Nat) : Int) = q at *
    clear hin
    by_cases hF : n.F = 2
    · have HQ : Hid (decide (RightP n) = false) := decide_eq_false fun h => HNO.out ⟨by omega, hF, h⟩
      rw [hF] at c0
      rw [HQ.out] at HRT
      go_enter Tryd.func25, Tryd.ntmps25
      go_wp2_with fail
      refine (HI.out _).mono ?_; rintro e w' ⟨rfl, rfl⟩
      go_wp2_with ((with_reducible show wpList _ _ _ (⟨_, .load 25 (.tmp 5), _, _, _, _⟩ :: _) _ _); refine wpList_load_want (by simp [Region.wanted, yielded, hp0]) 25 (.tmp 5) rfl _ rfl _ HL.out ?_)
      refine (HRT.out _ HK.out).mono ?_; rintro e w1 ⟨rfl, hk1⟩
      have HK1 := Lib.hid (HK.out.trans' hk1)
      clear hk1
      go_wp2_with fail
      go_ret
      exact ⟨rfl, HK1.out⟩
    · have hF' : (n.F != 2) = true := bne_iff_ne.2 hF
      generalize n.F = f at *
      go_enter Tryd.func25, Tryd.ntmps25
      go_wp2_with fail
      refine (HI.out _).mono ?_; rintro e w' ⟨rfl, rfl⟩
      go_wp2_with fail
      go_ret
      exact ⟨rfl, HK.out⟩

set_option maxRecDepth 100000 in
set_option maxHeartbeats 4000000 in
theorem lay2_space {w : World} {b gp : Nat} {B : List Int} {ps : List (Int × Int)} (h : ShAt w b gp B ps) (h64 : In64 (putAll B ps)) (i : Int) (n : Ino) (v : Value) (g : Nat) (hB : n.B.length = 13) (hE : EReads w v g n.E) (hN : ∀ k, k < n.E.length → (enm n.E k).size ≤ 9223372036854775807)
    (hok : Lay2P i n) (hfew : (freeL (putAll B ps)).length < needF n) :
    Calls Tryd.prog 25 #[.pointer (some ⟨b, 0, none⟩), .int .i64 i, .agg (inoC n v)] w fun e w' => e = .returned (.int .i64 7) ∧ Keeps [] w w' := by
  have HRT : Hid (∀ wx, Keeps [] w wx → Calls Tryd.prog 14 #[.agg (inoC n v)] wx fun e w' => e = .returned (.bool true) ∧ Keeps [] wx w') := fun wx hk => by
    have := right_at n v g hB wx (hE.keep hk (by simp)) hN
    rwa [decide_eq_true hok.2.2] at this
  have hl24 := (blocks_le hok.2.2).1
  have HNEED : Hid (∀ wx, Keeps [] w wx → Calls Tryd.prog 27 #[.agg (inoC n v)] wx fun e w' => e = .returned (.int .i64 ((needF n : Nat) : Int)) ∧ Keeps [] wx w') := fun wx hk => by
    have := need2_at n v g hB wx (hE.keep hk (by simp)) (by omega) hN
    rwa [if_pos hok.2.2] at this
  have HTK : Hid (∀ wx, Keeps [] w wx → Calls Tryd.prog 32 #[.pointer (some ⟨b, 0, none⟩), .int .i64 ((needF n : Nat) : Int)] wx fun e w' => e = .returned (.tuple #[.slice none 0 0, .int .i64 7]) ∧ wx = w') := fun wx hk =>
    paTake_less (h.keep hk (by simp) (by simp)) h64 (needF n) hfew
  have hat := inoAt v hB
  have hb0 := Blk.new w (inoC n v) 25
  have HL : Hid (∀ wx, Keeps [] (w.alloc (.cells (inoC n v) 25)) wx → (loadVar 25 ⟨w.heap.size, 0, none⟩).run Tryd.prog wx = .ok (.agg (inoC n v)) wx) := fun wx hk => load_ino (hb0.keep hk (by simp)) hB
  have HI := Lib.hid (txInode_at i)
  generalize inoC n v = Z at *
  have c0 : (w.alloc (.cells Z 25)).cell? ⟨w.heap.size, 0, none⟩ = some (.int .i64 2) := by rw [hb0.cell, ← hok.2.1]; exact hat.f0
  have HK : Hid (Keeps [] w (w.alloc (.cells Z 25))) := (Keeps.refl [] w).alloc _
  have hin : inodeN i = ((824 + 8 * i.toNat : Nat) : Int) := by unfold inodeN; rw [if_neg (by have := hok.1; omega)]; have := hok.1; omega
  rw [hin] at HI
  have hp0 : (0 : Int) ≤ ((824 + 8 * i.toNat : Nat) : Int) := by omega
  generalize ((824 + 8 * i.toNat : Nat) : Int) = q at *
  clear hb0 hat hE hN hB hin hok h h64 hfew
  have HL0 := Lib.hid (HL.out _ (Keeps.refl [] _))
  generalize ((needF n : Nat) : Int) = nn at *
  go_enter Tryd.func25, Tryd.ntmps25
  go_wp2_with fail
  refine (HI.out _).mono ?_; rintro e w' ⟨rfl, rfl⟩
  go_wp2_with ((with_reducible show wpList _ _ _ (⟨_, .load 25 (.tmp 5), _, _, _, _⟩ :: _) _ _); refine wpList_load_want (by simp [Region.wanted, yielded, hp0]) 25 (.tmp 5) rfl _ rfl _ HL0.out ?_)
  refine (HRT.out _ HK.out).mono ?_; rintro e w1 ⟨rfl, hk1⟩
  have HK1 := Lib.hid (HK.out.trans' hk1)
  have HL1 := Lib.hid (HL.out _ hk1)
  clear hk1
  go_wp2_with ((with_reducible show wpList _ _ _ (⟨_, .load 25 (.tmp 5), _, _, _, _⟩ :: _) _ _); refine wpList_load_any rfl 25 (.tmp 5) rfl _ rfl _ HL1.out ?_)
  refine (HNEED.out _ HK1.out).mono ?_; rintro e w2 ⟨rfl, hk2⟩
  have HK2 := Lib.hid (HK1.out.trans' hk2)
  clear hk2
  go_wp2_with fail
  refine (HTK.out _ HK2.out).mono ?_; rintro e w3 ⟨rfl, rfl⟩
  go_wp2_with fail
  go_ret
  exact ⟨rfl, HK2.out⟩

/-- The puts of the first k blocks. -/
def blkPs (Ls : List (List Int)) (own : List Nat) (k : Nat) : List (Int × Int) := (List.range k).flatMap fun j => rowPs (1080 + 8 * own.getD j 0) (Ls.getD j []) 8

theorem blkPs_succ (Ls : List (List Int)) (own : List Nat) (k : Nat) : blkPs Ls own (k + 1) = blkPs Ls own k ++ rowPs (1080 + 8 * own.getD k 0) (Ls.getD k []) 8 := by
  unfold blkPs
  rw [List.range_succ, List.flatMap_append]
  simp

theorem blkPs_len (Ls : List (List Int)) (own : List Nat) (k : Nat) : (blkPs Ls own k).length = 8 * k := by
  induction k with
  | zero => rfl
  | succ k ih => rw [blkPs_succ, List.length_append, ih, rowPs_len]; omega

/-- All that is put. -/
def lay2Ps (X : List Int) (i : Nat) (n : Ino) (own : List Nat) : List (Int × Int) := takePs X own ++ (blkPs (blocksF n own) own own.length ++ rowPs (824 + 8 * i) (rowF n own) 8)

theorem needF_le {n : Ino} (hR : RightP n) : needF n ≤ 32 := by
  rcases hR.2.2 with ⟨-, hf⟩ | ⟨-, hd⟩
  · rw [need_file hf]
    split <;> omega
  · rw [need_dir hd]
    have h24 := hd.1
    have e0 := sprE_len n.E 0
    have e1 := sprE_len n.E 1
    have e2 := sprE_len n.E 2
    have e3 := sprE_len n.E 3
    simp only [fstN, dN]
    omega

end Go.Proofs.YtmhcnkjmnbnldaaDoor
