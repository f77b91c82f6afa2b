/-
  Layer 7, the reference: Bucket. Layer 7, the reference: Need. Layer 7, the reference: Need, of all inodes that are right. Layer 8, the reference's Need; what the laws' awake asks. Layer 8 (inode), plain: puts over one another at one place; how many blocks are free where some are used. Layer 8, the law InodeTurns: the sheet behind each call. Layer 8: the law InodeBent: the sheet behind each call; what Drop makes of the words. Layer 8, the reference's table: its cells; an operation's cells. Layer 8, the reference's table: Used, first. Layer 6, the reference: Same, where both are one inode; the law's sames, where both are one list; the reference's list of what is free.
-/
import Derived.Test.YtblnnedkfkiofaaGreatDoorG04
import Derived.Test.YtblnnedkfkiofaaGreatDoorG13
import Derived.Test.YtblnnedkfkiofaaGreatDoorG10
import Derived.Test.YtblnnedkfkiofaaGreatDoorG08
import Derived.Test.YtblnnedkfkiofaaGreatDoorG00
import Derived.Test.YtblnnedkfkiofaaGreatDoorG12
import Derived.Test.YtblnnedkfkiofaaGreatDoorG09
import Derived.Test.YtblnnedkfkiofaaGreatDoorG07
import Derived.Laws.StructEq
namespace Go.Proofs.YtblnnedkfkiofaaGreatDoor
open Go.RowKit

/-- What a call leaves that makes entries. -/
def MadeEnts (w : World) (E : List (ByteArray × Int)) (e : Ending) (w' : World) : Prop :=
  ∃ v g, e = .returned v ∧ EReads w' v g E ∧ w.heap.size ≤ g ∧ Keeps [] w w'

set_option maxRecDepth 100000 in
set_option maxHeartbeats 8000000 in
theorem refBucket_at {w : World} {v : Value} {g : Nat} {E : List (ByteArray × Int)} (hE : EReads w v g E) (hlen : E.length ≤ 10000) (hgood : ∀ k, k < E.length → goodN (bl (enm E k)) = true ∧ wordN (bl (enm E k)) < 18446744073709551616) (q : Nat) (_hq : q < 4) :
    Calls Tryz.prog 60 #[v, .int .i64 (q : Int)] w (MadeEnts w (sprE E q)) := by
  obtain ⟨a, cap, rfl, hcap, hmax, HEC⟩ := hE.open
  unfold maxLen at hmax
  obtain ⟨i0, hi, hz0, hz1, hz2⟩ := info_parts Tryz.info_entry
  have HG := Lib.hid hgood
  have HTS : Hid (∀ j, j < E.length → E.take (j + 1) = E.take j ++ [(enm E j, eno E j)]) := fun j hj => take_snocE E j hj
  have HTL : Hid (∀ j b, (sprE (E.take j) b).length ≤ E.length) := fun j b => Nat.le_trans (sprE_len _ _) (by rw [List.length_take]; omega)
  have HALL : Hid (E.take E.length = E) := List.take_length
  clear hE hgood
  generalize hn : E.length = n at *
  clear hn
  obtain ⟨qi, hqi⟩ : ∃ qi : Int, qi = (q : Int) := ⟨_, rfl⟩
  rw [← hqi]
  have HQI := Lib.hid hqi
  clear hqi
  go_enter Tryz.func60, Tryz.ntmps60
  go_wp2_with fail
  go_loopg [5, 6] n (fun gh s5 s6 wx => ∃ j : Nat, j + gh = n ∧ s6 = .int .i64 (j : Int) ∧ Hid (wx.ownsRow w.heap.size 66 2 s5 (sprE (E.take j) q).length (ecells (sprE (E.take j) q)) ∧ Keeps [] w wx))
  case atStart => exact ⟨0, by omega, rfl, ⟨rfl, .inl ⟨rfl, rfl⟩⟩, Keeps.refl _ _⟩
  case round =>
    obtain ⟨j, hj, rfl, HP⟩ := hrel
    cases gk with
    | zero =>
      obtain rfl : j = n := by omega
      have HM : Hid (MadeEnts w (sprE E q) (.returned u5) wr) := by
        obtain ⟨hr, hk⟩ := HP.out
        rw [HALL.out] at hr
        obtain ⟨g, ho, hg⟩ := Owns.of_row hr
        by_cases h0 : (sprE E q).length = 0
        · exact ⟨u5, w.heap.size, rfl, (ho.ereads rfl).anyG h0 _, Nat.le_refl _, hk⟩
        · exact ⟨u5, g, rfl, ho.ereads rfl, (hg h0).1, hk⟩
      clear HP hj
      go_wp2_with fail
      go_ret
      exact HM.out
    | succ gk =>
      have hjn : j < n := by omega
      have hlt : (j : Int) < (n : Int) := by omega
      have hj0 : (0 : Int) ≤ (j : Int) := by omega
      obtain ⟨hgl, off, rfl, e0, e1⟩ := HEC.out j hjn
      have HOW := Lib.hid HP.out.1
      have HKP := Lib.hid HP.out.2
      have hkp := HP.out.2
      have c0 := (World.cell?_of_block (w := w) (a := ⟨g, off + j * 2, none⟩) (hkp.block g hgl (by simp))).trans e0
      have HC01 : Hid (∀ wx, Keeps [] wr wx → wx.cell? ⟨g, off + j * 2, none⟩ = some (.string (enm E j)) ∧ wx.cell? ⟨g, off + j * 2 + 1, none⟩ = some (.int .i64 (eno E j))) := fun wx hk => ⟨(World.cell?_of_block (w := w) (a := ⟨g, off + j * 2, none⟩) ((hkp.trans' hk).block g hgl (by simp))).trans e0, (World.cell?_of_block (w := w) (a := ⟨g, off + j * 2 + 1, none⟩) ((hkp.trans' hk).block g hgl (by simp))).trans e1⟩
      obtain ⟨hgd, hwlt⟩ := HG.out j hjn
      have hsz7 : (enm E j).size ≤ 7 := by
        have := (goodN_len hgd).2
        rwa [bl_len] at this
      have HWC := Lib.hid (refWord_at (enm E j) hsz7 wr)
      have hbk : bkt (enm E j, eno E j) = sumN [wordN (bl (enm E j))] % 4 := by
        show bucketN _ = _
        unfold bucketN
        rw [if_pos hgd]
      have HSU : Hid (sprE (E.take (j + 1)) q = if q = sumN [wordN (bl (enm E j))] % 4 then sprE (E.take j) q ++ [(enm E j, eno E j)] else sprE (E.take j) q) := by
        show _ = _
        rw [HTS.out j hjn, sprE_snoc, hbk]
      have hln := HTL.out j q
      obtain ⟨a5, c5, rfl, q1, q2⟩ := ownsRow_val HOW.out
      unfold maxLen at q2
      have hwrs := hkp.size
      clear e0 e1 HP hkp hgd hsz7 hbk
      generalize enm E j = nm at *
      generalize eno E j = ino at *
      generalize wordN (bl nm) = W at *
      have HSC : Hid (Calls Tryz.prog 69 #[.slice (some ⟨wr.heap.size, 0, none⟩) 1 1] (wr.alloc (.cells #[.int .u64 (W : Int)] 31)) fun e w' => e = .returned (.int .u32 (sumN [W] : Nat)) ∧ (wr.alloc (.cells #[.int .u64 (W : Int)] 31)) = w') := by
        refine refSum_at (gb := wr.heap.size) (xs := [W]) ⟨_, 1, rfl, by simp [w64s], by simp [maxLen], fun _ => ⟨(Blk.new wr #[.int .u64 (W : Int)] 31).lt, 0, rfl, fun k hk => ?_⟩⟩ (by simpa using hwlt)
        have e : (#[Value.int .u64 (W : Int)] : Array Value) = (w64s [W]).toArray := rfl
        rw [(Blk.new wr #[.int .u64 (W : Int)] 31).cell, Nat.zero_add, e, List.getElem?_toArray]
      have hS := sumN_lt [W]
      generalize sumN [W] = S at *
      obtain ⟨ri, hri⟩ : ∃ ri : Int, ri = ((S % 4 : Nat) : Int) := ⟨_, rfl⟩
      have hr1 : ((S : Int)).tmod 4 = ri := by rw [hri, Int.ofNat_tmod]; rfl
      have hr2 : wrap64 ri = ri := w64_in (by omega) (by omega)
      have hcmp : ri = qi ↔ q = S % 4 := by have := HQI.out; omega
      clear hri
      generalize hm : (sprE (E.take j) q).length = m at *
      have HM := Lib.hid hm
      clear hm
      by_cases hb : ri = qi
      · have HSU2 : Hid (sprE (E.take (j + 1)) q = sprE (E.take j) q ++ [(nm, ino)]) := by
          show _ = _
          rw [HSU.out, if_pos (hcmp.1 hb)]
        subst hb
        clear hcmp
        have hc := HC01.out (wr.alloc (.cells #[.int .u64 (W : Int)] 31)) ((Keeps.refl [] wr).alloc _)
        obtain ⟨hc1, hc2⟩ := hc
        have HO1 := Lib.hid (ownsRow_keep HOW.out ((Keeps.refl [] wr).alloc (.cells #[.int .u64 (W : Int)] 31)) (by simp))
        go_wp2_with fail
        refine HWC.out.mono ?_; rintro e w' ⟨rfl, rfl⟩
        go_wp2_with fail
        refine HSC.out.mono ?_; rintro e w' ⟨rfl, rfl⟩
        go_wp2_with (at_builtin; refine wpList_append_own _ rfl _ _ 23 rfl w.heap.size 66 i0 (.agg #[.string ⟨#[]⟩, .int .i64 0]) 2 24 Tryz.underlying23 hi hz0 hz1 hz2 rfl (by decide) (.slice a5 m c5) m _ rfl (HO1.out.alloc _) ⟨wr.heap.size + 1, 0, none⟩ 1 1 [.string nm, .int .i64 ino] rfl rfl (new_cells _ [_, _] _ _ (by simp)) (fun u hu => by simp at hu; rcases hu with rfl | rfl <;> rfl) (by unfold maxLen; omega) (by omega) (by simp; omega) ?_)
        intro v' w2 hown1 hgrow _
        have HO2 := Lib.hid hown1
        have HK2 := Lib.hid (((HKP.out.alloc _).alloc _).grown hgrow (ownsRow_block HO1.out))
        clear hown1 hgrow hc1 hc2
        go_wp2_with fail
        go_roundg gk
        case measure => omega
        case rel =>
          refine ⟨j + 1, by omega, by go_num, ?_, HK2.out⟩
          have := HO2.out
          rw [HSU2.out, List.length_append, ecells_append, HM.out]
          exact this
      · have HSU2 : Hid (sprE (E.take (j + 1)) q = sprE (E.take j) q) := by
          show _ = _
          rw [HSU.out, if_neg (fun h => hb (hcmp.2 h))]
        have hb' : (ri == qi) = false := beq_eq_false_iff_ne.2 hb
        have HO1 := Lib.hid (ownsRow_keep HOW.out ((Keeps.refl [] wr).alloc (.cells #[.int .u64 (W : Int)] 31)) (by simp))
        clear hcmp hb
        go_wp2_with fail
        refine HWC.out.mono ?_; rintro e w' ⟨rfl, rfl⟩
        go_wp2_with fail
        refine HSC.out.mono ?_; rintro e w' ⟨rfl, rfl⟩
        go_wp2_with fail
        go_roundg gk
        case measure => omega
        case rel => exact ⟨j + 1, by omega, by go_num, by rw [HSU2.out, HM.out]; exact HO1.out, HKP.out.alloc _⟩

end Go.Proofs.YtblnnedkfkiofaaGreatDoor

namespace Go.Proofs.YtblnnedkfkiofaaGreatDoor
open Go.RowKit

theorem need_facts (q y : Nat) (hq : q ≤ 10000) (hy : y ≤ 100000) : ∃ a b c : Int, (q : Int) + 2 = a ∧ wrap64 a = a ∧ a.tdiv 3 = b ∧ wrap64 b = b ∧ (y : Int) + b = c ∧ wrap64 c = c ∧ Hid (c = ((y + (q + 2) / 3 : Nat) : Int)) := by
  have h3 : ((q : Int) + 2).tdiv 3 = (((q + 2) / 3 : Nat) : Int) := by rw [show (q : Int) + 2 = ((q + 2 : Nat) : Int) by omega, show (3 : Int) = ((3 : Nat) : Int) from rfl, Int.ofNat_tdiv]
  refine ⟨_, _, _, rfl, by unfold wrap64; omega, rfl, ?_, rfl, ?_, ?_⟩
  · rw [h3]; unfold wrap64; omega
  · rw [h3]; unfold wrap64; omega
  · show _ = _
    rw [h3]; omega

set_option maxRecDepth 100000 in
set_option maxHeartbeats 4000000 in
theorem refNeed_file (n : Ino) (v : Value) (hB : n.B.length = 13) (hK : n.K = 1) (hF : FileP n) (w : World) :
    Calls Tryz.prog 36 #[.agg (inoC n v)] w fun e w' => e = .returned (.int .i64 ((needF n : Nat) : Int)) ∧ Keeps [] w w' := by
  have HRUN := Lib.hid (fun wx => refRuns_at n.B hB wx)
  have hb0 := Blk.new w (inoC n v) 25
  have HK0 : Hid (Keeps [] w (w.alloc (.cells (inoC n v) 25))) := (Keeps.refl [] w).alloc _
  have HL1 : Hid ((loadVar 22 ⟨w.heap.size, 4, none⟩).run Tryz.prog (w.alloc (.cells (inoC n v) 25)) = .ok (.agg (zs n.B).toArray) (w.alloc (.cells (inoC n v) 25))) := load_n13 (off := 4) hb0 hB fun k hk => inoC_B _ (by omega)
  have c1 : (w.alloc (.cells (inoC n v) 25)).cell? ⟨w.heap.size, 1, none⟩ = some (.int .i64 1) := by rw [hb0.cell, ← hK]; exact (inoAt v hB).f1
  have hN := need_file hF
  by_cases h6 : 6 < (runsL n.B).length
  · rw [if_pos h6] at hN
    rw [hN]
    have h6' : (6 : Int) < ((runsL n.B).length : Int) := by omega
    clear hb0 hN hF hK hB h6
    generalize inoC n v = Z at *
    generalize (zs n.B).toArray = ZB at *
    generalize runsL n.B = R at *
    go_enter Tryz.func36, Tryz.ntmps36
    go_wp2_with ((with_reducible show wpList _ _ _ (⟨_, .load 22 (.tmp 8), _, _, _, _⟩ :: _) _ _); refine wpList_load_any rfl 22 (.tmp 8) rfl _ rfl _ HL1.out ?_)
    refine (HRUN.out _).mono ?_; rintro e w2 ⟨va, ga, rfl, hra, hga, hka⟩
    obtain ⟨aa, ca, rfl, -, -, -⟩ := u64s_cell hra
    have HK2 := Lib.hid (HK0.out.trans' hka)
    clear hra hga hka
    go_wp2_with fail
    go_ret
    exact ⟨rfl, HK2.out⟩
  · rw [if_neg h6] at hN
    rw [hN]
    have h6' : ¬ (6 : Int) < ((runsL n.B).length : Int) := by omega
    clear hb0 hN hF hK hB h6
    generalize inoC n v = Z at *
    generalize (zs n.B).toArray = ZB at *
    generalize runsL n.B = R at *
    go_enter Tryz.func36, Tryz.ntmps36
    go_wp2_with ((with_reducible show wpList _ _ _ (⟨_, .load 22 (.tmp 8), _, _, _, _⟩ :: _) _ _); refine wpList_load_any rfl 22 (.tmp 8) rfl _ rfl _ HL1.out ?_)
    refine (HRUN.out _).mono ?_; rintro e w2 ⟨va, ga, rfl, hra, hga, hka⟩
    obtain ⟨aa, ca, rfl, -, -, -⟩ := u64s_cell hra
    have HK2 := Lib.hid (HK0.out.trans' hka)
    clear hra hga hka
    go_wp2_with fail
    go_ret
    exact ⟨rfl, HK2.out⟩

set_option maxRecDepth 100000 in
set_option maxHeartbeats 4000000 in
theorem refNeed_dir (n : Ino) (v : Value) (g : Nat) (hB : n.B.length = 13) (hK : n.K = 2) (hD : DirP n) (w : World) (hE : EReads w v g n.E) (hgood : ∀ k, k < n.E.length → goodN (bl (enm n.E k)) = true ∧ wordN (bl (enm n.E k)) < 18446744073709551616) :
    Calls Tryz.prog 36 #[.agg (inoC n v)] w fun e w' => e = .returned (.int .i64 ((needF n : Nat) : Int)) ∧ Keeps [] w w' := by
  have h24 := hD.1
  have HBK : Hid (∀ wx, Keeps [] w wx → ∀ q : Nat, q < 4 → Calls Tryz.prog 60 #[v, .int .i64 (q : Int)] wx (MadeEnts wx (sprE n.E q))) := by
    intro wx hk q hq
    have h1 := hE.keep hk (by simp)
    have h2 : n.E.length ≤ 10000 := Nat.le_trans h24 (by decide)
    exact refBucket_at h1 h2 hgood q hq
  have hb0 := Blk.new w (inoC n v) 25
  have HK0 : Hid (Keeps [] w (w.alloc (.cells (inoC n v) 25))) := (Keeps.refl [] w).alloc _
  have HC17 : Hid (∀ wx, Keeps [] (w.alloc (.cells (inoC n v) 25)) wx → wx.cell? ⟨w.heap.size, 17, none⟩ = some v) := fun wx hk => by rw [(hb0.keep hk (by simp)).cell]; exact inoC_E _ hB
  have c1 : (w.alloc (.cells (inoC n v) 25)).cell? ⟨w.heap.size, 1, none⟩ = some (.int .i64 2) := by rw [hb0.cell, ← hK]; exact (inoAt v hB).f1
  have HLE : Hid (∀ k, (sprE n.E k).length ≤ 24) := fun k => Nat.le_trans (sprE_len _ _) h24
  have HFL : Hid (∀ k, k ≤ 4 → fstN n.E k ≤ 100) := fun k hk => by
    have h1 := fstN_mono n.E hk
    have e0 := sprE_len n.E 0
    have e1 := sprE_len n.E 1
    have e2 := sprE_len n.E 2
    have e3 := sprE_len n.E 3
    simp only [fstN, dN] at h1
    omega
  rw [need_dir hD]
  clear hb0 hE hgood hD hK h24 hB
  generalize inoC n v = Z at *
  go_enter Tryz.func36, Tryz.ntmps36
  go_wp2_with fail
  clear c1
  go_loopg [3, 4] 4 (fun gh s3 s4 wx => ∃ k : Nat, k + gh = 4 ∧ s4 = .int .i64 (k : Int) ∧ s3 = .int .i64 ((fstN n.E k : Nat) : Int) ∧ Hid (Keeps [] (w.alloc (.cells Z 25)) wx))
  case atStart => exact ⟨0, by omega, rfl, rfl, Keeps.refl _ _⟩
  case round =>
    obtain ⟨k, hk, rfl, rfl, HP⟩ := hrel
    cases gk with
    | zero =>
      obtain rfl : k = 4 := by omega
      have HKF := Lib.hid (HK0.out.trans' HP.out)
      clear hk
      go_wp2_with fail
      go_ret
      exact ⟨rfl, HKF.out⟩
    | succ gg =>
      have hk4 : k < 4 := by omega
      have hlt : (k : Int) < 4 := by omega
      have c17 := HC17.out wr HP.out
      have HB := Lib.hid (HBK.out wr (HK0.out.trans' HP.out) k hk4)
      have HSU : Hid (fstN n.E (k + 1) = fstN n.E k + ((sprE n.E k).length + 2) / 3) := rfl
      obtain ⟨a, b, c, f1, f2, f3, f4, f5, f6, HC⟩ := need_facts (sprE n.E k).length (fstN n.E k) (by have := HLE.out k; omega) (by have := HFL.out k (by omega); omega)
      have HKK : Hid (k + (gg + 1) = 4) := hk
      clear hk hk4
      generalize fstN n.E k = y at *
      go_wp2_with fail
      refine HB.out.mono ?_; rintro e w2 ⟨vb, gb, rfl, hvb, hgb, hkb⟩
      obtain ⟨ab, cb, rfl, -⟩ := hvb
      have HKP := Lib.hid (HP.out.trans' hkb)
      clear hgb hkb c17 HB
      generalize (sprE n.E k).length = q at *
      go_wp2_with fail
      go_roundg gg
      case measure => omega
      case rel => exact ⟨k + 1, by have := HKK.out; omega, by go_num, by rw [HSU.out, ← HC.out, f6], HKP.out⟩

end Go.Proofs.YtblnnedkfkiofaaGreatDoor

namespace Go.Proofs.YtblnnedkfkiofaaGreatDoor
open Go.RowKit

theorem refNeed2_at (n : Ino) (v : Value) (g : Nat) (hB : n.B.length = 13) (hR : RightP n) (w : World) (hE : EReads w v g n.E) :
    Calls Tryz.prog 36 #[.agg (inoC n v)] w fun e w' => e = .returned (.int .i64 ((needF n : Nat) : Int)) ∧ Keeps [] w w' := by
  rcases hR.2.2 with ⟨hK, hF⟩ | ⟨hK, hD⟩
  · exact refNeed_file n v hB hK hF w
  · refine refNeed_dir n v g hB hK hD w hE fun e he => ?_
    have hg := (hD.2.2.2 e he).1
    exact ⟨hg, wordN_lt (goodN_len hg).2 (bl_lt _)⟩

end Go.Proofs.YtblnnedkfkiofaaGreatDoor

namespace Go.Proofs.YtblnnedkfkiofaaGreatDoor
open Go.RowKit

set_option maxRecDepth 100000 in
set_option maxHeartbeats 1000000 in
theorem need8_at (n : Ino) (v : Value) (g : Nat) (hB : n.B.length = 13) (hR : RightP n) (w : World) (hE : EReads w v g n.E) :
    Calls Tryz.prog 15 #[.agg (inoC n v)] w fun e w' => e = .returned (.int .i64 ((needA n : Nat) : Int)) ∧ Keeps [] w w' := by
  have hk0 : Keeps [] w (w.alloc (.cells (inoC n v) 25)) := (Keeps.refl _ _).alloc _
  have hb1 := Blk.new w (inoC n v) 25
  have c0 : (w.alloc (.cells (inoC n v) 25)).cell? ⟨w.heap.size, 0, none⟩ = some (.int .i64 n.F) := by rw [hb1.cell]; exact (inoAt v hB).f0
  have HL := Lib.hid (load_ino hb1 hB)
  have HK0 := Lib.hid hk0
  by_cases hF : n.F = 2
  · have hn : needA n = needF n := if_pos hF
    have HC := Lib.hid (refNeed2_at n v g hB hR _ (hE.keep hk0 (by simp)))
    rw [hn]
    rw [hF] at c0
    clear hn hE hR hk0 hb1 hF
    generalize inoC n v = Z at *
    go_enter Tryz.func15, Tryz.ntmps15
    go_wp2_with ((with_reducible show wpList _ _ _ (⟨_, .load 25 (.tmp 1), _, _, _, _⟩ :: _) _ _); refine wpList_load_any rfl 25 (.tmp 1) rfl _ rfl _ HL.out ?_)
    refine HC.out.mono ?_; rintro e w2 ⟨rfl, hk⟩
    have HK := Lib.hid (HK0.out.trans' hk)
    clear hk HC HL
    go_wp2_with fail
    go_ret
    exact ⟨rfl, HK.out⟩
  · obtain ⟨h1, h2⟩ := needL_need hB (fun k => (right_len hR hB k).1)
    have hn : needA n = blocksN n.E.length + needL n := by rw [← h1]; exact if_neg hF
    have hbl := blocks_le hR
    have h13 : blocksN n.E.length + needL n ≤ 7 := by omega
    have e2 : (n.F == 2) = false := by simpa using hF
    obtain ⟨a, cap, rfl, -, -, -⟩ := hE.open
    have HC := Lib.hid (refNeed_at n a cap hB (by omega) (w.alloc (.cells (inoC n (.slice a n.E.length cap)) 25)))
    rw [hn]
    clear hn h1 hbl hE hR hk0 hb1 hF hB
    generalize inoC n (.slice a n.E.length cap) = Z at *
    generalize blocksN n.E.length = p at *
    generalize needL n = q at *
    have hw : IntKind.i64.wrap ((p : Int) + (q : Int)) = ((p + q : Nat) : Int) := by rw [IntWalk.i64_in _ (by omega)]; omega
    have hw2 : wrap64 ((p : Int) + (q : Int)) = ((p + q : Nat) : Int) := by unfold wrap64; omega
    go_enter Tryz.func15, Tryz.ntmps15
    go_wp2_with ((with_reducible show wpList _ _ _ (⟨_, .load 25 (.tmp 1), _, _, _, _⟩ :: _) _ _); refine wpList_load_any rfl 25 (.tmp 1) rfl _ rfl _ HL.out ?_)
    refine HC.out.mono ?_; rintro e w2 ⟨rfl, hk⟩
    have HK := Lib.hid (HK0.out.trans' hk)
    clear hk HC HL
    go_wp2_with fail
    go_ret
    refine ⟨?_, HK.out⟩
    first
      | rfl
      | (rw [hw2])
      | (rw [hw])

/-- A sheet of no words. -/
theorem pad_get (k : Nat) : (padW []).getD k 0 = 0 := by
  have h : padW [] = List.replicate 3128 0 := by decide +kernel
  rw [h, List.getD_eq_getElem?_getD, List.getElem?_replicate]
  split <;> rfl

theorem pad_64 : In64 (padW []) := fun k => by rw [pad_get]; omega

theorem ino_free0 {X : List Int} (h : ∀ k, 820 ≤ k → X.getD k 0 = 0) (i : Int) : FreeP X i := by
  unfold FreeP inoAtX rowL
  apply List.ext_getElem (by simp)
  intro j h1 h2
  rw [List.getElem_map, List.getElem_replicate, List.getElem_range]
  exact h _ (by omega)

/-- An inode of no entries and no blocks. -/
def ino1 : Ino := ⟨1, 1, 1, 0, List.replicate 13 0, []⟩

theorem right_ino1 : RightP ino1 := by decide +kernel

theorem need_ino1 : needA ino1 = 0 := by decide +kernel

/-- What the laws' awake asks, of any sheet of noughts. -/
theorem awake_new {w w1 : World} {b : Nat} {P : List Int} (h64 : In64 P) (hl : P.length = 3128) (h0 : ∀ k, 820 ≤ k → P.getD k 0 = 0) {n : Ino} (hB : n.B.length = 13) (hR : RightP n) (hn : needA n = 0) (hE : n.E = []) (hT : TabAt w) (hs : ShAt w1 b b P []) (hb : w.heap.size ≤ b) (hk : Keeps [] w w1) :
    Calls Tryz.prog 20 #[.pointer (some ⟨b, 0, none⟩), .agg (inoC n (.slice none 0 0))] w1 fun e w' => e = .returned (.tuple #[.int .i64 0, .int .i64 0]) ∧ Keeps [] w w' ∧
      Calls Tryz.prog 16 #[.pointer (some ⟨b, 0, none⟩), .int .i64 0] w' (fun e w2 => e = .returned (.bool false) ∧ Keeps [] w' w2 ∧ Calls Tryz.prog 16 #[.pointer (some ⟨b, 0, none⟩), .int .i64 1] w2 (fun e w3 => e = .returned (.bool true) ∧ Keeps [] w2 w3)) := by
  have := inoNew_at hs h64 (fun wx hx => hT.keep (hk.trans hx (by intro x hx; simp only [List.mem_cons, List.not_mem_nil, or_false] at hx; omega))) hs.raw.lt (by simp) n (.slice none 0 0) 0 hB (by rw [hE]; exact EReads.nil _ _) (fun k hk => by rw [hE] at hk; simp at hk) (fun h => absurd (by rw [hE]; rfl) h)
  refine this.mono ?_
  rintro e w' ⟨i, r, qs, gp', rfl, h2, h3, h4, h5, h6⟩
  have h6 : NewR P n i r qs := h6
  have hf : ∀ i, FreeP P i := ino_free0 h0
  have hfin : r = 0 ∧ i = 0 ∧ qs = putPs P (0 : Int).toNat n [] := by
    rcases h6 with ⟨-, -, h, -⟩ | ⟨j, h7, h8, h9, h10⟩
    · exact absurd (hf _) (h 0 (by omega))
    · have hj : j = 0 := by
        by_cases hj : j = 0
        · exact hj
        · exact absurd (hf _) (h9 0 (by omega))
      subst hj
      rcases h10 with ⟨-, -, h, -⟩ | ⟨-, -, -, h, -⟩ | ⟨h11, h12, -, -, h13⟩
      · exact absurd hR h
      · rw [hn] at h; omega
      · exact ⟨h11, h12, h13⟩
  obtain ⟨rfl, rfl, rfl⟩ := hfin
  have he := put_eff (i := 0) (own := []) (n := n) h64 hl hB ⟨by omega, by omega⟩ hR (by rw [hn]; omega)
  rw [List.nil_append] at h3
  have f1 := he.st.notFree
  have f2 := he.free_keeps (hf 1) ⟨by omega, by omega⟩ (by omega)
  clear he h6
  generalize putPs P (0 : Int).toNat n [] = qs at *
  refine ⟨rfl, hk.trans h4 (by intro x hx; simp only [List.mem_cons, List.not_mem_nil, or_false] at hx; omega), ?_⟩
  refine (free_at h3 0).mono ?_
  rintro e w2 ⟨rfl, hk2⟩
  rw [decide_eq_false (show ¬ ((0 ≤ (0 : Int) ∧ (0 : Int) < 32) ∧ FreeP (putAll P qs) 0) from fun h => f1 h.2)]
  refine ⟨rfl, hk2, ?_⟩
  refine (free_at (h3.keep hk2 (by simp) (by simp)) 1).mono ?_
  rintro e w3 ⟨rfl, hk3⟩
  rw [decide_eq_true (show ((0 ≤ (1 : Int) ∧ (1 : Int) < 32) ∧ FreeP (putAll P qs) 1) from ⟨⟨by omega, by omega⟩, f2⟩)]
  exact ⟨rfl, hk3⟩

set_option maxRecDepth 100000 in
set_option maxHeartbeats 1000000 in
theorem awake8_at {w : World} (hT : TabAt w) : Calls Tryz.prog 7 #[] w fun e w' => e = .returned (.bool true) ∧ Keeps [] w w' := by
  have HN := Lib.hid (txNew_at (w := w) (v := .slice none 0 0) (g := 0) (ws := []) ⟨none, 0, rfl, by simp [u64s], by simp [maxLen], fun h => absurd rfl h⟩)
  have HNEW := Lib.hid (fun w1 b hs hb hk => awake_new (w := w) (w1 := w1) (b := b) (P := padW []) pad_64 (padW_len []) (fun k _ => pad_get k) (n := ino1) rfl right_ino1 need_ino1 rfl hT hs hb hk)
  have hlit : inoC ino1 (.slice none 0 0) = #[.int .i64 1, .int .i64 1, .int .i64 1, .int .i64 0, .int .i64 0, .int .i64 0, .int .i64 0, .int .i64 0, .int .i64 0, .int .i64 0, .int .i64 0, .int .i64 0, .int .i64 0, .int .i64 0, .int .i64 0, .int .i64 0, .int .i64 0, .slice none 0 0] := rfl
  rw [hlit] at HNEW
  clear hT hlit
  generalize padW [] = B at *
  go_enter Tryz.func7, Tryz.ntmps7
  go_wp2_with fail
  refine HN.out.mono ?_
  rintro e w1 ⟨b, rfl, hlo, hs, hk⟩
  have HC := Lib.hid (HNEW.out w1 b hs hlo hk)
  clear hs hlo hk HNEW HN
  go_wp2_with fail
  refine HC.out.mono ?_; rintro e w2 ⟨rfl, hk2, hc2⟩
  have HK2 := Lib.hid hk2
  have HC2 := Lib.hid hc2
  clear hk2 hc2 HC
  go_wp2_with fail
  refine HC2.out.mono ?_; rintro e w3 ⟨rfl, hk3, hc3⟩
  have HK3 := Lib.hid (HK2.out.trans' hk3)
  have HC3 := Lib.hid hc3
  clear hk3 hc3 HC2
  go_wp2_with fail
  refine HC3.out.mono ?_; rintro e w4 ⟨rfl, hk4⟩
  have HK4 := Lib.hid (HK3.out.trans' hk4)
  clear hk4 HC3
  go_wp2_with fail
  go_ret
  exact ⟨rfl, HK4.out⟩

end Go.Proofs.YtblnnedkfkiofaaGreatDoor

namespace Go.Proofs.YtblnnedkfkiofaaGreatDoor
open Go.RowKit

theorem freeL_of_used {X Y : List Int} (h : ∀ c, c < 256 → c ≠ 0 → usedN Y c = usedN X c) : freeL Y = freeL X := by
  unfold freeL freeTo
  apply List.filter_congr
  intro c hc
  by_cases h0 : c = 0
  · subst h0; simp
  · rw [h c (List.mem_range.1 hc) h0]

/-- Words at whose bits others are used besides. -/
structure Over (X0 X : List Int) (own : List Nat) : Prop where
  w64 : In64 X
  len : X.length = 3128
  used : ∀ c, c < 256 → c ≠ 0 → usedN X c = (usedN X0 c || decide (c ∈ own))
  apart : ∀ c ∈ own, usedN X0 c = false

theorem Over.refl {X : List Int} (h : In64 X) (hl : X.length = 3128) : Over X X [] := ⟨h, hl, fun c _ _ => by simp, fun c hc => by simp at hc⟩

theorem Over.off {X0 X : List Int} {own : List Nat} (h : Over X0 X own) : ∀ c, c < 256 → c ≠ 0 → (usedN X c && !decide (c ∈ own)) = usedN X0 c := fun c hc h0 => by
  rw [h.used c hc h0]
  by_cases hm : c ∈ own
  · simp [hm, h.apart c hm]
  · simp [hm]

theorem Over.give {X0 X : List Int} {own : List Nat} (h : Over X0 X own) : freeL (putAll X (givePs X own)) = freeL X0 :=
  freeL_of_used fun c hc h0 => by rw [(givePs_state own X h.w64 h.len).2.1 c hc h0, h.off c hc h0]

theorem Over.put {X0 X X' : List Int} {i : Int} {n : Ino} {own own' : List Nat} (h : Over X0 X own) (he : PutEff X i n own X' own') : Over X0 X' own' ∧ (freeL X').length + needA n = (freeL X0).length := by
  have hm := he.st.mem
  refine ⟨⟨he.w64, he.len, fun c hc h0 => by rw [he.used c hc h0, h.off c hc h0], fun c hc => ?_⟩, by rw [he.count, h.give]⟩
  have h1 := he.free c hc
  rwa [h.off c (hm c hc).2 (hm c hc).1] at h1

end Go.Proofs.YtblnnedkfkiofaaGreatDoor

namespace Go.Proofs.YtblnnedkfkiofaaGreatDoor
open Go.RowKit

/-- The sheet at which an inode stands. -/
def Turn (W0 : World) (b gp : Nat) (X0 : List Int) (kk : Int) (n : Ino) (m : Nat) (wx : World) : Prop :=
  ∃ ps own, ShAt wx b gp (padW []) ps ∧ gp < wx.heap.size ∧ W0.heap.size ≤ gp ∧ ps.length ≤ m ∧ Over X0 (putAll (padW []) ps) own ∧ StoreP (putAll (padW []) ps) kk n own ∧ Keeps [] W0 wx ∧ (freeL (putAll (padW []) ps)).length + needA n = (freeL X0).length

theorem Turn.keep {W0 wx w' : World} {b gp : Nat} {X0 : List Int} {kk : Int} {n : Ino} {m : Nat} (h : Turn W0 b gp X0 kk n m wx) (hk : Keeps [] wx w') : Turn W0 b gp X0 kk n m w' := by
  obtain ⟨ps, own, h1, h2, h3, h4, h5, h6, h7, h8⟩ := h
  exact ⟨ps, own, h1.keep hk (by simp) (by simp), Nat.lt_of_lt_of_le h2 hk.size, h3, h4, h5, h6, h7.trans' hk, h8⟩

theorem Turn.keeps {W0 wx : World} {b gp : Nat} {X0 : List Int} {kk : Int} {n : Ino} {m : Nat} (h : Turn W0 b gp X0 kk n m wx) : Keeps [] W0 wx ∧ gp < wx.heap.size ∧ b < wx.heap.size := by
  obtain ⟨ps, own, h1, h2, h3, h4, h5, h6, h7, h8⟩ := h
  exact ⟨h7, h2, h1.raw.lt⟩

theorem turn_tab {W0 wx wy : World} {b gp : Nat} (hT : TabAt W0) (hb : W0.heap.size ≤ b) (hg : W0.heap.size ≤ gp) (hk : Keeps [] W0 wx) (hy : Keeps [b, gp] wx wy) : TabAt wy :=
  hT.keep (hk.trans hy (by intro y hy; simp only [List.mem_cons, List.not_mem_nil, or_false] at hy; omega))

theorem turn_apart {W0 : World} {b gp g : Nat} {v : Value} {E : List (ByteArray × Int)} (hE : EReads W0 v g E) (hb : W0.heap.size ≤ b) (hg : W0.heap.size ≤ gp) : E.length ≠ 0 → g ≠ b ∧ g ≠ gp := fun h0 => by
  have := hE.apart (l := [b, gp]) (fun x hx => by simp only [List.mem_cons, List.not_mem_nil, or_false] at hx; omega) h0
  simp only [List.mem_cons, List.not_mem_nil, or_false, not_or] at this
  exact this

end Go.Proofs.YtblnnedkfkiofaaGreatDoor

namespace Go.Proofs.YtblnnedkfkiofaaGreatDoor
open Go.RowKit

theorem zero8_64 {q : Nat} : ∀ p ∈ rowPs q (List.replicate 8 0) 8, 0 ≤ p.2 ∧ p.2 < 18446744073709551616 := by
  intro p hp
  unfold rowPs at hp
  obtain ⟨j, -, rfl⟩ := List.mem_map.1 hp
  have : (List.replicate 8 (0 : Int)).getD j 0 = 0 := by
    rw [List.getD_eq_getElem?_getD, List.getElem?_replicate]
    split <;> rfl
  show 0 ≤ (List.replicate 8 (0 : Int)).getD j 0 ∧ (List.replicate 8 (0 : Int)).getD j 0 < _
  rw [this]
  omega

/-- What is known of words behind a drop. -/
structure DropEff (X : List Int) (i : Int) (n : Ino) (own : List Nat) (X' : List Int) : Prop where
  free : FreeP X' i
  w64 : In64 X'
  len : X'.length = 3128
  used : ∀ c, c < 256 → c ≠ 0 → usedN X' c = (usedN X c && !decide (c ∈ own ++ filesL n))
  other : ∀ k, 820 ≤ k → ¬ (824 + 8 * i.toNat ≤ k ∧ k < 824 + 8 * i.toNat + 8) → X'.getD k 0 = X.getD k 0
  count : freeL X' = freeL (putAll X (givePs X (own ++ filesL n)))

theorem drop_eff {X : List Int} (h64 : In64 X) (hX : X.length = 3128) {i : Int} (hi : 0 ≤ i ∧ i < 32) {n : Ino} {own : List Nat} : DropEff X i n own (putAll X (dropPs X i.toNat n own)) := by
  obtain ⟨g1, g2, g3⟩ := givePs_state (own ++ filesL n) X h64 hX
  have gl : (putAll X (givePs X (own ++ filesL n))).length = 3128 := by rw [putAll_len, hX]
  unfold dropPs
  rw [putAll_append]
  obtain ⟨Y, hY⟩ : ∃ Y, Y = putAll X (givePs X (own ++ filesL n)) := ⟨_, rfl⟩
  rw [← hY] at g1 g2 g3 gl ⊢
  have hm : ∀ p ∈ rowPs (824 + 8 * i.toNat) (List.replicate 8 0) 8, 824 + 8 * i.toNat ≤ p.1.toNat ∧ p.1.toNat < 824 + 8 * i.toNat + 8 := by
    intro p hp
    unfold rowPs at hp
    obtain ⟨j, hj, rfl⟩ := List.mem_map.1 hp
    have := List.mem_range.1 hj
    show _ ≤ ((824 + 8 * i.toNat + j : Nat) : Int).toNat ∧ ((824 + 8 * i.toNat + j : Nat) : Int).toNat < _
    omega
  have hb := bits_same (X := Y) (Y := putAll Y (rowPs (824 + 8 * i.toNat) (List.replicate 8 0) 8)) fun k hk => putAll_other _ _ _ fun p hp => by have := hm p hp; omega
  refine ⟨?_, g1.put zero8_64, by rw [putAll_len, gl], fun c hc h0 => by rw [hb.1 c hc, g2 c hc h0], fun k hk h1 => ?_, by rw [hb.2, hY]⟩
  · unfold FreeP inoAtX
    exact rowL_put_eq gl _ (by omega) (by simp)
  · rw [putAll_other _ _ _ fun p hp => by have := hm p hp; omega]
    exact g3 k hk

/-- A sheet, as it stands. -/
def BendAt (W0 : World) (b gp : Nat) (ps : List (Int × Int)) (wx : World) : Prop :=
  ShAt wx b gp (padW []) ps ∧ gp < wx.heap.size ∧ W0.heap.size ≤ gp ∧ ps.length ≤ 5000 ∧ In64 (putAll (padW []) ps) ∧ Keeps [] W0 wx

theorem BendAt.keep {W0 wx w' : World} {b gp : Nat} {ps : List (Int × Int)} (h : BendAt W0 b gp ps wx) (hk : Keeps [] wx w') : BendAt W0 b gp ps w' := by
  obtain ⟨h1, h2, h3, h4, h5, h6⟩ := h
  exact ⟨h1.keep hk (by simp) (by simp), Nat.lt_of_lt_of_le h2 hk.size, h3, h4, h5, h6.trans' hk⟩

end Go.Proofs.YtblnnedkfkiofaaGreatDoor

namespace Go.Proofs.YtblnnedkfkiofaaGreatDoor
open Go.RowKit

/-- A table's cells. -/
def tabL : List (Ino × Value) → List Value
  | [] => []
  | p :: T => inoL p.1 p.2 ++ tabL T

def tabC (T : List (Ino × Value)) : Array Value := (tabL T).toArray

def nT (T : List (Ino × Value)) (i : Nat) : Ino := (T.getD i (inoZ, .slice none 0 0)).1
def vT (T : List (Ino × Value)) (i : Nat) : Value := (T.getD i (inoZ, .slice none 0 0)).2

/-- All inodes have thirteen blocks, and entries' slices of a cell. -/
def TabOk (T : List (Ino × Value)) : Prop := ∀ p ∈ T, p.1.B.length = 13 ∧ p.2.oneCell' = true

theorem tabL_len : ∀ {T : List (Ino × Value)}, TabOk T → (tabL T).length = T.length * 18
  | [], _ => rfl
  | p :: T, h => by
    have h1 := (h p (by simp)).1
    show (inoL p.1 p.2 ++ tabL T).length = _
    rw [List.length_append, inoL_len, h1, tabL_len (T := T) fun q hq => h q (by simp [hq]), List.length_cons]
    omega

theorem tabL_one : ∀ {T : List (Ino × Value)}, TabOk T → ∀ v ∈ tabL T, v.oneCell' = true
  | [], _ => fun v hv => by simp [tabL] at hv
  | p :: T, h => fun v hv => by
    rcases List.mem_append.1 (show v ∈ inoL p.1 p.2 ++ tabL T from hv) with hv | hv
    · exact inoL_one (h p (by simp)).2 v hv
    · exact tabL_one (T := T) (fun q hq => h q (by simp [hq])) v hv

theorem tabL_get : ∀ {T : List (Ino × Value)}, TabOk T → ∀ i, i < T.length → ∀ j, j < 18 → (tabL T)[i * 18 + j]? = (inoL (nT T i) (vT T i))[j]?
  | [], _ => fun i hi => by simp at hi
  | p :: T, h => fun i hi j hj => by
    have h1 := (h p (by simp)).1
    show (inoL p.1 p.2 ++ tabL T)[i * 18 + j]? = _
    cases i with
    | zero =>
      rw [List.getElem?_append_left (by rw [inoL_len, h1]; omega), Nat.zero_mul, Nat.zero_add]
      rfl
    | succ i =>
      rw [List.getElem?_append_right (by rw [inoL_len, h1]; omega), inoL_len, h1, show (i + 1) * 18 + j - (13 + 5) = i * 18 + j by omega]
      exact tabL_get (T := T) (fun q hq => h q (by simp [hq])) i (by simpa using hi) j hj

theorem tabL_set : ∀ {T : List (Ino × Value)}, TabOk T → ∀ i, i < T.length → ∀ (n : Ino) (v : Value), n.B.length = 13 → (tabL T).take (i * 18) ++ inoL n v ++ (tabL T).drop (i * 18 + (inoL n v).length) = tabL (T.set i (n, v))
  | [], _ => fun i hi => by simp at hi
  | p :: T, h => fun i hi n v hB => by
    have h1 := (h p (by simp)).1
    have hl : (inoL p.1 p.2).length = 18 := by rw [inoL_len, h1]
    have hl2 : (inoL n v).length = 18 := by rw [inoL_len, hB]
    show (inoL p.1 p.2 ++ tabL T).take (i * 18) ++ inoL n v ++ (inoL p.1 p.2 ++ tabL T).drop (i * 18 + (inoL n v).length) = _
    cases i with
    | zero =>
      rw [Nat.zero_mul, List.take_zero, List.nil_append, Nat.zero_add, hl2, ← hl, List.drop_left]
      rfl
    | succ i =>
      have ih := tabL_set (T := T) (fun q hq => h q (by simp [hq])) i (by simpa using hi) n v hB
      rw [hl2] at ih ⊢
      rw [List.take_append, List.drop_append, hl, show (i + 1) * 18 - 18 = i * 18 by omega, show (i + 1) * 18 + 18 - 18 = i * 18 + 18 by omega, List.take_of_length_le (by omega), List.drop_of_length_le (by omega), List.nil_append, List.append_assoc, List.append_assoc]
      rw [List.append_assoc] at ih
      rw [ih]
      rfl

theorem TabOk.set {T : List (Ino × Value)} (h : TabOk T) (i : Nat) {n : Ino} {v : Value} (hB : n.B.length = 13) (hv : v.oneCell' = true) : TabOk (T.set i (n, v)) := by
  intro p hp
  rcases List.mem_or_eq_of_mem_set hp with hp | rfl
  · exact h p hp
  · exact ⟨hB, hv⟩

theorem nT_set {T : List (Ino × Value)} {i : Nat} (hi : i < T.length) (n : Ino) (v : Value) (j : Nat) : nT (T.set i (n, v)) j = if i = j then n else nT T j := by
  unfold nT
  rw [List.getD_eq_getElem?_getD, List.getElem?_set]
  by_cases h : i = j
  · subst h; simp [hi]
  · rw [if_neg h, if_neg h, List.getD_eq_getElem?_getD]

theorem vT_set {T : List (Ino × Value)} {i : Nat} (hi : i < T.length) (n : Ino) (v : Value) (j : Nat) : vT (T.set i (n, v)) j = if i = j then v else vT T j := by
  unfold vT
  rw [List.getD_eq_getElem?_getD, List.getElem?_set]
  by_cases h : i = j
  · subst h; simp [hi]
  · rw [if_neg h, if_neg h, List.getD_eq_getElem?_getD]

theorem nT_len {T : List (Ino × Value)} (h : TabOk T) (i : Nat) : (nT T i).B.length = 13 := by
  unfold nT
  by_cases hi : i < T.length
  · rw [List.getD_eq_getElem?_getD, List.getElem?_eq_getElem hi, Option.getD_some]
    exact (h _ (List.getElem_mem hi)).1
  · rw [List.getD_eq_getElem?_getD, List.getElem?_eq_none (by omega)]
    rfl

theorem size_tab : (Tryz.prog.info? 48).map (·.size) = some 576 := by kernel_rfl
theorem size_op : (Tryz.prog.info? 50).map (·.size) = some 20 := by kernel_rfl

/-- A table's variable. -/
structure TabAtV (w : World) (g : Nat) (T : List (Ino × Value)) : Prop where
  blk : Blk w g (tabC T) 48
  ok : TabOk T
  len : T.length = 32

theorem TabAtV.keep {w w' : World} {g : Nat} {T : List (Ino × Value)} (h : TabAtV w g T) {l : List Nat} (hk : Keeps l w w') (hg : g ∉ l) : TabAtV w' g T := ⟨h.blk.keep hk hg, h.ok, h.len⟩

theorem TabAtV.load {w : World} {g : Nat} {T : List (Ino × Value)} (h : TabAtV w g T) : (loadVar 48 ⟨g, 0, none⟩).run Tryz.prog w = .ok (.agg (tabC T)) w :=
  run_loadVar_cells g 0 (tabL T) Tryz.underlying48 rfl (by rw [tabL_len h.ok, h.len]; exact size_tab) fun j _ => by
    rw [h.blk.cell, Nat.zero_add, tabC, List.getElem?_toArray]

theorem TabAtV.cell {w : World} {g : Nat} {T : List (Ino × Value)} (h : TabAtV w g T) {i j : Nat} (hi : i < 32) (hj : j < 18) : w.cell? ⟨g, i * 18 + j, none⟩ = (inoL (nT T i) (vT T i))[j]? := by
  rw [h.blk.cell, tabC, List.getElem?_toArray, tabL_get h.ok i (by rw [h.len]; exact hi) j hj]

theorem TabAtV.form {w : World} {g : Nat} {T : List (Ino × Value)} (h : TabAtV w g T) {i : Nat} (hi : i < 32) : w.cell? ⟨g, i * 18, none⟩ = some (.int .i64 (nT T i).F) := by
  have := h.cell hi (j := 0) (by omega)
  rw [Nat.add_zero] at this
  rw [this]
  rfl

theorem TabAtV.loadI {w : World} {g : Nat} {T : List (Ino × Value)} (h : TabAtV w g T) {i : Nat} (hi : i < 32) : (loadVar 25 ⟨g, i * 18, none⟩).run Tryz.prog w = .ok (.agg (inoC (nT T i) (vT T i))) w := by
  have hl : (inoL (nT T i) (vT T i)).length = 18 := by rw [inoL_len, nT_len h.ok]
  exact run_loadVar_cells g (i * 18) (inoL (nT T i) (vT T i)) Tryz.underlying25 rfl (by rw [hl]; exact size_ino) fun j hj => h.cell hi (by omega)

/-- An inode is stored in a table. -/
theorem TabAtV.storeI {w : World} {g : Nat} {T : List (Ino × Value)} (h : TabAtV w g T) {i : Nat} (hi : i < 32) {n : Ino} {v : Value} (hB : n.B.length = 13) (hv : v.oneCell' = true) :
    ∃ w', (storeVar 25 ⟨g, i * 18, none⟩ (.agg (inoC n v))).run Tryz.prog w = .ok () w' ∧ TabAtV w' g (T.set i (n, v)) ∧ Keeps [g] w w' := by
  have hl : (inoL n v).length = 18 := by rw [inoL_len, hB]
  have hs := tabL_set h.ok i (by rw [h.len]; exact hi) n v hB
  refine ⟨_, run_storeVar_cells g (i * 18) (inoL n v) (tabC T) (by rw [hl]; exact size_ino) h.blk (by rw [tabC, List.size_toArray, tabL_len h.ok, h.len, hl]; omega) (inoL_one hv), ⟨?_, h.ok.set i hB hv, by rw [List.length_set, h.len]⟩, (Keeps.refl _ _).setRow (by simp) _⟩
  have e : ((tabC T).toList.take (i * 18) ++ inoL n v ++ (tabC T).toList.drop (i * 18 + (inoL n v).length)).toArray = tabC (T.set i (n, v)) := by
    show _ = (tabL (T.set i (n, v))).toArray
    rw [← hs]
    rfl
  rw [e]
  exact setRow_blk h.blk

/-- A table is stored whole. -/
theorem store_tab {w : World} {g : Nat} {cur : Array Value} {T : List (Ino × Value)} (hb : Blk w g cur 48) (hc : cur.size = 576) (h : TabOk T) (hl : T.length = 32) :
    ∃ w', (storeVar 48 ⟨g, 0, none⟩ (.agg (tabC T))).run Tryz.prog w = .ok () w' ∧ TabAtV w' g T ∧ Keeps [g] w w' := by
  have hlen := tabL_len h
  obtain ⟨w', q1, q2, q3⟩ := store_whole (P := Tryz.prog) (ty := 48) (cs := tabL T) (by rw [hlen, hl]; exact size_tab) hb (by rw [hc, hlen, hl]) (tabL_one h)
  exact ⟨w', q1, ⟨q2, h, hl⟩, q3⟩

theorem tabC_size {T : List (Ino × Value)} (h : TabOk T) (hl : T.length = 32) : (tabC T).size = 576 := by rw [tabC, List.size_toArray, tabL_len h, hl]

/-- A table of free inodes. -/
def tab0 : List (Ino × Value) := List.replicate 32 (inoZ, .slice none 0 0)

theorem tab0_ok : TabOk tab0 := fun p hp => by
  rw [List.eq_of_mem_replicate hp]
  exact ⟨rfl, rfl⟩

set_option maxRecDepth 100000 in
theorem zero_tab (w : World) : (zeroValue 48).run Tryz.prog w = .ok (.agg (tabC tab0)) w := by kernel_rfl

/-- An operation's cells. -/
def opL (k i : Int) (n : Ino) (v : Value) : List Value := .int .u8 k :: .int .i64 i :: inoL n v
def opC (k i : Int) (n : Ino) (v : Value) : Array Value := (opL k i n v).toArray

theorem opL_len {k i : Int} {n : Ino} {v : Value} (h : n.B.length = 13) : (opL k i n v).length = 20 := by
  show (inoL n v).length + 1 + 1 = 20
  rw [inoL_len, h]

/-- An operation's variable. -/
structure OpAt (w : World) (g : Nat) (k i : Int) (n : Ino) (v : Value) : Prop where
  blk : Blk w g (opC k i n v) 50
  len : n.B.length = 13

theorem OpAt.keep {w w' : World} {g : Nat} {k i : Int} {n : Ino} {v : Value} (h : OpAt w g k i n v) {l : List Nat} (hk : Keeps l w w') (hg : g ∉ l) : OpAt w' g k i n v := ⟨h.blk.keep hk hg, h.len⟩

theorem OpAt.kind {w : World} {g : Nat} {k i : Int} {n : Ino} {v : Value} (h : OpAt w g k i n v) : w.cell? ⟨g, 0, none⟩ = some (.int .u8 k) := by rw [h.blk.cell]; rfl
theorem OpAt.idx {w : World} {g : Nat} {k i : Int} {n : Ino} {v : Value} (h : OpAt w g k i n v) : w.cell? ⟨g, 1, none⟩ = some (.int .i64 i) := by rw [h.blk.cell]; rfl

theorem OpAt.loadI {w : World} {g : Nat} {k i : Int} {n : Ino} {v : Value} (h : OpAt w g k i n v) : (loadVar 25 ⟨g, 2, none⟩).run Tryz.prog w = .ok (.agg (inoC n v)) w :=
  run_loadVar_cells g 2 (inoL n v) Tryz.underlying25 rfl (by rw [inoL_len, h.len]; exact size_ino) fun j _ => by
    rw [h.blk.cell, opC, List.getElem?_toArray, opL, show 2 + j = j + 1 + 1 by omega, List.getElem?_cons_succ, List.getElem?_cons_succ]

theorem OpAt.load {w : World} {g : Nat} {k i : Int} {n : Ino} {v : Value} (h : OpAt w g k i n v) : (loadVar 50 ⟨g, 0, none⟩).run Tryz.prog w = .ok (.agg (opC k i n v)) w :=
  run_loadVar_cells g 0 (opL k i n v) Tryz.underlying50 rfl (by rw [opL_len h.len]; exact size_op) fun j _ => by
    rw [h.blk.cell, Nat.zero_add, opC, List.getElem?_toArray]

/-- The operation's inode is another. -/
theorem OpAt.storeI {w : World} {g : Nat} {k i : Int} {n n' : Ino} {v v' : Value} (h : OpAt w g k i n v) (hB : n'.B.length = 13) (hv : v'.oneCell' = true) :
    ∃ w', (storeVar 25 ⟨g, 2, none⟩ (.agg (inoC n' v'))).run Tryz.prog w = .ok () w' ∧ OpAt w' g k i n' v' ∧ Keeps [g] w w' := by
  have hl : (inoL n' v').length = 18 := by rw [inoL_len, hB]
  have hl0 : (inoL n v).length = 18 := by rw [inoL_len, h.len]
  refine ⟨_, run_storeVar_cells g 2 (inoL n' v') (opC k i n v) (by rw [hl]; exact size_ino) h.blk (by rw [opC, List.size_toArray, opL_len h.len, hl]; omega) (inoL_one hv), ⟨?_, hB⟩, (Keeps.refl _ _).setRow (by simp) _⟩
  have e : ((opC k i n v).toList.take 2 ++ inoL n' v' ++ (opC k i n v).toList.drop (2 + (inoL n' v').length)).toArray = opC k i n' v' := by
    rw [List.drop_of_length_le (by show (opL k i n v).length ≤ _; rw [opL_len h.len, hl]; omega), List.append_nil]
    rfl
  rw [e]
  exact setRow_blk h.blk

/-- An operation is stored whole. -/
theorem store_op {w : World} {g : Nat} {cur : Array Value} {k i : Int} {n : Ino} {v : Value} (hb : Blk w g cur 50) (hc : cur.size = 20) (hB : n.B.length = 13) (hv : v.oneCell' = true) :
    ∃ w', (storeVar 50 ⟨g, 0, none⟩ (.agg (opC k i n v))).run Tryz.prog w = .ok () w' ∧ OpAt w' g k i n v ∧ Keeps [g] w w' := by
  obtain ⟨w', q1, q2, q3⟩ := store_whole (P := Tryz.prog) (ty := 50) (cs := opL k i n v) (by rw [opL_len hB]; exact size_op) hb (by rw [hc, opL_len hB]) (by
    intro x hx
    rcases List.mem_cons.1 hx with rfl | hx
    · rfl
    · rcases List.mem_cons.1 hx with rfl | hx
      · rfl
      · exact inoL_one hv x hx)
  exact ⟨w', q1, ⟨q2, hB⟩, q3⟩

theorem zero_op (w : World) : (zeroValue 50).run Tryz.prog w = .ok (.agg (opC 0 0 inoZ (.slice none 0 0))) w := by kernel_rfl

end Go.Proofs.YtblnnedkfkiofaaGreatDoor

namespace Go.Proofs.YtblnnedkfkiofaaGreatDoor
open Go.RowKit

/-- How many own blocks the i-th inode takes. -/
def needT (T : List (Ino × Value)) (i : Nat) : Nat := if 0 < (nT T i).F then needA (nT T i) else 0

def sumTo (T : List (Ino × Value)) : Nat → Nat
  | 0 => 0
  | k + 1 => sumTo T k + needT T k

/-- All inodes of the table that are not free are right. -/
def TabR (T : List (Ino × Value)) : Prop := ∀ i, i < 32 → 0 < (nT T i).F → RightP (nT T i)

/-- Their entries are in memory. -/
def TabE (w : World) (T : List (Ino × Value)) : Prop := ∀ i, i < 32 → ∃ g, EReads w (vT T i) g (nT T i).E

theorem TabE.keep {w w' : World} {T : List (Ino × Value)} (h : TabE w T) (hk : Keeps [] w w') : TabE w' T := fun i hi => by
  obtain ⟨g, he⟩ := h i hi
  exact ⟨g, he.keep hk (by simp)⟩

theorem needT_le {T : List (Ino × Value)} (h : TabR T) {i : Nat} (hi : i < 32) : needT T i ≤ 32 := by
  unfold needT
  split
  · exact needA_le (h i hi (by assumption))
  · omega

theorem sumTo_le {T : List (Ino × Value)} (h : TabR T) : ∀ k, k ≤ 32 → sumTo T k ≤ 32 * k
  | 0, _ => Nat.le_refl _
  | k + 1, hk => by
    have h1 := sumTo_le h k (by omega)
    have h2 := needT_le h (i := k) (by omega)
    show sumTo T k + needT T k ≤ _
    omega

set_option maxRecDepth 100000 in
set_option maxHeartbeats 4000000 in
theorem used_at {w : World} {T : List (Ino × Value)} (hok : TabOk T) (hlen : T.length = 32) (hR : TabR T) (hE : TabE w T) :
    Calls Tryz.prog 23 #[.agg (tabC T)] w fun e w' => e = .returned (.int .i64 ((sumTo T 32 : Nat) : Int)) ∧ Keeps [] w w' := by
  have hk0 : Keeps [] w (w.alloc (.cells (tabC T) 48)) := (Keeps.refl _ _).alloc _
  have HTV : Hid (TabAtV (w.alloc (.cells (tabC T) 48)) w.heap.size T) := ⟨Blk.new w _ _, hok, hlen⟩
  obtain ⟨W0, hW0⟩ : ∃ W0, w.alloc (.cells (tabC T) 48) = W0 := ⟨_, rfl⟩
  rw [hW0] at hk0 HTV
  have HF : Hid (∀ wx, Keeps [] W0 wx → ∀ i, i < 32 → wx.cell? ⟨w.heap.size, i * 18, none⟩ = some (.int .i64 (nT T i).F)) := fun wx hk i hi => (HTV.out.keep hk (by simp)).form hi
  have HL : Hid (∀ wx, Keeps [] W0 wx → ∀ i, i < 32 → (loadVar 25 ⟨w.heap.size, i * 18, none⟩).run Tryz.prog wx = .ok (.agg (inoC (nT T i) (vT T i))) wx) := fun wx hk i hi => (HTV.out.keep hk (by simp)).loadI hi
  have HN : Hid (∀ wx, Keeps [] W0 wx → ∀ i, i < 32 → 0 < (nT T i).F → Calls Tryz.prog 15 #[.agg (inoC (nT T i) (vT T i))] wx fun e w' => e = .returned (.int .i64 ((needT T i : Nat) : Int)) ∧ Keeps [] wx w') := fun wx hk i hi hf => by
    obtain ⟨g, he⟩ := hE i hi
    have := need8_at (nT T i) (vT T i) g (nT_len hok i) (hR i hi hf) wx (he.keep (hk0.trans' hk) (by simp))
    rwa [show needA (nT T i) = needT T i from (if_pos hf).symm] at this
  have HSL := Lib.hid (fun k hk => sumTo_le hR k hk)
  have HNL := Lib.hid (fun i hi => needT_le hR (i := i) hi)
  have HW0 := Lib.hid hW0
  have HK0 := Lib.hid hk0
  clear hok hlen hR hE hk0 hW0 HTV
  generalize tabC T = Z at *
  go_enter Tryz.func23, Tryz.ntmps23
  go_wp2_with fail
  rw [HW0.out]
  go_loopg [3, 4] 32 (fun gh s3 s4 wx => ∃ k : Nat, k + gh = 32 ∧ s3 = .int .i64 ((sumTo T k : Nat) : Int) ∧ s4 = .int .i64 (k : Int) ∧ Hid (Keeps [] W0 wx))
  case atStart => exact ⟨0, by omega, rfl, rfl, Keeps.refl _ _⟩
  case round =>
    obtain ⟨k, hk, rfl, rfl, HP⟩ := hrel
    cases gk with
    | zero =>
      obtain rfl : k = 32 := by omega
      have HKF := Lib.hid (HK0.out.trans' HP.out)
      clear hk HF HL HN
      go_wp2_with fail
      go_ret
      exact ⟨rfl, HKF.out⟩
    | succ gg =>
      have hk32 : k < 32 := by omega
      have hlt : (k : Int) < 32 := by omega
      have hk0 : (0 : Int) ≤ (k : Int) := by omega
      have c0 := HF.out wr HP.out k hk32
      have hs1 := HSL.out k (by omega)
      have hs2 := HNL.out k hk32
      have hsum : sumTo T (k + 1) = sumTo T k + needT T k := rfl
      by_cases hf : 0 < (nT T k).F
      · have HC := Lib.hid (HN.out wr HP.out k hk32 hf)
        have HLK := Lib.hid (HL.out wr HP.out k hk32)
        have hw : wrap64 (((sumTo T k : Nat) : Int) + ((needT T k : Nat) : Int)) = ((sumTo T (k + 1) : Nat) : Int) := by rw [hsum]; unfold wrap64; omega
        have hw2 : IntKind.i64.wrap (((sumTo T k : Nat) : Int) + ((needT T k : Nat) : Int)) = ((sumTo T (k + 1) : Nat) : Int) := by rw [IntWalk.i64_in _ (by omega), hsum]; omega
        clear hsum hs1 hs2
        generalize inoC (nT T k) (vT T k) = ZI at *
        generalize (nT T k).F = f at *
        go_wp2_with (((with_reducible show wpList _ _ _ (⟨_, .load 25 (.tmp 16), _, _, _, _⟩ :: _) _ _); refine wpList_load_any rfl 25 (.tmp 16) rfl _ rfl _ HLK.out ?_))
        refine HC.out.mono ?_; rintro e w2 ⟨rfl, hk2⟩
        have HP2 := Lib.hid (HP.out.trans' hk2)
        clear hk2 HC HLK
        go_wp2_with fail
        go_roundg gg
        case measure => omega
        case rel => exact ⟨k + 1, by omega, by first | rfl | rw [hw] | rw [hw2], by go_num, HP2.out⟩
      · have hn : needT T k = 0 := if_neg hf
        have hs3 : sumTo T (k + 1) = sumTo T k := by rw [hsum, hn]; rfl
        clear hsum hs1 hs2 hn
        generalize (nT T k).F = f at *
        go_wp2_with fail
        go_roundg gg
        case measure => omega
        case rel => exact ⟨k + 1, by omega, by rw [hs3], by go_num, HP.out⟩

/-- The first inode that is free. -/
def FirstR (T : List (Ino × Value)) (r : Int) : Prop := (∃ j : Nat, j < 32 ∧ r = (j : Int) ∧ (nT T j).F = 0 ∧ ∀ k, k < j → (nT T k).F ≠ 0) ∨ (r = -1 ∧ ∀ k, k < 32 → (nT T k).F ≠ 0)

set_option maxRecDepth 100000 in
set_option maxHeartbeats 4000000 in
theorem first_at {w : World} {T : List (Ino × Value)} (hok : TabOk T) (hlen : T.length = 32) :
    Calls Tryz.prog 45 #[.agg (tabC T)] w fun e w' => ∃ r, e = .returned (.int .i64 r) ∧ FirstR T r ∧ Keeps [] w w' := by
  have hk0 : Keeps [] w (w.alloc (.cells (tabC T) 48)) := (Keeps.refl _ _).alloc _
  have HTV : Hid (TabAtV (w.alloc (.cells (tabC T) 48)) w.heap.size T) := ⟨Blk.new w _ _, hok, hlen⟩
  obtain ⟨W0, hW0⟩ : ∃ W0, w.alloc (.cells (tabC T) 48) = W0 := ⟨_, rfl⟩
  rw [hW0] at hk0 HTV
  have HF : Hid (∀ i, i < 32 → W0.cell? ⟨w.heap.size, i * 18, none⟩ = some (.int .i64 (nT T i).F)) := fun i hi => HTV.out.form hi
  have HW0 := Lib.hid hW0
  have HK0 := Lib.hid hk0
  clear hok hlen hk0 hW0 HTV
  generalize tabC T = Z at *
  go_enter Tryz.func45, Tryz.ntmps45
  go_wp2_with fail
  rw [HW0.out]
  go_loopg [3] 32 (fun gh s3 wx => ∃ k : Nat, k + gh = 32 ∧ s3 = .int .i64 (k : Int) ∧ Hid (wx = W0 ∧ ∀ j, j < k → (nT T j).F ≠ 0))
  case atStart => exact ⟨0, by omega, rfl, rfl, fun j hj => by omega⟩
  case round =>
    obtain ⟨k, hk, rfl, HP⟩ := hrel
    obtain rfl := HP.out.1
    cases gk with
    | zero =>
      obtain rfl : k = 32 := by omega
      have HFR : Hid (FirstR T (-1)) := .inr ⟨rfl, HP.out.2⟩
      clear hk HF HP
      go_wp2_with fail
      go_ret
      exact ⟨_, rfl, HFR.out, HK0.out⟩
    | succ gg =>
      have hk32 : k < 32 := by omega
      have hlt : (k : Int) < 32 := by omega
      have hk0 : (0 : Int) ≤ (k : Int) := by omega
      have c0 := HF.out k hk32
      by_cases hf : (nT T k).F = 0
      · rw [hf] at c0
        have HFR : Hid (FirstR T (k : Int)) := .inl ⟨k, hk32, rfl, hf, HP.out.2⟩
        clear hf HP
        go_wp2_with fail
        go_ret
        exact ⟨_, rfl, HFR.out, HK0.out⟩
      · have e0 : ((nT T k).F == 0) = false := by simpa using hf
        have HP2 : Hid (∀ j, j < k + 1 → (nT T j).F ≠ 0) := fun j hj => by
          rcases Nat.lt_succ_iff_lt_or_eq.1 hj with h | h
          · exact HP.out.2 j h
          · rw [h]; exact hf
        clear hf HP
        generalize (nT T k).F = f at c0 e0
        go_wp2_with fail
        go_roundg gg
        case measure => omega
        case rel => exact ⟨k + 1, by omega, by go_num, ⟨rfl, HP2.out⟩⟩

end Go.Proofs.YtblnnedkfkiofaaGreatDoor

namespace Go.Proofs.YtblnnedkfkiofaaGreatDoor
open Go.RowKit

theorem eq_entry (s : ByteArray) (x : Int) (w : World) : (Op.equalIn 10000 66 (.agg #[.string s, .int .i64 x]) (.agg #[.string s, .int .i64 x])).run Tryz.prog w = .ok true w := by
  rw [run_equalIn_struct w 9999 66 _ _ (by kernel_rfl) (by kernel_rfl)]
  go_simp

theorem guard_entry : Tryz.prog.eqGuardType Tryz.prog.depth 66 = false := by kernel_rfl

theorem load_entry {w : World} {g off : Nat} {s : ByteArray} {x : Int} (h0 : w.cell? ⟨g, off, none⟩ = some (.string s)) (h1 : w.cell? ⟨g, off + 1, none⟩ = some (.int .i64 x)) :
    (loadVar 66 ⟨g, off, none⟩).run Tryz.prog w = .ok (.agg #[.string s, .int .i64 x]) w :=
  run_loadVar_cells g off [.string s, .int .i64 x] Tryz.underlying66 rfl size_entry fun j hj => by
    rcases (show j = 0 ∨ j = 1 by have : j < 2 := hj; omega) with rfl | rfl
    · exact h0
    · exact h1

set_option maxRecDepth 100000 in
set_option maxHeartbeats 4000000 in
theorem refSame_at (n : Ino) (v1 v2 : Value) (g1 g2 : Nat) (hB : n.B.length = 13) (w : World) (h1 : EReads w v1 g1 n.E) (h2 : EReads w v2 g2 n.E) :
    Calls Tryz.prog 18 #[.agg (inoC n v1), .agg (inoC n v2)] w fun e w' => e = .returned (.bool true) ∧ Keeps [] w w' := by
  obtain ⟨a1, c1, rfl, hc1, hm1, HE1⟩ := h1.open
  obtain ⟨a2, c2, rfl, hc2, hm2, HE2⟩ := h2.open
  have hat1 := inoAt (.slice a1 n.E.length c1) hB
  have hat2 := inoAt (.slice a2 n.E.length c2) hB
  generalize inoC n (.slice a1 n.E.length c1) = Z1 at *
  generalize inoC n (.slice a2 n.E.length c2) = Z2 at *
  have hb1 := (Blk.new w Z1 25).alloc (.cells Z2 25)
  have hb2 := Blk.new (w.alloc (.cells Z1 25)) Z2 25
  rw [show (w.alloc (.cells Z1 25)).heap.size = w.heap.size + 1 by simp] at hb2
  have p0 : ((w.alloc (.cells Z1 25)).alloc (.cells Z2 25)).cell? ⟨w.heap.size, 0, none⟩ = some (.int .i64 n.F) := by rw [hb1.cell]; exact hat1.f0
  have q0 : ((w.alloc (.cells Z1 25)).alloc (.cells Z2 25)).cell? ⟨w.heap.size + 1, 0, none⟩ = some (.int .i64 n.F) := by rw [hb2.cell]; exact hat2.f0
  have p1 : ((w.alloc (.cells Z1 25)).alloc (.cells Z2 25)).cell? ⟨w.heap.size, 1, none⟩ = some (.int .i64 n.K) := by rw [hb1.cell]; exact hat1.f1
  have q1 : ((w.alloc (.cells Z1 25)).alloc (.cells Z2 25)).cell? ⟨w.heap.size + 1, 1, none⟩ = some (.int .i64 n.K) := by rw [hb2.cell]; exact hat2.f1
  have p2 : ((w.alloc (.cells Z1 25)).alloc (.cells Z2 25)).cell? ⟨w.heap.size, 2, none⟩ = some (.int .i64 n.L) := by rw [hb1.cell]; exact hat1.f2
  have q2 : ((w.alloc (.cells Z1 25)).alloc (.cells Z2 25)).cell? ⟨w.heap.size + 1, 2, none⟩ = some (.int .i64 n.L) := by rw [hb2.cell]; exact hat2.f2
  have p3 : ((w.alloc (.cells Z1 25)).alloc (.cells Z2 25)).cell? ⟨w.heap.size, 3, none⟩ = some (.int .i64 n.S) := by rw [hb1.cell]; exact hat1.f3
  have q3 : ((w.alloc (.cells Z1 25)).alloc (.cells Z2 25)).cell? ⟨w.heap.size + 1, 3, none⟩ = some (.int .i64 n.S) := by rw [hb2.cell]; exact hat2.f3
  have p17 : ((w.alloc (.cells Z1 25)).alloc (.cells Z2 25)).cell? ⟨w.heap.size, 17, none⟩ = some (.slice a1 n.E.length c1) := by rw [hb1.cell]; exact hat1.f5
  have q17 : ((w.alloc (.cells Z1 25)).alloc (.cells Z2 25)).cell? ⟨w.heap.size + 1, 17, none⟩ = some (.slice a2 n.E.length c2) := by rw [hb2.cell]; exact hat2.f5
  have HL1 : Hid ((loadVar 22 ⟨w.heap.size, 4, none⟩).run Tryz.prog ((w.alloc (.cells Z1 25)).alloc (.cells Z2 25)) = .ok (.agg (zs n.B).toArray) ((w.alloc (.cells Z1 25)).alloc (.cells Z2 25))) := load_n13 (off := 4) hb1 hB hat1.f4
  have HL2 : Hid ((loadVar 22 ⟨w.heap.size + 1, 4, none⟩).run Tryz.prog ((w.alloc (.cells Z1 25)).alloc (.cells Z2 25)) = .ok (.agg (zs n.B).toArray) ((w.alloc (.cells Z1 25)).alloc (.cells Z2 25))) := load_n13 (off := 4) hb2 hB hat2.f4
  have heq := fun wx => eq_n13 (a := n.B) (b := n.B) hB hB wx
  rw [decide_eq_true (rfl : n.B = n.B)] at heq
  have hg13 := guard_n13
  have HB1 := Lib.hid hb1
  have HB2 := Lib.hid hb2
  have H5 := Lib.hid hat1.f5
  have H6 := Lib.hid hat2.f5
  have hes := eq_entry
  have hge := guard_entry
  have HK0 : Hid (Keeps [] w ((w.alloc (.cells Z1 25)).alloc (.cells Z2 25))) := ((Keeps.refl [] w).alloc _).alloc _
  unfold maxLen at hm1 hm2
  clear hb1 hb2 hat1 hat2 h1 h2 hB
  generalize (zs n.B).toArray = ZB at *
  generalize hm : n.E.length = m at *
  clear hm
  go_enter Tryz.func18, Tryz.ntmps18
  go_wp2_with (first | ((with_reducible show wpList _ _ _ (⟨_, .load 22 (.tmp 33), _, _, _, _⟩ :: _) _ _); refine wpList_load_want (by simp [Region.wanted, yielded]) 22 (.tmp 33) rfl _ rfl _ HL1.out ?_) | ((with_reducible show wpList _ _ _ (⟨_, .load 22 (.tmp 35), _, _, _, _⟩ :: _) _ _); refine wpList_load_want (by simp [Region.wanted, yielded]) 22 (.tmp 35) rfl _ rfl _ HL2.out ?_))
  clear p0 p1 p2 p3 p17 q0 q1 q2 q3 q17 heq
  go_loopg [5] m (fun gh s5 wx => ∃ k : Nat, k + gh = m ∧ s5 = .int .i64 (k : Int) ∧ Hid (Keeps [] ((w.alloc (.cells Z1 25)).alloc (.cells Z2 25)) wx))
  case atStart => exact ⟨0, by omega, rfl, Keeps.refl _ _⟩
  case round =>
    obtain ⟨k, hk, rfl, HP⟩ := hrel
    have hb1 := HB1.out.keep HP.out (by simp)
    have hb2 := HB2.out.keep HP.out (by simp)
    have p17 : wr.cell? ⟨w.heap.size, 17, none⟩ = some (.slice a1 m c1) := by rw [hb1.cell]; exact H5.out
    cases gk with
    | zero =>
      obtain rfl : k = m := by omega
      have HKR := Lib.hid (HK0.out.trans' HP.out)
      clear hb1 hb2 HP
      go_wp2_with fail
      go_ret
      exact ⟨rfl, HKR.out⟩
    | succ gg =>
      have hkm : k < m := by omega
      have hlt : (k : Int) < (m : Int) := by omega
      have hk0 : (0 : Int) ≤ (k : Int) := by omega
      obtain ⟨hgg1, off1, rfl, d1, d2⟩ := HE1.out k hkm
      obtain ⟨hgg2, off2, rfl, d3, d4⟩ := HE2.out k hkm
      have HKw := HK0.out.trans' HP.out
      have hz := HKw.size
      have hcc : ∀ wx, Keeps [] wr wx → ∀ g off, g < w.heap.size → wx.cell? ⟨g, off, none⟩ = w.cell? ⟨g, off, none⟩ := fun wx hk' g off hg => World.cell?_of_block ((HKw.trans' hk').block g hg (by simp))
      have HS1 : Hid (∀ wx, Keeps [] wr wx → (loadVar 23 ⟨w.heap.size, 17, none⟩).run Tryz.prog wx = .ok (.slice (some ⟨g1, off1, none⟩) m c1) wx) := fun wx hk' => load_sl Tryz.underlying23 (hb1.keep hk' (by simp)) H5.out
      have HS2 : Hid (∀ wx, Keeps [] wr wx → (loadVar 23 ⟨w.heap.size + 1, 17, none⟩).run Tryz.prog wx = .ok (.slice (some ⟨g2, off2, none⟩) m c2) wx) := fun wx hk' => load_sl Tryz.underlying23 (hb2.keep hk' (by simp)) H6.out
      have HN1 : Hid (∀ wx, Keeps [] wr wx → (loadVar 66 ⟨g1, off1 + k * 2, none⟩).run Tryz.prog wx = .ok (.agg #[.string (enm n.E k), .int .i64 (eno n.E k)]) wx) := fun wx hk' => load_entry ((hcc wx hk' _ _ hgg1).trans d1) ((hcc wx hk' _ _ hgg1).trans d2)
      have HN2 : Hid (∀ wx, Keeps [] wr wx → (loadVar 66 ⟨g2, off2 + k * 2, none⟩).run Tryz.prog wx = .ok (.agg #[.string (enm n.E k), .int .i64 (eno n.E k)]) wx) := fun wx hk' => load_entry ((hcc wx hk' _ _ hgg2).trans d3) ((hcc wx hk' _ _ hgg2).trans d4)
      clear hcc d1 d2 d3 d4 hb1 hb2
      generalize enm n.E k = s at *
      generalize eno n.E k = x at *
      go_wp2_with fail
      refine wp_region_each (S := fun wx => Keeps [] wr wx) (by kernel_rfl) (by kernel_rfl) (fun d _ _ _ _ h => by cases d <;> exact h) ((Keeps.refl _ _).drew) (by kernel_rfl) ?_
      repeat (first
        | (refine EachList.cons (.slice (some ⟨g1, off1, none⟩) m c1) (EachIf.load rfl 23 (.tmp 55) rfl _ rfl fun wx hx => HS1.out wx hx) ?_; simp only [Act.put, List.setIfInBounds_toArray, List.set_cons_zero, List.set_cons_succ])
        | (refine EachList.cons (.slice (some ⟨g2, off2, none⟩) m c2) (EachIf.load rfl 23 (.tmp 60) rfl _ rfl fun wx hx => HS2.out wx hx) ?_; simp only [Act.put, List.setIfInBounds_toArray, List.set_cons_zero, List.set_cons_succ])
        | (refine EachList.cons (.agg #[.string s, .int .i64 x]) (EachIf.load rfl 66 (.tmp 58) rfl _ rfl fun wx hx => HN1.out wx hx) ?_; simp only [Act.put, List.setIfInBounds_toArray, List.set_cons_zero, List.set_cons_succ])
        | (refine EachList.cons (.agg #[.string s, .int .i64 x]) (EachIf.load rfl 66 (.tmp 63) rfl _ rfl fun wx hx => HN2.out wx hx) ?_; simp only [Act.put, List.setIfInBounds_toArray, List.set_cons_zero, List.set_cons_succ])
        | (refine EachList.cons ?_ (EachIf.val rfl ?h) ?_; (case h => (intro wx hx; clear hx; go_simp; rfl)); simp only [Act.put, List.setIfInBounds_toArray, List.set_cons_zero, List.set_cons_succ]))
      refine EachList.done fun wx hx => ?_
      have HKX := Lib.hid (HP.out.trans' hx)
      clear hx
      go_wp2_with fail
      go_roundg gg
      case measure => omega
      case rel => exact ⟨k + 1, by omega, by go_num, HKX.out⟩

end Go.Proofs.YtblnnedkfkiofaaGreatDoor
