/-
  Layer 6: the laws' sheet. Layer 4 (tx): Words. Layer 4 (tx): Mark. Layer 7: what the laws Fmt2Lays and Fmt2Reads both want. Layer 7: the law Fmt2Lays. An array of thirteen numbers as an argument is read. An inode (api.Inode), and a list of its entries, as an argument is read; so pairs. math/bits' table, out of the row's condition; an array of four words, as an argument. Layer 7: the law Fmt2Reads.
-/
import Derived.Test.YtmhcnkjmnbnldaaDoorG10
import Derived.Test.YtmhcnkjmnbnldaaDoorG04
import Derived.Test.YtmhcnkjmnbnldaaDoorG01
import Derived.Test.YtmhcnkjmnbnldaaDoorG14
import Derived.Test.YtmhcnkjmnbnldaaDoorG11
import Derived.Test.YtmhcnkjmnbnldaaDoorG00
import Derived.Test.YtmhcnkjmnbnldaaDoorG12
import Derived.Test.YtmhcnkjmnbnldaaDoorG05
import Derived.Test.YtmhcnkjmnbnldaaDoorRows
import Derived.ProofKit
import Derived.LaidMore
import Derived.OpenShut
import Derived.Stop.Joined
import Derived.Laws.IdiomArrays
namespace Go.Proofs.YtmhcnkjmnbnldaaDoor
open Go.RowKit

set_option maxRecDepth 100000 in
set_option maxHeartbeats 4000000 in
theorem sheet6_at (ws : List Nat) (w : World) : Calls Tryd.prog 10 #[.agg (w4 ws)] w (MadeSheet w (laidX ws 4 1080)) := by
  have hcell := fun k hk => w4_get ws k hk
  have HC := Lib.hid hcell
  clear hcell
  generalize w4 ws = Z at *
  obtain ⟨mc, hmk, hoz⟩ := make_zeroW (w.alloc (.cells Z 31))
  have hz : (w.alloc (.cells Z 31)).heap.size = w.heap.size + 1 := by simp
  rw [hz] at hmk hoz
  have HO := Lib.hid hoz
  have HB : Hid (Blk ((w.alloc (.cells Z 31)).alloc (.cells mc 30)) w.heap.size Z 31) := (Blk.new w Z _).alloc _
  have HK : Hid (Keeps [] w ((w.alloc (.cells Z 31)).alloc (.cells mc 30))) := ((Keeps.refl [] w).alloc _).alloc _
  clear hoz hz
  go_enter Tryd.func10, Tryd.ntmps10
  go_wp2_with fail
  clear hmk
  go_loopg [4] 4 (fun gh s4 wx => ∃ k : Nat, k + gh = 4 ∧ s4 = .int .i64 (k : Int) ∧ Hid (Owns wx (.slice (some ⟨w.heap.size + 1, 0, none⟩) 3128 3128) (w.heap.size + 1) 30 1 3128 (u64s (laidX ws k 1080)) ∧ Blk wx w.heap.size Z 31 ∧ Keeps [] w wx))
  case atStart => exact ⟨0, by omega, rfl, by rw [← laidX_zero]; exact HO.out, HB.out, HK.out⟩
  case round =>
    clear HO HB HK
    obtain ⟨k, hk, rfl, HR⟩ := hrel
    cases gk with
    | zero =>
      obtain rfl : k = 4 := by omega
      have HN := Lib.hid (txNew_at (HR.out.1.reads))
      have HKP := Lib.hid HR.out.2.2
      clear hk HR
      go_wp2_with fail
      refine HN.out.mono ?_; rintro e w1 ⟨b, rfl, h1, h2, h3⟩
      have HM : Hid (MadeSheet w (laidX ws 4 1080) (.returned (.pointer (some ⟨b, 0, none⟩))) w1) := by
        have h2' : ShAt w1 b b (padW (laidX ws 4 1080)) [] := h2
        have hp : padW (laidX ws 4 1080) = laidX ws 4 1080 := by
          unfold padW
          rw [laidX_len, List.take_of_length_le (by rw [laidX_len]; omega), Nat.sub_self, List.replicate_zero, List.append_nil]
        rw [hp] at h2'
        exact ⟨b, rfl, Nat.le_trans HKP.out.size h1, h2', HKP.out.trans h3 (by simp)⟩
      clear h1 h2 h3
      go_wp2_with fail
      go_ret
      exact HM.out
    | succ gg =>
      have hk4 : k < 4 := by omega
      have hlt : (k : Int) < 4 := by omega
      have hk0 : (0 : Int) ≤ (k : Int) := by omega
      obtain ⟨ho, hb, hkp⟩ := HR.out
      obtain ⟨-, hc, hf⟩ := u64s_getO ho (laidX_len _ _ _) (show 816 + k < 3128 by omega)
      have c0 : wr.cell? ⟨w.heap.size, k, none⟩ = some (.int .u64 ((ws.getD k 0 : Nat) : Int)) := by rw [hb.cell, HC.out k hk4]
      have HS : Hid (Owns (wr.setCell ⟨w.heap.size + 1, 816 + k, none⟩ (.int .u64 ((ws.getD k 0 : Nat) : Int))) (.slice (some ⟨w.heap.size + 1, 0, none⟩) 3128 3128) (w.heap.size + 1) 30 1 3128 (u64s (laidX ws (k + 1) 1080))) := by
        show Owns _ _ _ _ _ _ _
        rw [← laidX_word ws k hk4]
        exact ho.set64 _ _
      have HBN : Hid (Blk (wr.setCell ⟨w.heap.size + 1, 816 + k, none⟩ (.int .u64 ((ws.getD k 0 : Nat) : Int))) w.heap.size Z 31) := hb.other (by simp) _
      have HKP := Lib.hid hkp
      clear ho hb hkp HR
      generalize (laidX ws k 1080).getD (816 + k) 0 = old at *
      generalize ws.getD k 0 = x at *
      go_wp2_with fail
      go_roundg gg
      case measure => omega
      case rel => exact ⟨k + 1, by omega, by go_num, HS.out, HBN.out, HKP.out.setCell (by simp) _⟩

end Go.Proofs.YtmhcnkjmnbnldaaDoor

namespace Go.Proofs.YtmhcnkjmnbnldaaDoor
open Go.RowKit

theorem zero_words (w : World) : (zeroValue 74).run Tryd.prog w = .ok (.agg (u64s (padW [])).toArray) w := by kernel_rfl

/-- A new array is stored whole. -/
theorem store_array {w : World} {g : Nat} {X : List Int} (hb : Blk w g (u64s X).toArray 74) (lx : X.length = 3128) (Y : List Int) (ly : Y.length = 3128) :
    ∃ w', (storeVar 74 ⟨g, 0, none⟩ (.agg (u64s Y).toArray)).run Tryd.prog w = .ok () w' ∧ Blk w' g (u64s Y).toArray 74 ∧ Keeps [g] w w' := by
  refine ⟨_, run_storeVar_cells g 0 (u64s Y) _ (by rw [u64s_len, ly]; exact size_words) hb (by rw [List.size_toArray, u64s_len, u64s_len]; omega) (u64s_one Y), ?_, (Keeps.refl _ _).setRow (by simp) _⟩
  have e : ((u64s X).toArray.toList.take 0 ++ u64s Y ++ (u64s X).toArray.toList.drop (0 + (u64s Y).length)).toArray = (u64s Y).toArray := by
    rw [List.take_zero, List.nil_append, List.drop_of_length_le (by rw [u64s_len, u64s_len]; omega), List.append_nil]
  rw [e]
  exact setRow_blk hb

theorem blk_reads {w : World} {g T : Nat} {Y : List Int} {n : Nat} (hb : Blk w g (u64s Y).toArray T) (hn : Y.length = n) (hm : n ≤ maxLen) : Reads w (.slice (some ⟨g, 0, none⟩) n n) g (u64s Y) := by
  refine ⟨some ⟨g, 0, none⟩, n, by rw [u64s_len, hn], by rw [u64s_len, hn]; exact Nat.le_refl _, hm, fun _ => ⟨hb.lt, 0, rfl, fun j hj => ?_⟩⟩
  rw [hb.cell, Nat.zero_add]
  simp

set_option maxHeartbeats 1000000 in
theorem txWords_raw {w : World} {b gp : Nat} {B X : List Int} {us : List (Int × Int)} (h : ShRaw w b gp B X us) :
    Calls Tryd.prog 20 #[.pointer (some ⟨b, 0, none⟩)] w (MadeWords w X) := by
  obtain ⟨lb, lx, vp, h1, h2, h3⟩ := h
  have HL := Lib.hid (load_words h1 lb lx)
  have hz := zero_words
  obtain ⟨w2, hr2, hb2, hk2⟩ := store_array (Blk.new w (u64s (padW [])).toArray 74) (padW_len []) X lx
  have HR2 := Lib.hid hr2
  have HM : Hid (MadeWords w X (.returned (.slice (some ⟨w.heap.size, 0, none⟩) 3128 3128)) w2) :=
    ⟨_, w.heap.size, rfl, blk_reads hb2 lx (by simp [maxLen]), Nat.le_refl _, ((Keeps.refl [] w).alloc _).trans hk2 (by simp)⟩
  clear h1 h2 h3 hr2 hb2 hk2 lb lx
  generalize (u64s (padW [])).toArray = Z at *
  generalize (u64s X).toArray = Y at *
  go_enter Tryd.func20, Tryd.ntmps20
  go_wp2_with (first | ((with_reducible show wpList _ _ _ (⟨_, .load 74 (.tmp 6), _, _, _, _⟩ :: _) _ _); refine wpList_load_any rfl 74 (.tmp 6) rfl _ rfl _ HL.out ?_) | ((with_reducible show wpList _ _ _ (⟨_, .store 74 (.tmp 3) (.tmp 7), _, _, _, _⟩ :: _) _ _); refine wpList_store_any rfl 74 (.tmp 3) (.tmp 7) rfl _ rfl _ rfl _ HR2.out ?_))
  go_ret
  exact HM.out

theorem txWords_at {w : World} {b gp : Nat} {B : List Int} {ps : List (Int × Int)} (h : ShAt w b gp B ps) :
    Calls Tryd.prog 20 #[.pointer (some ⟨b, 0, none⟩)] w (MadeWords w (putAll B ps)) := txWords_raw h.raw

end Go.Proofs.YtmhcnkjmnbnldaaDoor

namespace Go.Proofs.YtmhcnkjmnbnldaaDoor
open Go.RowKit

set_option maxHeartbeats 400000 in
theorem txMark_raw {w : World} {b gp : Nat} {B X : List Int} {us : List (Int × Int)} (h : ShRaw w b gp B X us) :
    Calls Tryd.prog 16 #[.pointer (some ⟨b, 0, none⟩)] w fun e w' => e = .returned (.int .i64 (us.length : Int)) ∧ w = w' := by
  obtain ⟨lb, lx, vp, h1, h2, h3⟩ := h
  have hc : w.cell? ⟨b, 6256, none⟩ = some vp := by rw [h1.cell, shCells_2 _ lb lx]
  obtain ⟨a, cap, rfl, q1, q2⟩ := ownsRow_val h2
  clear h1 h2 h3 lb lx
  generalize us.length = n at *
  go_enter Tryd.func16, Tryd.ntmps16
  go_wp2
  go_ret
  exact ⟨rfl, rfl⟩

theorem txMark_at {w : World} {b gp : Nat} {B : List Int} {ps : List (Int × Int)} (h : ShAt w b gp B ps) :
    Calls Tryd.prog 16 #[.pointer (some ⟨b, 0, none⟩)] w fun e w' => e = .returned (.int .i64 (ps.length : Int)) ∧ w = w' := by
  have := txMark_raw h.raw
  rw [notesN_len] at this
  exact this

end Go.Proofs.YtmhcnkjmnbnldaaDoor

namespace Go.Proofs.YtmhcnkjmnbnldaaDoor
open Go.RowKit

theorem laidX_64 (ws : List Nat) (h : ∀ i, ws.getD i 0 < 18446744073709551616) : In64 (laidX ws 4 1080) := fun j => by
  by_cases hj : j < 3128
  · rw [laidX_get _ _ _ _ hj]
    split
    · have := h (j - 816); omega
    · rw [if_neg (by omega)]; omega
  · rw [List.getD_eq_getElem?_getD, List.getElem?_eq_none (by rw [laidX_len]; omega)]
    simp

theorem laidX_0 (ws : List Nat) {j : Nat} (hj : 820 ≤ j) : (laidX ws 4 1080).getD j 0 = 0 := by
  by_cases h : j < 3128
  · rw [laidX_get _ _ _ _ h, if_neg (by omega), if_neg (by omega)]
  · rw [List.getD_eq_getElem?_getD, List.getElem?_eq_none (by rw [laidX_len]; omega)]
    simp

/-- What is known of a slice of words. -/
theorem words_cell {w : World} {v : Value} {g : Nat} {l : List Int} (h : Reads w v g (u64s l)) : ∃ a cap, v = .slice a l.length cap ∧ l.length ≤ cap ∧ cap ≤ maxLen ∧
    Hid (∀ k, k < l.length → g < w.heap.size ∧ ∃ off, a = some ⟨g, off, none⟩ ∧ w.cell? ⟨g, off + k, none⟩ = some (.int .u64 (l.getD k 0))) := by
  obtain ⟨a, cap, h0, h1, h2, h3⟩ := h
  rw [u64s_len] at *
  refine ⟨a, cap, h0, h1, h2, fun k hk => ?_⟩
  obtain ⟨hg, off, ho, hc⟩ := h3 (by intro e; have := congrArg List.length e; rw [u64s_len, List.length_nil] at this; omega)
  exact ⟨hg, off, ho, (hc k hk).trans (u64s_get hk)⟩

theorem build_w4 (w : World) : (Instr.build 31 #[]).run Tryd.prog w = .ok (.agg (w4 [])) w := by kernel_rfl

theorem nil_64 : ∀ i, ([] : List Nat).getD i 0 < 18446744073709551616 := fun i => by simp

/-- Where a pair is put. -/
theorem bend_at (x : Int) : ∃ z : Nat, z < 300 ∧ (IntKind.i64.wrap (x.tmod 300) = x.tmod 300 ∧ IntKind.i64.wrap (x.tmod 300 + 300) = x.tmod 300 + 300) ∧ (x.tmod 300 + 300).tmod 300 = (z : Int) ∧ IntKind.i64.wrap (z : Int) = (z : Int) ∧ 848 + (z : Int) = ((848 + z : Nat) : Int) ∧ IntKind.i64.wrap ((848 + z : Nat) : Int) = ((848 + z : Nat) : Int) := by
  have h1 := Int.lt_tmod_of_pos x (show (0 : Int) < 300 by decide)
  have h2 := Int.tmod_lt_of_pos x (show (0 : Int) < 300 by decide)
  have h3 := Int.tmod_lt_of_pos (x.tmod 300 + 300) (show (0 : Int) < 300 by decide)
  have h4 := Int.tmod_nonneg 300 (show 0 ≤ x.tmod 300 + 300 by omega)
  refine ⟨((x.tmod 300 + 300).tmod 300).toNat, by omega, ⟨IntWalk.i64_in _ (by omega), IntWalk.i64_in _ (by omega)⟩, (Int.toNat_of_nonneg h4).symm, IntWalk.i64_in _ (by omega), by omega, IntWalk.i64_in _ (by omega)⟩

theorem names_small {n : Ino} (h : RightP n) : ∀ k, k < n.E.length → (enm n.E k).size ≤ 9223372036854775807 := fun k hk => by
  have h1 := (((blocks_le h).2.2 (by omega)).2.2.2.2 k hk).1
  have h2 := (goodN_len h1).2
  rw [bl_len] at h2
  omega

theorem blk_facts (o : Nat) (ho : o < 256) : ∃ q1 : Nat, q1 = 1080 + 8 * o ∧ wrap64 (8 * (o : Int)) = 8 * (o : Int) ∧ 1080 + 8 * (o : Int) = (q1 : Int) ∧ wrap64 (q1 : Int) = (q1 : Int) ∧ q1 + 8 ≤ 3128 :=
  ⟨1080 + 8 * o, rfl, by unfold wrap64; omega, by omega, w64_small _ (by omega), by omega⟩

theorem q7_facts (q1 j : Nat) (h : q1 + 8 ≤ 3128) (hj : j < 8) : ∃ q2 : Nat, q2 = q1 + j ∧ (q1 : Int) + (j : Int) = (q2 : Int) ∧ wrap64 (q2 : Int) = (q2 : Int) ∧ q2 < 3128 ∧ (q2 : Int) < 3128 ∧ (0 : Int) ≤ (q2 : Int) :=
  ⟨q1 + j, rfl, by omega, w64_small _ (by omega), by omega, by omega, by omega⟩

theorem not_row {q o j : Nat} (hq : q = 1080 + 8 * o + j) : ¬ (848 ≤ q ∧ q < 848 + 8) := by omega

/-- A sheet, of which words may be otherwise. -/
def ShMid (w : World) (b : Nat) (X : List Int) (q : Nat) (wx : World) : Prop :=
  ∃ gp qs, ShAt wx b gp X qs ∧ gp < wx.heap.size ∧ w.heap.size ≤ gp ∧ In64 (putAll X qs) ∧ qs.length ≤ 600 + q ∧ Keeps [] w wx


theorem q8_facts (o j : Nat) (oi : Int) (h : (o : Int) = oi) (ho : o < 256) (hj : j < 8) : ∃ (q2 : Nat) (m8 q1 q : Int), 8 * oi = m8 ∧ wrap64 m8 = m8 ∧ 1080 + m8 = q1 ∧ wrap64 q1 = q1 ∧ q1 + (j : Int) = q ∧ wrap64 q = q ∧ 0 ≤ q ∧ q < 3128 ∧ q.toNat = q2 ∧ Hid (q2 = 1080 + 8 * o + j) ∧ Hid (q2 < 3128) ∧ Hid (q = ((q2 : Nat) : Int)) ∧
    Hid (IntKind.i64.wrap m8 = m8 ∧ IntKind.i64.wrap q1 = q1 ∧ IntKind.i64.wrap q = q) := by
  subst h
  refine ⟨1080 + 8 * o + j, _, _, _, rfl, ?_, rfl, ?_, rfl, ?_, ?_, ?_, ?_, rfl, ?_, ?_, IntWalk.i64_in _ ?_, IntWalk.i64_in _ ?_, IntWalk.i64_in _ ?_⟩
  · unfold wrap64; omega
  · unfold wrap64; omega
  · unfold wrap64; omega
  · omega
  · omega
  · omega
  · show _ < _; omega
  · show _ = _; omega
  · omega
  · omega
  · omega

end Go.Proofs.YtmhcnkjmnbnldaaDoor

namespace Go.Proofs.YtmhcnkjmnbnldaaDoor
open Go.RowKit

set_option maxRecDepth 100000 in
set_option maxHeartbeats 8000000 in
theorem f2Lays_at (ws : List Nat) (hws : ∀ i, ws.getD i 0 < 18446744073709551616) (i : Int) (n : Ino) (v : Value) (g : Nat) (hB : n.B.length = 13) (w : World) (hE : EReads w v g n.E) (hT : TabAt w) :
    Calls Tryd.prog 6 #[.agg (w4 ws), .int .i64 i, .agg (inoC n v)] w fun e w' => e = .returned (.bool true) ∧ Keeps [] w w' := by
  have hat := inoAt v hB
  have HB := Lib.hid hB
  have HEH := Lib.hid hE
  have HTT := Lib.hid hT
  have HWS := Lib.hid hws
  have HBI : Hid (inoC n v = inoC n v) := rfl
  have HLI0 : Hid (∀ wx, Blk wx (w.heap.size + 1) (inoC n v) 25 → (loadVar 25 ⟨w.heap.size + 1, 0, none⟩).run Tryd.prog wx = .ok (.agg (inoC n v)) wx) := fun wx hb => load_ino hb hB
  have HL40 : Hid (∀ wx, Blk wx w.heap.size (w4 ws) 31 → (loadVar 31 ⟨w.heap.size, 0, none⟩).run Tryd.prog wx = .ok (.agg (w4 ws)) wx) := fun wx hb => load_w4 hb
  have HAW := Lib.hid (fun wx => f2Awake_at wx)
  have HFEW : Hid (∀ wx, Keeps [] w wx → Calls Tryd.prog 9 #[.agg (inoC n v)] wx (FewPost wx n)) := fun wx hk => refFew_at n v g hB wx (hE.keep hk (by simp))
  have HSH := Lib.hid (fun wx => sheet6_at ws wx)
  have HBITS := Lib.hid (fun wx => bits_at ws hws wx)
  have HRR : Hid ((∀ k, k < n.E.length → (enm n.E k).size ≤ 9223372036854775807) → ∀ wx, Keeps [] w wx → Calls Tryd.prog 15 #[.agg (inoC n v)] wx fun e w' => e = .returned (.bool (decide (RightP n))) ∧ Keeps [] wx w') := fun h wx hk => refRight_at n v g hB wx (hE.keep hk (by simp)) h
  have HLAY : Hid ((∀ k, k < n.E.length → (enm n.E k).size ≤ 9223372036854775807) → ∀ wx b, Keeps [] w wx → w.heap.size ≤ b → ShAt wx b b (laidX ws 4 1080) [] → Calls Tryd.prog 25 #[.pointer (some ⟨b, 0, none⟩), .int .i64 i, .agg (inoC n v)] wx (Lay2Post wx b b (laidX ws 4 1080) [] i n)) := fun h wx b hk hb hs =>
    lay2_any hs (laidX_64 ws hws) (hT.keep hk) hs.raw.lt (by simp) i n v g hB (hE.keep hk (by simp)) h (fun h0 => by
      have := hE.apart (l := [b]) (fun x hx => by rw [List.mem_singleton] at hx; omega) h0
      rw [List.mem_singleton] at this
      exact ⟨this, this⟩)
  have HNEED : Hid (RightP n → ∀ wx, Keeps [] w wx → Calls Tryd.prog 26 #[.agg (inoC n v)] wx fun e w' => e = .returned (.int .i64 ((needF n : Nat) : Int)) ∧ Keeps [] wx w') := fun hR wx hk => refNeed2_at n v g hB hR wx (hE.keep hk (by simp))
  have HNEED2 : Hid (RightP n → ∀ wx, Keeps [] w wx → Calls Tryd.prog 27 #[.agg (inoC n v)] wx fun e w' => e = .returned (.int .i64 ((needF n : Nat) : Int)) ∧ Keeps [] wx w') := fun hR wx hk => by
    have h24 := (blocks_le hR).1
    have := need2_at n v g hB wx (hE.keep hk (by simp)) (by omega) (names_small hR)
    rwa [if_pos hR] at this
  have HWORD : Hid (RightP n → ∀ own vo go p k, own.length = needF n → (∀ c ∈ own, c ≠ 0 ∧ c < 256) → own.Nodup → p + 8 ≤ 1080 → k < 3128 → ∀ wx, Keeps [] w wx → Reads wx vo go (i64s own) → Calls Tryd.prog 28 #[.agg (inoC n v), .int .i64 ((p : Nat) : Int), vo, .int .i64 ((k : Nat) : Int)] wx (Want2Post wx n own p k)) := fun hR own vo go p k h1 h2 h3 h4 h5 wx hk hO =>
    refWord2_at n v g own vo go p k hB hR h1 h2 h3 h4 h5 wx (hE.keep hk (by simp)) hO
  have HSAME : Hid (∀ vm gm wx, Keeps [] w wx → EReads wx vm gm n.E → Calls Tryd.prog 13 #[.agg (inoC n vm), .agg (inoC n v)] wx fun e w' => e = .returned (.bool true) ∧ Keeps [] wx w') := fun vm gm wx hk h => refSame_at n vm v gm g hB wx h (hE.keep hk (by simp))
  have hz4 : ∃ Z4, w4 ws = Z4 := ⟨_, rfl⟩
  obtain ⟨Z4, hZ4⟩ := hz4
  obtain ⟨Z, hZ⟩ : ∃ Z, inoC n v = Z := ⟨_, rfl⟩
  have HZI := Lib.hid hZ
  rw [hZ4] at HSH HBITS HL40 ⊢
  rw [hZ] at hat HLI0 HFEW HRR HLAY HNEED HNEED2 HWORD HSAME ⊢
  have hb4 := (Blk.new w Z4 31).alloc (.cells Z 25)
  have hbi := Blk.new (w.alloc (.cells Z4 31)) Z 25
  rw [show (w.alloc (.cells Z4 31)).heap.size = w.heap.size + 1 by simp] at hbi
  have HK0 : Hid (Keeps [] w ((w.alloc (.cells Z4 31)).alloc (.cells Z 25))) := ((Keeps.refl [] w).alloc _).alloc _
  have HLI : Hid (∀ wx, Keeps [] ((w.alloc (.cells Z4 31)).alloc (.cells Z 25)) wx → (loadVar 25 ⟨w.heap.size + 1, 0, none⟩).run Tryd.prog wx = .ok (.agg Z) wx) := fun wx hk => HLI0.out wx (hbi.keep hk (by simp))
  have HL4 : Hid (∀ wx, Keeps [] ((w.alloc (.cells Z4 31)).alloc (.cells Z 25)) wx → (loadVar 31 ⟨w.heap.size, 0, none⟩).run Tryd.prog wx = .ok (.agg Z4) wx) := fun wx hk => HL40.out wx (hb4.keep hk (by simp))
  have HC0 : Hid (∀ wx, Keeps [] ((w.alloc (.cells Z4 31)).alloc (.cells Z 25)) wx → wx.cell? ⟨w.heap.size + 1, 0, none⟩ = some (.int .i64 n.F)) := fun wx hk => by rw [(hbi.keep hk (by simp)).cell]; exact hat.f0
  have HZ0 : Hid (((w.alloc (.cells Z4 31)).alloc (.cells Z 25)).heap.size = w.heap.size + 1 + 1) := by show _ = _; simp
  clear hat hbi hb4 hB hE hT hws HBI HLI0 HL40 hZ hZ4 HZI
  go_enter Tryd.func6, Tryd.ntmps6
  go_wp2_with fail
  refine (HAW.out _).mono ?_; rintro e w1 ⟨rfl, hk1⟩
  have HK1 := Lib.hid hk1
  have HL1 := Lib.hid (HLI.out w1 hk1)
  clear hk1
  go_wp2_with ((with_reducible show wpList _ _ _ (⟨_, .load 25 (.tmp 5), _, _, _, _⟩ :: _) _ _); refine wpList_load_want (by first | rfl | (simp [Region.wanted, yielded]; done) | (simp [Region.wanted, yielded]; omega)) 25 (.tmp 5) rfl _ rfl _ HL1.out ?_)
  refine (HFEW.out w1 (HK0.out.trans' HK1.out)).mono ?_; rintro e w2 ⟨⟨fb, rfl, hfb⟩, hk2⟩
  have HK2 := Lib.hid (HK1.out.trans' hk2)
  have HFB := Lib.hid hfb
  clear hk2 hfb HK1 HL1 HFEW
  cases fb
  · clear HLAY HWORD HSAME HRR HNEED HNEED2 HBITS HSH
    go_wp2_with fail
    refine (HAW.out w2).mono ?_; rintro e w3 ⟨rfl, hk3⟩
    have HK3 := Lib.hid (HK0.out.trans' (HK2.out.trans' hk3))
    clear hk3
    go_wp2_with fail
    go_ret
    exact ⟨rfl, HK3.out⟩
  · have hfb := HFB.out rfl
    have HNS : Hid (∀ k, k < n.E.length → (enm n.E k).size ≤ 9223372036854775807) := fun k hk => by have := hfb.2 k hk; omega
    have HRR := Lib.hid (HRR.out HNS.out)
    have HLAY := Lib.hid (HLAY.out HNS.out)
    have HL2 := Lib.hid (HL4.out w2 HK2.out)
    clear hfb HFB HNS
    go_wp2_with ((with_reducible show wpList _ _ _ (⟨_, .load 31 (.tmp 3), _, _, _, _⟩ :: _) _ _); refine wpList_load_want (by first | rfl | (simp [Region.wanted, yielded]; done) | (simp [Region.wanted, yielded]; omega)) 31 (.tmp 3) rfl _ rfl _ HL2.out ?_)
    refine (HSH.out w2).mono ?_; rintro e w3 ⟨b, rfl, hb3, hs3, hk3⟩
    have HK3 := Lib.hid (HK2.out.trans' hk3)
    have HL3 := Lib.hid (HLI.out w3 HK3.out)
    have hbw : ((w.alloc (.cells Z4 31)).alloc (.cells Z 25)).heap.size ≤ b := Nat.le_trans HK2.out.size hb3
    have hbw2 : w.heap.size ≤ b := by rw [HZ0.out] at hbw; omega
    have HLY := Lib.hid (HLAY.out w3 b (HK0.out.trans' HK3.out) hbw2 hs3)
    clear hk3 hs3 hb3 HLAY HSH HK2 HL2
    go_wp2_with ((with_reducible show wpList _ _ _ (⟨_, .load 25 (.tmp 5), _, _, _, _⟩ :: _) _ _); refine wpList_load_want (by first | rfl | (simp [Region.wanted, yielded]; done) | (simp [Region.wanted, yielded]; omega)) 25 (.tmp 5) rfl _ rfl _ HL3.out ?_)
    refine HLY.out.mono ?_; rintro e w4 ⟨r, qs, gp, rfl, hgp, hs4, hk4, hql, hr⟩
    have HK4 : Hid (Keeps [] ((w.alloc (.cells Z4 31)).alloc (.cells Z 25)) w4) := HK3.out.trans hk4 (by intro x hx; simp only [List.mem_cons, List.not_mem_nil, or_false] at hx; omega)
    rw [List.nil_append] at hs4
    have HS4 := Lib.hid hs4
    have HR := Lib.hid hr
    have HX64 := Lib.hid (laidX_64 ws HWS.out)
    have HX0 : Hid (∀ j, 820 ≤ j → (laidX ws 4 1080).getD j 0 = 0) := fun j hj => laidX_0 ws hj
    have HXL := Lib.hid (laidX_len ws 4 1080)
    have HFREE : Hid (∀ v' g' wx, Owns wx v' g' 4 1 256 (bools (bitsB ws 256)) → Calls Tryd.prog 17 #[v'] wx (FreePost wx (freeL (laidX ws 4 1080)))) := fun v' g' wx h => refFree_at ws v' g' wx h
    generalize laidX ws 4 1080 = X at *
    clear hs4 hk4 hgp hr HLY HL3 HK3 hbw hbw2
    have HMK : Hid (∀ wx, Keeps [] w4 wx → Calls Tryd.prog 16 #[.pointer (some ⟨b, 0, none⟩)] wx fun e w' => e = .returned (.int .i64 (qs.length : Int)) ∧ wx = w') := fun wx hk => txMark_at (HS4.out.keep hk (by simp) (by simp))
    obtain ⟨tR, htR⟩ : ∃ tR, decide (RightP n) = tR := ⟨_, rfl⟩
    rw [htR] at HRR
    have HTR := Lib.hid htR
    clear htR
    have HK5 := Lib.hid (Keeps.refl [] w4)
    rcases HR.out with ⟨rfl, hno, rfl⟩ | hyes
    · -- it may not be laid
      have HNO := Lib.hid hno
      clear hno HR HNEED HNEED2 HWORD HSAME HBITS HFREE HX64 HX0 HXL HS4 HL4
      by_cases i0 : i < 0
      · go_wp2_with fail
        refine (HMK.out w4 HK5.out).mono ?_; rintro e w' ⟨rfl, rfl⟩
        go_wp2_with fail
        go_ret
        exact ⟨rfl, HK0.out.trans' (HK4.out.trans' HK5.out)⟩
      · by_cases i1 : 31 < i
        · go_wp2_with fail
          refine (HMK.out w4 HK5.out).mono ?_; rintro e w' ⟨rfl, rfl⟩
          go_wp2_with fail
          go_ret
          exact ⟨rfl, HK0.out.trans' (HK4.out.trans' HK5.out)⟩
        · have HL5 := Lib.hid (HLI.out w4 (HK4.out.trans' HK5.out))
          cases tR
          · go_wp2_with ((with_reducible show wpList _ _ _ (⟨_, .load 25 (.tmp 5), _, _, _, _⟩ :: _) _ _); refine wpList_load_want (by first | rfl | (simp [Region.wanted, yielded]; done) | (simp [Region.wanted, yielded]; omega)) 25 (.tmp 5) rfl _ rfl _ HL5.out ?_)
            refine (HRR.out w4 (HK0.out.trans' (HK4.out.trans' HK5.out))).mono ?_; rintro e w6 ⟨rfl, hk6⟩
            have HK6 := Lib.hid (HK5.out.trans' hk6)
            clear hk6
            go_wp2_with fail
            refine (HMK.out w6 HK6.out).mono ?_; rintro e w' ⟨rfl, rfl⟩
            go_wp2_with fail
            go_ret
            exact ⟨rfl, HK0.out.trans' (HK4.out.trans' HK6.out)⟩
          · have hF1 : (n.F == 2) = false := by
              have : ¬ n.F = 2 := fun h => HNO.out ⟨⟨by omega, by omega⟩, h, of_decide_eq_true HTR.out⟩
              simpa using this
            have hF2 : (n.F != 2) = true := by rw [bne, hF1]; rfl
            go_wp2_with ((with_reducible show wpList _ _ _ (⟨_, .load 25 (.tmp 5), _, _, _, _⟩ :: _) _ _); refine wpList_load_want (by first | rfl | (simp [Region.wanted, yielded]; done) | (simp [Region.wanted, yielded]; omega)) 25 (.tmp 5) rfl _ rfl _ HL5.out ?_)
            refine (HRR.out w4 (HK0.out.trans' (HK4.out.trans' HK5.out))).mono ?_; rintro e w6 ⟨rfl, hk6⟩
            have HK6 := Lib.hid (HK5.out.trans' hk6)
            have c0 := HC0.out w6 (HK4.out.trans' HK6.out)
            clear hk6
            generalize n.F = f at *
            go_wp2_with fail
            refine (HMK.out w6 HK6.out).mono ?_; rintro e w' ⟨rfl, rfl⟩
            go_wp2_with fail
            go_ret
            exact ⟨rfl, HK0.out.trans' (HK4.out.trans' HK6.out)⟩
    · have HYES := Lib.hid hyes
      have hok : Lay2P i n := by rcases hyes with h | h <;> exact h.2.1
      have HOK := Lib.hid hok
      obtain rfl : tR = true := by rw [← HTR.out]; exact decide_eq_true hok.2.2
      have HYE : Hid ((r = 7 ∧ (freeL X).length < needF n ∧ qs = []) ∨ (r = 0 ∧ needF n ≤ (freeL X).length ∧ qs = lay2Ps X i.toNat n ((freeL X).take (needF n)))) := by
        rcases hyes with ⟨h1, _, h2, h3⟩ | ⟨h1, _, h2, h3⟩
        · exact .inl ⟨h1, h2, h3⟩
        · exact .inr ⟨h1, h2, h3⟩
      have hF : n.F = 2 := hok.2.1
      have hi := hok.1
      have hnle := needF_le hok.2.2
      have HALL : Hid (needF n ≤ (freeL X).length → IsLaidP (putAll X (lay2Ps X i.toNat n ((freeL X).take (needF n)))) (rowL (putAll X (lay2Ps X i.toNat n ((freeL X).take (needF n)))) (824 + 8 * i.toNat)) n ((freeL X).take (needF n)) ∧ In64 (putAll X (lay2Ps X i.toNat n ((freeL X).take (needF n)))) ∧
          (∀ k, 820 ≤ k → ¬ (824 + 8 * i.toNat ≤ k ∧ k < 824 + 8 * i.toNat + 8) → ¬ (1080 ≤ k ∧ (k - 1080) / 8 ∈ (freeL X).take (needF n)) → (putAll X (lay2Ps X i.toNat n ((freeL X).take (needF n)))).getD k 0 = X.getD k 0)) := fun h => laid2_all HX64.out HXL.out hok h
      have HWRD := Lib.hid (HWORD.out hok.2.2)
      have HNEED := Lib.hid (HNEED.out hok.2.2)
      have HNEED2 := Lib.hid (HNEED2.out hok.2.2)
      have HRP := Lib.hid hok.2.2
      clear hyes hok HR HYES HWORD HTR
      obtain ⟨iN, hiN⟩ := Int.eq_ofNat_of_zero_le hi.1
      subst hiN
      rw [Int.toNat_natCast] at HYE HALL
      have i32 : iN < 32 := by omega
      have i0 : ¬ (iN : Int) < 0 := by omega
      have i1 : ¬ 31 < (iN : Int) := by omega
      have HL5 := Lib.hid (HLI.out w4 (HK4.out.trans' HK5.out))
      clear hi
      go_wp2_with ((with_reducible show wpList _ _ _ (⟨_, .load 25 (.tmp 5), _, _, _, _⟩ :: _) _ _); refine wpList_load_want (by first | rfl | (simp [Region.wanted, yielded]; done) | (simp [Region.wanted, yielded]; omega)) 25 (.tmp 5) rfl _ rfl _ HL5.out ?_)
      refine (HRR.out w4 (HK0.out.trans' (HK4.out.trans' HK5.out))).mono ?_; rintro e w6 ⟨rfl, hk6⟩
      have HK6 := Lib.hid (HK5.out.trans' hk6)
      have c0 := HC0.out w6 (HK4.out.trans' HK6.out)
      rw [hF] at c0
      have HL6 := Lib.hid (HL4.out w6 (HK4.out.trans' HK6.out))
      clear hk6 HK5 HL5 hF HC0 HRR HAW
      go_wp2_with ((with_reducible show wpList _ _ _ (⟨_, .load 31 (.tmp 3), _, _, _, _⟩ :: _) _ _); refine wpList_load_want (by first | rfl | (simp [Region.wanted, yielded]; done) | (simp [Region.wanted, yielded]; omega)) 31 (.tmp 3) rfl _ rfl _ HL6.out ?_)
      clear c0
      refine (HBITS.out w6).mono ?_; rintro e w7 ⟨gb, rfl, hob, hgb, hk7⟩
      have HK7 := Lib.hid (HK6.out.trans' hk7)
      have HFR := Lib.hid (HFREE.out _ _ w7 hob)
      clear hob hk7 hgb HL6 HK6 HFREE HBITS HL4
      go_wp2_with fail
      refine HFR.out.mono ?_; rintro e w8 ⟨vf, gf, rfl, hrf, hgf, hk8⟩
      have HK8 := Lib.hid (HK7.out.trans' hk8)
      have HL8 := Lib.hid (HLI.out w8 (HK4.out.trans' HK8.out))
      have HRF := Lib.hid hrf
      obtain ⟨af, capf, rfl, hcapf, hmaxf, -⟩ := ints_cell hrf
      clear hk8 hrf HFR HK7
      go_wp2_with ((with_reducible show wpList _ _ _ (⟨_, .load 25 (.tmp 5), _, _, _, _⟩ :: _) _ _); refine wpList_load_want (by first | rfl | (simp [Region.wanted, yielded]; done) | (simp [Region.wanted, yielded]; omega)) 25 (.tmp 5) rfl _ rfl _ HL8.out ?_)
      refine (HNEED.out w8 (HK0.out.trans' (HK4.out.trans' HK8.out))).mono ?_; rintro e w8b ⟨rfl, hk8b⟩
      have HK8b := Lib.hid (HK8.out.trans' hk8b)
      have HL8b := Lib.hid (HLI.out w8b (HK4.out.trans' HK8b.out))
      have HRF8b := Lib.hid (HRF.out.keep hk8b (by simp))
      clear hk8b HL8 HNEED
      go_wp2_with ((with_reducible show wpList _ _ _ (⟨_, .load 25 (.tmp 5), _, _, _, _⟩ :: _) _ _); refine wpList_load_want (by first | rfl | (simp [Region.wanted, yielded]; done) | (simp [Region.wanted, yielded]; omega)) 25 (.tmp 5) rfl _ rfl _ HL8b.out ?_)
      refine (HNEED2.out w8b (HK0.out.trans' (HK4.out.trans' HK8b.out))).mono ?_; rintro e w9 ⟨rfl, hk9⟩
      have HK9 := Lib.hid (HK8b.out.trans' hk9)
      have HRF9 := Lib.hid (HRF8b.out.keep hk9 (by simp))
      clear hk9 HK8 HK8b HL8b HRF HRF8b HNEED2
      have HNLE := Lib.hid hnle
      clear hnle
      rcases HYE.out with ⟨rfl, hfew, rfl⟩ | ⟨rfl, hen, hq⟩
      · clear HALL HWRD HSAME HYE HRF9
        generalize (freeL X).length = fl at *
        generalize needF n = nn at *
        have hfi : (fl : Int) < (nn : Int) := by omega
        go_wp2_with fail
        refine (HMK.out w9 HK9.out).mono ?_; rintro e w' ⟨rfl, rfl⟩
        go_wp2_with fail
        go_ret
        exact ⟨rfl, HK0.out.trans' (HK4.out.trans' HK9.out)⟩
      · obtain ⟨hla, hl64, hl0⟩ := HALL.out hen
        rw [← hq] at hla hl64 hl0
        have HOI : Hid (∀ c ∈ (freeL X).take (needF n), c ≠ 0 ∧ c < 256) := own_in
        have HON : Hid ((freeL X).take (needF n)).Nodup := own_nodup
        have HOL := Lib.hid (own_len hen)
        have HRO := Lib.hid (reads_take HRF9.out hen)
        have hnc : needF n ≤ capf := by omega
        have hsu := slice_upto af (freeL X).length capf (needF n) hnc
        have HWS4 : Hid (∀ wx, Keeps [] w4 wx → Calls Tryd.prog 20 #[.pointer (some ⟨b, 0, none⟩)] wx (MadeWords wx (putAll X qs))) := fun wx hk => txWords_at (HS4.out.keep hk (by simp) (by simp))
        have HREAD : Hid (∀ wx, Keeps [] w4 wx → Calls Tryd.prog 29 #[.pointer (some ⟨b, 0, none⟩), .int .i64 ((iN : Nat) : Int)] wx (Read2Post wx (putAll X qs) ((iN : Nat) : Int))) := fun wx hk => read2_at (HS4.out.keep hk (by simp) (by simp)) hl64 _
        have HRDP : Hid (ReadP (putAll X qs) ((iN : Nat) : Int) n ((freeL X).take (needF n))) := read2_laid HB.out HOK.out HOL.out HOI.out (by rw [inoAtX, Int.toNat_natCast]; exact hla)
        have HYL : Hid ((putAll X qs).length = 3128) := by show _ = _; rw [putAll_len, HXL.out]
        have HY0 : Hid (∀ k, 820 ≤ k → ¬ (824 + 8 * iN ≤ k ∧ k < 824 + 8 * iN + 8) → ¬ (1080 ≤ k ∧ (k - 1080) / 8 ∈ (freeL X).take (needF n)) → (putAll X qs).getD k 0 = 0) := fun k h1 h2 h3 => by rw [hl0 k h1 h2 h3, HX0.out k h1]
        have HLA := Lib.hid hla
        clear hla hl64 hl0 hq HALL HYE HS4 HX64 HX0 HXL HMK HRF9
        generalize putAll X qs = Y at *
        generalize hown : (freeL X).take (needF n) = own at *
        clear hown
        generalize (freeL X).length = fl at *
        have hp : 824 + 8 * iN + 8 ≤ 1080 := by omega
        have hs8 : 824 + 8 * (iN : Int) = ((824 + 8 * iN : Nat) : Int) := by omega
        have hm8 : wrap64 (8 * (iN : Int)) = 8 * (iN : Int) := by unfold wrap64; omega
        have hwp : wrap64 ((824 + 8 * iN : Nat) : Int) = ((824 + 8 * iN : Nat) : Int) := w64_small _ (by omega)
        generalize 824 + 8 * iN = p at *
        have HP8 := Lib.hid hp
        clear hp
        have HND := Lib.hid HOL.out
        generalize hnn : needF n = nn at *
        have HNN := Lib.hid hnn
        have hfi : ¬ (fl : Int) < (nn : Int) := fun h => absurd (Int.ofNat_lt.1 h) (Nat.not_lt.2 hen)
        have HWP := Lib.hid hwp
        have HM8 := Lib.hid hm8
        have HS8 := Lib.hid hs8
        clear hnn hwp hm8 hs8
        go_wp2_with fail
        refine (HWS4.out w9 HK9.out).mono ?_; rintro e w10 ⟨vw, gw, rfl, hrw, hgw, hk10⟩
        have HK10 := Lib.hid (HK9.out.trans' hk10)
        have HRO10 := Lib.hid (HRO.out.keep hk10 (by simp))
        obtain ⟨aw, cw, rfl, hcw, hmw, HWC⟩ := words_cell hrw
        rw [HYL.out] at hcw
        clear hk10 hrw HRO HWS4 hsu HK9 hfi
        rw [HYL.out]
        go_wp2_with fail
        go_loopg [13] 2308 (fun gh s13 wx => ∃ k : Nat, k + gh = 3128 ∧ 820 ≤ k ∧ s13 = .int .i64 (k : Int) ∧ Hid (Keeps [] w10 wx))
        case atStart => exact ⟨820, by omega, by omega, rfl, Keeps.refl _ _⟩
        case round =>
          obtain ⟨k, hk, hk820, rfl, HP⟩ := hrel
          have HKR := Lib.hid (HK10.out.trans' HP.out)
          have HRR := Lib.hid (HRO10.out.keep HP.out (by simp))
          cases gk with
          | zero =>
            obtain rfl : k = 3128 := by omega
            clear hk hk820 HWRD
            go_wp2_with fail
            refine (HREAD.out wr HKR.out).mono ?_
            rintro e w11 ⟨m, vm, gm, ow, va, ga, ok, rfl, hmB, hme, hgm, hra, hga, hk11, hokt, hokf⟩
            cases ok
            · exact absurd HRDP.out ((hokf rfl).2.2 _ _)
            · have hrp := (hokt rfl).1
              obtain ⟨hm, how⟩ := SeemsP.uniq HRDP.out.2.1 hrp.2.1 hrp.2.2.2.1
              obtain rfl := hm.symm
              obtain rfl := how.symm
              have HK11 := Lib.hid (HKR.out.trans' hk11)
              have HRO11 := Lib.hid (HRR.out.keep hk11 (by simp))
              have hzi := zero_ino
              obtain ⟨w12, hst, hb12, hk12⟩ := store_ino (n := n) (v := vm) (Blk.new w11 (inoC inoZ (.slice none 0 0)) 25) rfl HB.out (reads_one hme)
              have HST := Lib.hid hst
              have hk112 : Keeps [] w11 w12 := ((Keeps.refl [] w11).alloc _).trans hk12 (by intro x hx; rw [List.mem_singleton] at hx; omega)
              have HK12 := Lib.hid (HK11.out.trans' hk112)
              have HRO12 := Lib.hid (HRO11.out.keep hk112 (by simp))
              have HRA12 := Lib.hid (hra.keep hk112 (by simp))
              have HL12 := Lib.hid (load_ino hb12 HB.out)
              have HLI12 := Lib.hid (HLI.out w12 (HK4.out.trans' HK12.out))
              have HSM := Lib.hid (HSAME.out vm gm w12 (HK0.out.trans' (HK4.out.trans' HK12.out)) (hme.keep hk112 (by simp)))
              obtain ⟨aa, ca, rfl, hca, hma, HCA⟩ := ints_cellR HRA12.out
              obtain ⟨ao, co, hoe, -, -, HCO⟩ := ints_cellR HRO12.out
              obtain rfl : af = ao := by injection hoe
              have hol := HOL.out
              rw [hol] at hca HCA HCO ⊢
              clear hst hb12 hk12 hk112 hra hme hk11 hokt hokf hrp hm how hoe HREAD HSAME HLI HWC HP HRO11 HRR HRDP HRO12 HRA12 hol
              generalize inoC n vm = ZM at *
              generalize inoC inoZ (.slice none 0 0) = ZZ at *
              go_wp2_with (first | ((with_reducible show wpList _ _ _ (⟨_, .store 25 (.tmp 16) (.tmp 114), _, _, _, _⟩ :: _) _ _); refine wpList_store_any rfl 25 (.tmp 16) (.tmp 114) rfl _ rfl _ rfl _ HST.out ?_) | ((with_reducible show wpList _ _ _ (⟨_, .load 25 (.tmp 16), _, _, _, _⟩ :: _) _ _); refine wpList_load_want (by first | rfl | (simp [Region.wanted, yielded]; done) | (simp [Region.wanted, yielded]; omega)) 25 (.tmp 16) rfl _ rfl _ HL12.out ?_) | ((with_reducible show wpList _ _ _ (⟨_, .load 25 (.tmp 5), _, _, _, _⟩ :: _) _ _); refine wpList_load_want (by first | rfl | (simp [Region.wanted, yielded]; done) | (simp [Region.wanted, yielded]; omega)) 25 (.tmp 5) rfl _ rfl _ HLI12.out ?_))
              refine HSM.out.mono ?_; rintro e w13 ⟨rfl, hk13⟩
              have HK13 := Lib.hid (HK12.out.trans' hk13)
              have HK13b := Lib.hid hk13
              clear hk13 HSM HST HL12 HLI12
              go_wp2_with fail
              go_loopg [19] nn (fun gh s19 wx => ∃ j : Nat, j + gh = nn ∧ s19 = .int .i64 (j : Int) ∧ Hid (Keeps [] w13 wx))
              case atStart => exact ⟨0, by omega, rfl, Keeps.refl _ _⟩
              case round =>
                obtain ⟨j, hj, rfl, HP⟩ := hrel
                cases gk with
                | zero =>
                  obtain rfl : j = nn := by omega
                  clear hj
                  go_wp2_with fail
                  go_ret
                  exact ⟨rfl, HK0.out.trans' (HK4.out.trans' (HK13.out.trans' HP.out))⟩
                | succ g2 =>
                  have hjn : j < nn := by omega
                  have hji : (j : Int) < (nn : Int) := by omega
                  have hj0 : (0 : Int) ≤ (j : Int) := by omega
                  obtain ⟨hg1, off1, rfl, d1⟩ := HCA.out j hjn
                  obtain ⟨hg2, off2, rfl, d2⟩ := HCO.out j hjn
                  have hkx := HK13b.out.trans' HP.out
                  have c1 := (World.cell?_of_block (hkx.block ga hg1 (by simp))).trans d1
                  have c2 := (World.cell?_of_block (hkx.block gf hg2 (by simp))).trans d2
                  clear d1 d2 hkx
                  generalize own.getD j 0 = y at *
                  go_wp2_with fail
                  go_quiet (fail)
                  go_wp2_with fail
                  go_roundg g2
                  case measure => omega
                  case rel =>
                    have hnle := HNLE.out
                    have hj64 : wrap64 ((j : Int) + 1) = ((j + 1 : Nat) : Int) := by unfold wrap64; omega
                    exact ⟨j + 1, by omega, by first | rw [hj64] | simp only [hj64] | go_num, HP.out.drewN _⟩
          | succ gg =>
            have hk3 : (k : Int) < 3128 := by omega
            have hwp := HWP.out
            have hm8 := HM8.out
            have hs8 := HS8.out
            have hk0 : (0 : Int) ≤ (k : Int) := by omega
            have HLR := Lib.hid (HLI.out wr (HK4.out.trans' HKR.out))
            have HWD := Lib.hid (HWRD.out own (.slice af nn capf) gf p k HOL.out HOI.out HON.out HP8.out (by omega) wr (HK0.out.trans' (HK4.out.trans' HKR.out)) HRR.out)
            go_wp2_with ((with_reducible show wpList _ _ _ (⟨_, .load 25 (.tmp 5), _, _, _, _⟩ :: _) _ _); refine wpList_load_want (by first | rfl | (simp [Region.wanted, yielded]; done) | (simp [Region.wanted, yielded]; omega)) 25 (.tmp 5) rfl _ rfl _ HLR.out ?_)
            refine HWD.out.mono ?_; rintro e w11 ⟨x, ok, rfl, hwant, hk11⟩
            obtain ⟨hxy, hx0⟩ := want2_laid HLA.out (HY0.out k hk820) hwant
            have HK11 := Lib.hid (HP.out.trans' hk11)
            obtain ⟨hgl, offw, rfl, hcc⟩ := HWC.out k (by rw [HYL.out]; omega)
            have cw1 : w11.cell? ⟨gw, offw + k, none⟩ = some (.int .u64 x) := by rw [World.cell?_of_block (HK11.out.block gw hgl (by simp)), hcc, hxy]
            have hxx : (x != x) = false := by simp
            clear hwant hk11 hcc hxy HLR HWD HWRD HREAD HSAME HWC hs8 hm8 hwp
            cases ok
            · obtain rfl := hx0 rfl
              go_wp2_with fail
              go_roundg gg
              case measure => omega
              case rel => exact ⟨k + 1, by omega, by omega, by go_num, HK11.out⟩
            · go_wp2_with fail
              go_roundg gg
              case measure => omega
              case rel => exact ⟨k + 1, by omega, by omega, by go_num, HK11.out⟩

end Go.Proofs.YtmhcnkjmnbnldaaDoor

namespace Go.Proofs.YtmhcnkjmnbnldaaDoor
open Go.ChangeShapes Go.WideShapes Go.ChangeAt Go.RowKit

section
variable {H : Type} {enc : TypeId × Value → H} {W : World} {base : Nat} {spare : Nat → Bool} {held : Bool}

/-- The number in a cell. -/
def intV : Option Value → Int
  | some (.int _ z) => z
  | _ => 0

set_option maxRecDepth 100000 in
theorem open_n13 {fuel : Nat} {cs : List Value} {x : DataW H × List MemPlace} (h : DataW.trod enc Tryd.prog W base spare held fuel 22 cs = some x) : ∃ l : List Int, cs = zs l ∧ l.length = 13 := by
  obtain ⟨xs, m, -, -, hl, hlen, hf⟩ := DataW.trod_array Tryd.underlying22 h
  rw [show Tryd.prog.cellsOf 22 = 13 by kernel_rfl] at hl
  have hone : ∀ i, i < 13 → ∃ z : Int, cs[i]? = some (.int .i64 z) := fun i hi => by
    have h1 := hf i hi
    rw [show Tryd.prog.cellsOf 3 = 1 by kernel_rfl, Nat.mul_one, List.getElem?_eq_getElem (by omega : i < xs.length)] at h1
    obtain ⟨z, e, -, -⟩ := DataW.trod_int Tryd.underlying3 h1
    refine ⟨z, ?_⟩
    have h2 := congrArg (fun l => l[0]?) e
    simpa using h2
  refine ⟨(List.range 13).map fun i => intV cs[i]?, ?_, by simp⟩
  apply List.ext_getElem?
  intro i
  by_cases hi : i < 13
  · obtain ⟨z, hz⟩ := hone i hi
    have h2 : (zs ((List.range 13).map fun i => intV cs[i]?))[i]? = some (.int .i64 (intV cs[i]?)) := by simp [zs, hi]
    rw [h2, hz]
    rfl
  · rw [List.getElem?_eq_none (by omega), List.getElem?_eq_none (by simp [zs]; omega)]


set_option maxRecDepth 100000 in
theorem open_n13' {b0 : Nat} {v : Value} {d : DataW H} {p : List MemPlace} (hval : Value.okWide Tryd.prog W .any b0 22 v)
    (h : DataW.Trod enc Tryd.prog W base spare held 22 v d p) : ∃ l : List Int, v = .agg (zs l).toArray ∧ l.length = 13 := by
  obtain ⟨cs, rfl, hsz, _⟩ : ∃ cs, v = .agg cs ∧ cs.size = Tryd.prog.cellsOf 22 ∧ Row.okWide Tryd.prog W .any b0 22 cs := by
    simpa [Value.okWide, Tryd.underlying22] using hval
  obtain ⟨fuel, hf⟩ := h
  obtain ⟨l, e, hl⟩ := open_n13 hf
  refine ⟨l, ?_, hl⟩
  obtain ⟨c⟩ := cs
  simp [Value.cells] at e
  rw [e]

end

end Go.Proofs.YtmhcnkjmnbnldaaDoor

namespace Go.Proofs.YtmhcnkjmnbnldaaDoor
open Go.ChangeShapes Go.WideShapes Go.ChangeAt Go.RowKit

section
variable {H : Type} {enc : TypeId × Value → H} {W : World} {base : Nat} {spare : Nat → Bool} {held : Bool}

set_option maxRecDepth 100000 in
theorem open_entry {fuel : Nat} {cs : List Value} {x : DataW H × List MemPlace} (h : DataW.trod enc Tryd.prog W base spare held fuel 57 cs = some x) :
    ∃ (s : ByteArray) (y : Int), cs = [.string s, .int .i64 y] := by
  obtain ⟨xs, n, -, -, hl, hlen, hf⟩ := DataW.trod_struct Tryd.underlying57 h
  rw [show Tryd.prog.cellsOf 57 = 2 by kernel_rfl] at hl
  match cs, hl with
  | [c0, c1], _ =>
    have f0 : DataW.trod enc Tryd.prog W base spare held n 9 (([c0, c1].drop 0).take (Tryd.prog.cellsOf 9)) = xs[0]? := hf 0 _ rfl
    have f1 : DataW.trod enc Tryd.prog W base spare held n 3 (([c0, c1].drop 1).take (Tryd.prog.cellsOf 3)) = xs[1]? := hf 1 _ rfl
    simp only [show Tryd.prog.cellsOf 9 = 1 by kernel_rfl, show Tryd.prog.cellsOf 3 = 1 by kernel_rfl, List.drop_zero, List.drop_succ_cons, List.take_succ_cons, List.take_zero] at f0 f1
    match xs, hlen with
    | [y0, y1], _ =>
      simp only [List.getElem?_cons_zero, List.getElem?_cons_succ] at f0 f1
      obtain ⟨s, e0, -⟩ := DataW.trod_string Tryd.underlying9 f0
      obtain ⟨n1, e1, -, w1⟩ := DataW.trod_int Tryd.underlying3 f1
      simp only [List.cons.injEq, and_true] at e0 e1
      subst e0 e1
      exact ⟨s, n1, rfl⟩

set_option maxRecDepth 100000 in
theorem open_ents {fuel : Nat} {cs : List Value} {x : DataW H × List MemPlace} (h : DataW.trod enc Tryd.prog W base spare held fuel 23 cs = some x) :
    ∃ v g E, cs = [v] ∧ EReads W v g E := by
  obtain ⟨a, len, cap, rfl, h1, h2, h3⟩ := open_rows (sz := 2) Tryd.underlying23 (by kernel_rfl) (by omega) h
  by_cases h0 : len = 0
  · subst h0
    exact ⟨_, 0, [], rfl, ⟨a, cap, rfl, by simp, h2, fun h => absurd rfl h⟩⟩
  · obtain ⟨g, off, rfl, hg, hx⟩ := h3 h0
    have hex : ∀ i, i < len → ∃ p : ByteArray × Int, W.cell? ⟨g, off + i * 2, none⟩ = some (.string p.1) ∧ W.cell? ⟨g, off + i * 2 + 1, none⟩ = some (.int .i64 p.2) := fun i hi => by
      obtain ⟨cs', y, n, hl, hc, ht⟩ := hx i hi
      obtain ⟨q, z, rfl⟩ := open_entry ht
      exact ⟨(q, z), hc 0 (by omega), hc 1 (by omega)⟩
    obtain ⟨f, hf⟩ : ∃ f : Nat → ByteArray × Int, ∀ i, i < len → W.cell? ⟨g, off + i * 2, none⟩ = some (.string (f i).1) ∧ W.cell? ⟨g, off + i * 2 + 1, none⟩ = some (.int .i64 (f i).2) :=
      ⟨fun i => if h : i < len then Classical.choose (hex i h) else (ByteArray.empty, 0), fun i hi => by simp only [dif_pos hi]; exact Classical.choose_spec (hex i hi)⟩
    refine ⟨_, g, (List.range len).map f, rfl, ⟨_, cap, by simp, by simpa using h1, h2, fun _ => ⟨hg, off, rfl, fun j hj => ?_⟩⟩⟩
    have hj' : j < len := by simpa using hj
    have e1 : enm ((List.range len).map f) j = (f j).1 := by simp [enm, List.getD_eq_getElem?_getD, hj']
    have e2 : eno ((List.range len).map f) j = (f j).2 := by simp [eno, List.getD_eq_getElem?_getD, hj']
    rw [e1, e2]
    exact hf j hj'

set_option maxRecDepth 100000 in
theorem open_ino {b0 : Nat} {v : Value} {d : DataW H} {p : List MemPlace} (hval : Value.okWide Tryd.prog W .any b0 25 v)
    (h : DataW.Trod enc Tryd.prog W base spare held 25 v d p) : ∃ (n : Ino) (u : Value) (g : Nat), v = .agg (inoC n u) ∧ n.B.length = 13 ∧ EReads W u g n.E := by
  obtain ⟨cs, rfl, hsz, _⟩ : ∃ cs, v = .agg cs ∧ cs.size = Tryd.prog.cellsOf 25 ∧ Row.okWide Tryd.prog W .any b0 25 cs := by
    simpa [Value.okWide, Tryd.underlying25] using hval
  rw [show Tryd.prog.cellsOf 25 = 18 by kernel_rfl] at hsz
  obtain ⟨l⟩ := cs
  obtain ⟨fuel, hf⟩ := h
  obtain ⟨xs, n, -, -, hl, hlen, hf⟩ := DataW.trod_struct Tryd.underlying25 hf
  have hlen6 : xs.length = 6 := hlen
  have ci : Tryd.prog.cellsOf 3 = 1 := by kernel_rfl
  have one : ∀ (k : Nat) (hk : k < l.length) (y : DataW H × List MemPlace), DataW.trod enc Tryd.prog W base spare held n 3 ((l.drop k).take (Tryd.prog.cellsOf 3)) = some y → ∃ z : Int, l[k]? = some (.int .i64 z) := fun k hk y hy => by
    rw [ci] at hy
    obtain ⟨z, e, -, -⟩ := DataW.trod_int Tryd.underlying3 hy
    refine ⟨z, ?_⟩
    have h2 := congrArg (fun l => l[0]?) e
    simpa using h2
  have hsz' : l.length = 18 := hsz
  have hsome : ∀ i, i < 6 → ∃ y, xs[i]? = some y := fun i hi => ⟨xs[i], List.getElem?_eq_getElem (by omega)⟩
  obtain ⟨y0, e0⟩ := hsome 0 (by omega)
  obtain ⟨y1, e1⟩ := hsome 1 (by omega)
  obtain ⟨y2, e2⟩ := hsome 2 (by omega)
  obtain ⟨y3, e3⟩ := hsome 3 (by omega)
  obtain ⟨y4, e4⟩ := hsome 4 (by omega)
  obtain ⟨y5, e5⟩ := hsome 5 (by omega)
  have f0 : DataW.trod enc Tryd.prog W base spare held n 3 ((l.drop 0).take (Tryd.prog.cellsOf 3)) = xs[0]? := hf 0 _ rfl
  have f1 : DataW.trod enc Tryd.prog W base spare held n 3 ((l.drop 1).take (Tryd.prog.cellsOf 3)) = xs[1]? := hf 1 _ rfl
  have f2 : DataW.trod enc Tryd.prog W base spare held n 3 ((l.drop 2).take (Tryd.prog.cellsOf 3)) = xs[2]? := hf 2 _ rfl
  have f3 : DataW.trod enc Tryd.prog W base spare held n 3 ((l.drop 3).take (Tryd.prog.cellsOf 3)) = xs[3]? := hf 3 _ rfl
  have f4 : DataW.trod enc Tryd.prog W base spare held n 22 ((l.drop 4).take (Tryd.prog.cellsOf 22)) = xs[4]? := hf 4 _ rfl
  have f5 : DataW.trod enc Tryd.prog W base spare held n 23 ((l.drop 17).take (Tryd.prog.cellsOf 23)) = xs[5]? := hf 5 _ rfl
  rw [e0] at f0
  rw [e1] at f1
  rw [e2] at f2
  rw [e3] at f3
  rw [e4] at f4
  rw [e5] at f5
  obtain ⟨z0, g0⟩ := one 0 (by omega) _ f0
  obtain ⟨z1, g1⟩ := one 1 (by omega) _ f1
  obtain ⟨z2, g2⟩ := one 2 (by omega) _ f2
  obtain ⟨z3, g3⟩ := one 3 (by omega) _ f3
  obtain ⟨B, eB, hB⟩ := open_n13 f4
  obtain ⟨u, g, E, eE, hE⟩ := open_ents f5
  rw [show Tryd.prog.cellsOf 22 = 13 by kernel_rfl] at eB
  rw [show Tryd.prog.cellsOf 23 = 1 by kernel_rfl] at eE
  refine ⟨⟨z0, z1, z2, z3, B, E⟩, u, g, ?_, hB, hE⟩
  have hl4 : l = (l.take 4) ++ ((l.drop 4).take 13 ++ (l.drop 17).take 1) := by
    have h1 : (l.drop 4).take 13 ++ (l.drop 17).take 1 = l.drop 4 := by
      rw [List.take_of_length_le (l := l.drop 17) (by rw [List.length_drop]; omega)]
      have := List.take_append_drop 13 (l.drop 4)
      rwa [List.drop_drop] at this
    rw [h1, List.take_append_drop]
  have ht4 : l.take 4 = [.int .i64 z0, .int .i64 z1, .int .i64 z2, .int .i64 z3] := by
    apply List.ext_getElem?
    intro i
    rcases (show i = 0 ∨ i = 1 ∨ i = 2 ∨ i = 3 ∨ 4 ≤ i by omega) with rfl | rfl | rfl | rfl | hi
    · rw [List.getElem?_take, if_pos (by omega), g0]; rfl
    · rw [List.getElem?_take, if_pos (by omega), g1]; rfl
    · rw [List.getElem?_take, if_pos (by omega), g2]; rfl
    · rw [List.getElem?_take, if_pos (by omega), g3]; rfl
    · rw [List.getElem?_eq_none (by rw [List.length_take]; omega), List.getElem?_eq_none (by simpa using hi)]
  rw [hl4, ht4, eB, eE]
  rfl

set_option maxRecDepth 100000 in
theorem open_pair {fuel : Nat} {cs : List Value} {x : DataW H × List MemPlace} (h : DataW.trod enc Tryd.prog W base spare held fuel 53 cs = some x) :
    ∃ a y : Int, cs = [.int .i64 a, .int .u64 y] ∧ (-9223372036854775808 ≤ a ∧ a ≤ 9223372036854775807) ∧ 0 ≤ y ∧ y ≤ 18446744073709551615 := by
  obtain ⟨xs, n, -, -, hl, hlen, hf⟩ := DataW.trod_struct Tryd.underlying53 h
  rw [show Tryd.prog.cellsOf 53 = 2 by kernel_rfl] at hl
  match cs, hl with
  | [c0, c1], _ =>
    have f0 : DataW.trod enc Tryd.prog W base spare held n 3 (([c0, c1].drop 0).take (Tryd.prog.cellsOf 3)) = xs[0]? := hf 0 _ rfl
    have f1 : DataW.trod enc Tryd.prog W base spare held n 30 (([c0, c1].drop 1).take (Tryd.prog.cellsOf 30)) = xs[1]? := hf 1 _ rfl
    simp only [show Tryd.prog.cellsOf 3 = 1 by kernel_rfl, show Tryd.prog.cellsOf 30 = 1 by kernel_rfl, List.drop_zero, List.drop_succ_cons, List.take_succ_cons, List.take_zero] at f0 f1
    match xs, hlen with
    | [y0, y1], _ =>
      simp only [List.getElem?_cons_zero, List.getElem?_cons_succ] at f0 f1
      obtain ⟨n0, e0, -, w0⟩ := DataW.trod_int Tryd.underlying3 f0
      obtain ⟨n1, e1, -, w1⟩ := DataW.trod_int Tryd.underlying30 f1
      simp only [List.cons.injEq, and_true] at e0 e1
      subst e0 e1
      exact ⟨n0, n1, rfl, bounds_i64 w0, bounds_u64 w1⟩

set_option maxRecDepth 100000 in
theorem open_pairs {fuel : Nat} {cs : List Value} {x : DataW H × List MemPlace} (h : DataW.trod enc Tryd.prog W base spare held fuel 50 cs = some x) :
    ∃ v g ps, cs = [v] ∧ PReads W v g ps ∧ okP ps := by
  obtain ⟨a, len, cap, rfl, h1, h2, h3⟩ := open_rows (sz := 2) Tryd.underlying50 (by kernel_rfl) (by omega) h
  by_cases h0 : len = 0
  · subst h0
    exact ⟨_, 0, [], rfl, ⟨a, cap, rfl, by simp, h2, fun h => absurd rfl h⟩, by intro p hp; simp at hp⟩
  · obtain ⟨g, off, rfl, hg, hx⟩ := h3 h0
    have hex : ∀ i, i < len → ∃ p : Int × Int, ((-9223372036854775808 ≤ p.1 ∧ p.1 ≤ 9223372036854775807) ∧ 0 ≤ p.2 ∧ p.2 ≤ 18446744073709551615) ∧
        W.cell? ⟨g, off + i * 2, none⟩ = some (.int .i64 p.1) ∧ W.cell? ⟨g, off + i * 2 + 1, none⟩ = some (.int .u64 p.2) := fun i hi => by
      obtain ⟨cs', y, n, hl, hc, ht⟩ := hx i hi
      obtain ⟨q, z, rfl, hq, hz⟩ := open_pair ht
      exact ⟨(q, z), ⟨hq, hz⟩, hc 0 (by omega), hc 1 (by omega)⟩
    obtain ⟨f, hf⟩ : ∃ f : Nat → Int × Int, ∀ i, i < len → ((-9223372036854775808 ≤ (f i).1 ∧ (f i).1 ≤ 9223372036854775807) ∧ 0 ≤ (f i).2 ∧ (f i).2 ≤ 18446744073709551615) ∧
        W.cell? ⟨g, off + i * 2, none⟩ = some (.int .i64 (f i).1) ∧ W.cell? ⟨g, off + i * 2 + 1, none⟩ = some (.int .u64 (f i).2) :=
      ⟨fun i => if h : i < len then Classical.choose (hex i h) else (0, 0), fun i hi => by simp only [dif_pos hi]; exact Classical.choose_spec (hex i hi)⟩
    refine ⟨_, g, (List.range len).map f, rfl, ⟨_, cap, by simp, by simpa using h1, h2, fun _ => ⟨hg, off, rfl, fun j hj => ?_⟩⟩, ?_⟩
    · have hj' : j < len := by simpa using hj
      have e1 : patN ((List.range len).map f) j = (f j).1 := by simp [patN, List.getD_eq_getElem?_getD, hj']
      have e2 : pwdN ((List.range len).map f) j = (f j).2 := by simp [pwdN, List.getD_eq_getElem?_getD, hj']
      rw [e1, e2]
      exact (hf j hj').2
    · intro p hp
      simp only [List.mem_map, List.mem_range] at hp
      obtain ⟨i, hi, rfl⟩ := hp
      exact (hf i hi).1
end

end Go.Proofs.YtmhcnkjmnbnldaaDoor

namespace Go.Proofs.YtmhcnkjmnbnldaaDoor
open Go.ChangeShapes Go.WideShapes Go.ChangeAt Go.WideMaps Go.WideElems Go.RowKit

theorem Tryd.gTab : Tryd.prog.globalNamed "math/bits.deBruijn64tab" = some 0 := by kernel_rfl
theorem Tryd.tTab : (Tryd.prog.globals[0]?).map (·.type) = some 134 := by kernel_rfl
theorem Tryd.cells_u8 : Tryd.prog.cellsOf 5 = 1 := by kernel_rfl
theorem Tryd.cells_u64 : Tryd.prog.cellsOf 30 = 1 := by kernel_rfl
theorem Tryd.cells_w4 : Tryd.prog.cellsOf 31 = 4 := by kernel_rfl

theorem tabList {H : Type} : Rows.laid_math_bits_deBruijn64tab (H := H) = .agg (Lib.deBruijn64tab.map fun n : Nat => .lit (.int .u8 (n : Int))) := rfl

/-- What the condition gives the walks. -/
theorem tab_of_laid {W : World} (h : laidMetH Tryd.prog [("math/bits.deBruijn64tab", Rows.laid_math_bits_deBruijn64tab)] W) : TabAt W := by
  rw [MakeChecks.laidMetH_plain _ _ _ (by kernel_rfl)] at h
  obtain ⟨ps, ⟨g0, t0, cs0, f0, p0, q0, hg0, ht0, hv0, hd0, _, _⟩, _, _⟩ := h
  obtain rfl := Option.some.inj (Tryd.gTab.symm.trans hg0)
  obtain rfl := Option.some.inj (Tryd.tTab.symm.trans ht0)
  obtain ⟨xs, m, rfl, hx, hlen, hn, hel⟩ := DataW.trod_array Tryd.underlying134 hd0
  rw [tabList] at hx
  simp only [Prod.mk.injEq, DataW.agg.injEq] at hx
  intro j hj
  have hj' := hel j hj
  rw [Tryd.cells_u8, Nat.mul_one] at hj'
  cases hxj : xs[j]? with
  | none => rw [List.getElem?_eq_none_iff] at hxj; omega
  | some y =>
    rw [hxj] at hj'
    have hlen' : ((cs0.toList.drop j).take 1).length = 1 := by
      rw [List.length_take, List.length_drop]
      have h64 : Tryd.prog.cellsOf 134 = 64 := by kernel_rfl
      rw [h64] at hlen
      omega
    obtain ⟨c, hc⟩ : ∃ c, (cs0.toList.drop j).take 1 = [c] := by
      match (cs0.toList.drop j).take 1, hlen' with
      | [c], _ => exact ⟨c, rfl⟩
    rw [hc] at hj'
    obtain ⟨k, e1, e2, _⟩ := DataW.trod_int Tryd.underlying5 hj'
    have hk : (xs.map (·.1))[j]? = some (.lit (.int .u8 k)) := by rw [List.getElem?_map, hxj, e2]; rfl
    rw [← hx.1, List.getElem?_map] at hk
    have hjl : j < Lib.deBruijn64tab.length := hj
    rw [List.getElem?_eq_getElem hjl] at hk
    have hk2 : k = ((Lib.deBruijn64tab.getD j 0 : Nat) : Int) := by
      have : ((Lib.deBruijn64tab[j] : Nat) : Int) = k := by simpa using hk
      rw [← this, List.getD_eq_getElem?_getD, List.getElem?_eq_getElem hjl]
      rfl
    have hcell := World.var?_cell hg0 hv0 j
    rw [hcell, ← hk2]
    have h3 : ((cs0.toList.drop j).take 1)[0]? = some c := by rw [hc]; rfl
    rw [List.getElem?_take, if_pos (by omega), List.getElem?_drop, Nat.add_zero, Array.getElem?_toList] at h3
    rw [h3]
    simp only [List.cons.injEq, and_true] at e1
    rw [e1]

set_option maxRecDepth 100000 in
/-- The start meets the condition. -/
theorem door_met (os : Os) (args : Array Value) : laidMetH Tryd.prog [("math/bits.deBruijn64tab", Rows.laid_math_bits_deBruijn64tab)] ((World.doorLaid Tryd.prog 400 os).forCall (fun _ _ => 0) ⟨#[], args, []⟩).memory :=
  laidMetH_of_parts3 (fuel := 8) (laidMet_of_run' 8 (by kernel_rfl) (by kernel_rfl)) (by kernel_rfl) (by kernel_rfl)

set_option maxRecDepth 100000 in
/-- An array of four words, as it was read. -/
theorem open_w4 {H : Type} {enc : TypeId × Value → H} {W : World} {base b0 : Nat} {spare : Nat → Bool} {held : Bool} {v : Value} {d : DataW H} {p : List MemPlace} (hval : Value.okWide Tryd.prog W .any b0 31 v)
    (h : DataW.Trod enc Tryd.prog W base spare held 31 v d p) : ∃ ws : List Nat, v = .agg (w4 ws) ∧ ∀ i, ws.getD i 0 < 18446744073709551616 := by
  obtain ⟨cs, rfl, hsz, _⟩ : ∃ cs, v = .agg cs ∧ cs.size = Tryd.prog.cellsOf 31 ∧ Row.okWide Tryd.prog W .any b0 31 cs := by
    simpa [Value.okWide, Tryd.underlying31] using hval
  rw [Tryd.cells_w4] at hsz
  obtain ⟨l⟩ := cs
  obtain ⟨c0, c1, c2, c3, rfl⟩ : ∃ c0 c1 c2 c3, l = [c0, c1, c2, c3] := by
    match l, hsz with
    | [a, b, c, d], _ => exact ⟨a, b, c, d, rfl⟩
  obtain ⟨fuel, hf⟩ := h
  obtain ⟨y0, y1, y2, y3, m, hx, hy0, hy1, hy2, hy3⟩ := trod_array4 Tryd.underlying31 Tryd.cells_u64 hf
  obtain ⟨x0, e0, -, w0⟩ := DataW.trod_int Tryd.underlying30 hy0
  obtain ⟨x1, e1, -, w1⟩ := DataW.trod_int Tryd.underlying30 hy1
  obtain ⟨x2, e2, -, w2⟩ := DataW.trod_int Tryd.underlying30 hy2
  obtain ⟨x3, e3, -, w3⟩ := DataW.trod_int Tryd.underlying30 hy3
  simp only [List.cons.injEq, and_true] at e0 e1 e2 e3
  subst e0 e1 e2 e3
  have b0 := bounds_u64 w0
  have b1 := bounds_u64 w1
  have b2 := bounds_u64 w2
  have b3 := bounds_u64 w3
  obtain ⟨n0, rfl⟩ := Int.eq_ofNat_of_zero_le b0.1
  obtain ⟨n1, rfl⟩ := Int.eq_ofNat_of_zero_le b1.1
  obtain ⟨n2, rfl⟩ := Int.eq_ofNat_of_zero_le b2.1
  obtain ⟨n3, rfl⟩ := Int.eq_ofNat_of_zero_le b3.1
  refine ⟨[n0, n1, n2, n3], rfl, fun i => ?_⟩
  rcases (show i = 0 ∨ i = 1 ∨ i = 2 ∨ i = 3 ∨ 4 ≤ i by omega) with rfl | rfl | rfl | rfl | hi
  · show n0 < _; omega
  · show n1 < _; omega
  · show n2 < _; omega
  · show n3 < _; omega
  · rw [List.getD_eq_getElem?_getD, List.getElem?_eq_none (by simpa using hi)]
    simp

end Go.Proofs.YtmhcnkjmnbnldaaDoor

namespace Go.Proofs.YtmhcnkjmnbnldaaDoor
open Go.RowKit

set_option maxRecDepth 100000 in
set_option maxHeartbeats 8000000 in
theorem f2Reads_at (n : Ino) (v : Value) (g : Nat) (hB : n.B.length = 13) (vb : Value) (gb : Nat) (ps : List (Int × Int)) (w : World) (hE : EReads w v g n.E) (hP : PReads w vb gb ps) (hok : okP ps) (hT : TabAt w) :
    Calls Tryd.prog 7 #[.agg (inoC n v), vb] w fun e w' => e = .returned (.bool true) ∧ Keeps [] w w' := by
  obtain ⟨ab, cb, rfl, hcb, hmb⟩ := hP.val
  have HB := Lib.hid hB
  have HPO := Lib.hid hok
  have HLI0 : Hid (∀ wx, Blk wx w.heap.size (inoC n v) 25 → (loadVar 25 ⟨w.heap.size, 0, none⟩).run Tryd.prog wx = .ok (.agg (inoC n v)) wx) := fun wx hb => load_ino hb hB
  have HAW := Lib.hid (fun wx => f2Awake_at wx)
  have HFEW : Hid (∀ wx, Keeps [] w wx → Calls Tryd.prog 9 #[.agg (inoC n v)] wx (FewPost wx n)) := fun wx hk => refFew_at n v g hB wx (hE.keep hk (by simp))
  have HSH := Lib.hid (fun wx => sheet6_at [] wx)
  have HLAY : Hid ((∀ k, k < n.E.length → (enm n.E k).size ≤ 9223372036854775807) → ∀ wx b, Keeps [] w wx → w.heap.size ≤ b → ShAt wx b b (laidX [] 4 1080) [] → Calls Tryd.prog 25 #[.pointer (some ⟨b, 0, none⟩), .int .i64 3, .agg (inoC n v)] wx (Lay2Post wx b b (laidX [] 4 1080) [] 3 n)) := fun h wx b hk hb hs =>
    lay2_any hs (laidX_64 [] nil_64) (hT.keep hk) hs.raw.lt (by simp) 3 n v g hB (hE.keep hk (by simp)) h (fun h0 => by
      have := hE.apart (l := [b]) (fun x hx => by rw [List.mem_singleton] at hx; omega) h0
      rw [List.mem_singleton] at this
      exact ⟨this, this⟩)
  have HPR : Hid (∀ wx, Keeps [] w wx → PReads wx (.slice ab ps.length cb) gb ps) := fun wx hk => hP.keep hk (by simp)
  obtain ⟨Z, hZ⟩ : ∃ Z, inoC n v = Z := ⟨_, rfl⟩
  rw [hZ] at HLI0 HFEW HLAY ⊢
  have hbi := Blk.new w Z 25
  have HK0 : Hid (Keeps [] w (w.alloc (.cells Z 25))) := (Keeps.refl [] w).alloc _
  have HLI : Hid (∀ wx, Keeps [] (w.alloc (.cells Z 25)) wx → (loadVar 25 ⟨w.heap.size, 0, none⟩).run Tryd.prog wx = .ok (.agg Z) wx) := fun wx hk => HLI0.out wx (hbi.keep hk (by simp))
  have HZ0 : Hid ((w.alloc (.cells Z 25)).heap.size = w.heap.size + 1) := by show _ = _; simp
  have hb4 := build_w4
  unfold maxLen at hmb
  clear hbi hB hE hT hok hP HLI0 hZ
  generalize hmg : ps.length = mp at *
  have HMP := Lib.hid hmg
  clear hmg
  go_enter Tryd.func7, Tryd.ntmps7
  go_wp2_with fail
  refine (HAW.out _).mono ?_; rintro e w1 ⟨rfl, hk1⟩
  have HK1 := Lib.hid hk1
  have HL1 := Lib.hid (HLI.out w1 hk1)
  clear hk1
  go_wp2_with ((with_reducible show wpList _ _ _ (⟨_, .load 25 (.tmp 2), _, _, _, _⟩ :: _) _ _); refine wpList_load_want (by first | rfl | simp [Region.wanted, yielded]) 25 (.tmp 2) rfl _ rfl _ HL1.out ?_)
  refine (HFEW.out w1 (HK0.out.trans' HK1.out)).mono ?_; rintro e w2 ⟨⟨fb, rfl, hfb⟩, hk2⟩
  have HK2 := Lib.hid (HK1.out.trans' hk2)
  have HFB := Lib.hid hfb
  clear hk2 hfb HK1 HL1 HFEW
  have HAW2 := Lib.hid (HAW.out w2)
  cases fb
  · clear HLAY HSH HPR
    go_wp2_with fail
    refine HAW2.out.mono ?_; rintro e w3 ⟨rfl, hk3⟩
    have HK3 := Lib.hid (HK0.out.trans' (HK2.out.trans' hk3))
    clear hk3
    go_wp2_with fail
    go_ret
    exact ⟨rfl, HK3.out⟩
  · by_cases h6 : 6 < mp
    · have h6i : (6 : Int) < (mp : Int) := by omega
      clear HLAY HSH HPR
      go_wp2_with fail
      refine HAW2.out.mono ?_; rintro e w3 ⟨rfl, hk3⟩
      have HK3 := Lib.hid (HK0.out.trans' (HK2.out.trans' hk3))
      clear hk3
      go_wp2_with fail
      go_ret
      exact ⟨rfl, HK3.out⟩
    · have h6i : ¬ (6 : Int) < (mp : Int) := by omega
      have hfb := HFB.out rfl
      have HNS : Hid (∀ k, k < n.E.length → (enm n.E k).size ≤ 9223372036854775807) := fun k hk => by have := hfb.2 k hk; omega
      have HLAY := Lib.hid (HLAY.out HNS.out)
      clear hfb HFB HNS HAW2 HAW
      go_wp2_with fail
      refine (HSH.out w2).mono ?_; rintro e w3 ⟨b, rfl, hb3, hs3, hk3⟩
      have HK3 := Lib.hid (HK2.out.trans' hk3)
      have HL3 := Lib.hid (HLI.out w3 HK3.out)
      have hbw : (w.alloc (.cells Z 25)).heap.size ≤ b := Nat.le_trans HK2.out.size hb3
      have hbw2 : w.heap.size ≤ b := by rw [HZ0.out] at hbw; omega
      have HLY := Lib.hid (HLAY.out w3 b (HK0.out.trans' HK3.out) hbw2 hs3)
      have hb3l := hs3.raw.lt
      clear hk3 hs3 hb3 HLAY HSH HK2 hb4
      go_wp2_with ((with_reducible show wpList _ _ _ (⟨_, .load 25 (.tmp 2), _, _, _, _⟩ :: _) _ _); refine wpList_load_want (by first | rfl | simp [Region.wanted, yielded]) 25 (.tmp 2) rfl _ rfl _ HL3.out ?_)
      refine HLY.out.mono ?_; rintro e w4 ⟨r, qs, gp, rfl, hgp, hs4, hk4, hql, hr⟩
      have hz4 := hk4.size
      have HSM : Hid (ShMid (w.alloc (.cells Z 25)) b (laidX [] 4 1080) 0 w4) := by
        refine ⟨gp, qs, by rw [List.nil_append] at hs4; exact hs4, by omega, by omega, ?_, by omega, HK3.out.trans hk4 (by intro x hx; simp only [List.mem_cons, List.not_mem_nil, or_false] at hx; omega)⟩
        rcases hr with ⟨_, _, rfl⟩ | ⟨_, _, _, rfl⟩ | ⟨_, ho, hen, rfl⟩
        · exact laidX_64 [] nil_64
        · exact laidX_64 [] nil_64
        · exact (laid2_all (laidX_64 [] nil_64) (laidX_len _ _ _) ho hen).2.1
      have HXL := Lib.hid (laidX_len [] 4 1080)
      have HBW : Hid ((w.alloc (.cells Z 25)).heap.size ≤ b) := hbw
      generalize laidX [] 4 1080 = X at *
      clear hs4 hk4 hgp hr HLY HL3 HK3 hbw hbw2 hql hz4 hb3l HB
      go_wp2_with fail
      go_loopg [6] mp (fun gh s6 wx => ∃ k : Nat, k + gh = mp ∧ s6 = .int .i64 (k : Int) ∧ Hid (ShMid (w.alloc (.cells Z 25)) b X k wx))
      case atStart => exact ⟨0, by omega, rfl, HSM.out⟩
      case round =>
        clear HSM
        obtain ⟨k, hk, rfl, HM⟩ := hrel
        cases gk with
        | succ gg =>
          have hkm : k < mp := by omega
          have hki : (k : Int) < (mp : Int) := by omega
          have hk0 : (0 : Int) ≤ (k : Int) := by omega
          obtain ⟨gp2, qs2, hs, hgl, hgw, h64, hl, hkk⟩ := HM.out
          obtain ⟨hgb, offb, rfl, d1, d2⟩ := (HPR.out wr (HK0.out.trans' hkk)).get (j := k) (by rw [HMP.out]; exact hkm)
          have HC : Hid (∀ wx, Keeps [] wr wx → wx.cell? ⟨gb, offb + k * 2, none⟩ = some (.int .i64 (patN ps k)) ∧ wx.cell? ⟨gb, offb + k * 2 + 1, none⟩ = some (.int .u64 (pwdN ps k))) := fun wx hk' =>
            ⟨(World.cell?_of_block (hk'.block gb hgb (by simp))).trans d1, (World.cell?_of_block (hk'.block gb hgb (by simp))).trans d2⟩
          obtain ⟨z, hz, ⟨b1, b2⟩, b3, b4, b5, b6⟩ := bend_at (patN ps k)
          have hpw := (okP_get HPO.out (k := k) (by rw [HMP.out]; exact hkm)).2
          have HPUT : Hid (∀ wx, Keeps [] wr wx → Calls Tryd.prog 23 #[.pointer (some ⟨b, 0, none⟩), .int .i64 ((848 + z : Nat) : Int), .int .u64 (pwdN ps k)] wx fun e w' => e = .returned (.tuple #[]) ∧ Hid (ShMid (w.alloc (.cells Z 25)) b X (k + 1) w')) := fun wx hk' => by
            have h1 := txPut_at (hs.keep hk' (by simp) (by simp)) (by omega) ((848 + z : Nat) : Int) (pwdN ps k)
            refine h1.mono ?_
            rintro e w' ⟨he, gp3, hg3, hs3, hk3⟩
            have hz1 := hk'.size
            have hz2 := hk3.size
            have hbw := HBW.out
            have hz0 := hkk.size
            rw [putN, if_pos (by rw [inB_iff]; omega)] at hs3
            refine ⟨he, gp3, _, hs3, by omega, by omega, ?_, by rw [List.length_append, List.length_singleton]; omega, (hkk.trans' hk').trans hk3 (by intro x hx; simp only [List.mem_cons, List.not_mem_nil, or_false] at hx; omega)⟩
            rw [putAll_append]
            exact h64.put (by intro p hp; rw [List.mem_singleton] at hp; subst hp; exact ⟨hpw.1, by show pwdN ps k < _; omega⟩)
          clear HM hs h64 d1 d2 HPO hpw hkk
          generalize patN ps k = x at *
          generalize pwdN ps k = y at *
          generalize 848 + z = q at *
          go_wp2_with fail
          refine wp_region_last (l := [_, _, _, _, _, _, _, _, _, _, _, _, _, _, _]) (o := _) (S := fun wx => Keeps [] wr wx) (by kernel_rfl) rfl (by kernel_rfl) (fun d _ _ _ _ h => by cases d <;> exact h) ((Keeps.refl _ _).drew) (by kernel_rfl) (by kernel_rfl) ?_
          repeat (first
            | ((with_reducible show EachList _ _ _ _ (⟨some 49, _, _, _, _, _⟩ :: _) _); refine EachList.cons (.int .i64 x) (EachIf.val rfl ?h) ?_; (case h => (intro wx hx; have hcq := (HC.out wx hx).1; clear hx; go_simp; done)); simp only [Act.put, List.setIfInBounds_toArray, List.set_cons_zero, List.set_cons_succ])
            | ((with_reducible show EachList _ _ _ _ (⟨some 58, _, _, _, _, _⟩ :: _) _); refine EachList.cons (.int .u64 y) (EachIf.val rfl ?h) ?_; (case h => (intro wx hx; have hcq := (HC.out wx hx).2; clear hx; go_simp; done)); simp only [Act.put, List.setIfInBounds_toArray, List.set_cons_zero, List.set_cons_succ])
            | ((with_reducible show EachList _ _ _ _ (⟨some 50, _, _, _, _, _⟩ :: _) _); refine EachList.cons (.int .i64 (x.tmod 300)) (EachIf.val rfl ?h) ?_; (case h => (intro wx hx; clear hx; first | (go_simp; done) | (go_simp; simp [b1]; done))); simp only [Act.put, List.setIfInBounds_toArray, List.set_cons_zero, List.set_cons_succ])
            | ((with_reducible show EachList _ _ _ _ (⟨some 51, _, _, _, _, _⟩ :: _) _); refine EachList.cons (.int .i64 (x.tmod 300 + 300)) (EachIf.val rfl ?h) ?_; (case h => (intro wx hx; clear hx; first | (go_simp; done) | (go_simp; simp [b2]; done))); simp only [Act.put, List.setIfInBounds_toArray, List.set_cons_zero, List.set_cons_succ])
            | ((with_reducible show EachList _ _ _ _ (⟨some 52, _, _, _, _, _⟩ :: _) _); refine EachList.cons (.int .i64 (z : Int)) (EachIf.val rfl ?h) ?_; (case h => (intro wx hx; clear hx; first | (go_simp; done) | (go_simp; simp [b3, b4]; done))); simp only [Act.put, List.setIfInBounds_toArray, List.set_cons_zero, List.set_cons_succ])
            | ((with_reducible show EachList _ _ _ _ (⟨some 53, _, _, _, _, _⟩ :: _) _); refine EachList.cons (.int .i64 (q : Int)) (EachIf.val rfl ?h) ?_; (case h => (intro wx hx; clear hx; first | (go_simp; done) | (go_simp; simp [b5, b6]; done))); simp only [Act.put, List.setIfInBounds_toArray, List.set_cons_zero, List.set_cons_succ])
            | (refine EachList.cons ?_ (EachIf.val rfl ?h) ?_; (case h => (intro wx hx; clear hx; go_simp; rfl)); simp only [Act.put, List.setIfInBounds_toArray, List.set_cons_zero, List.set_cons_succ]))
          refine EachList.done fun wx hx => ?_
          have HKX := Lib.hid hx
          clear hx
          go_wp2_with fail
          refine (HPUT.out wx HKX.out).mono ?_; rintro e w' ⟨rfl, HM2⟩
          go_wp2_with fail
          go_roundg gg
          case measure => omega
          case rel => exact ⟨k + 1, by omega, by go_num, HM2.out⟩
        | zero =>
          obtain rfl : k = mp := by omega
          obtain ⟨gp2, qs2, hs, hgl, hgw, h64, hl, hkk⟩ := HM.out
          have HKR := Lib.hid hkk
          have HRD := Lib.hid (read2_at hs h64 3)
          have HWDS : Hid (∀ wx, Keeps [] wr wx → Calls Tryd.prog 20 #[.pointer (some ⟨b, 0, none⟩)] wx (MadeWords wx (putAll X qs2))) := fun wx hk => txWords_at (hs.keep hk (by simp) (by simp))
          have HYL : Hid ((putAll X qs2).length = 3128) := by show _ = _; rw [putAll_len, HXL.out]
          have H64 := Lib.hid h64
          clear HM hs h64 hgl hgw hl hkk hk HPR HPO HXL HBW HLI h6 h6i HMP
          generalize putAll X qs2 = Y at *
          have hzi := zero_ino
          go_wp2_with fail
          refine HRD.out.mono ?_
          rintro e w5 ⟨m, vm, gm, ow, va, ga, ok, rfl, hmB, hme, hgm, hra, hga, hk5, hokt, hokf⟩
          have HK5 := Lib.hid (HKR.out.trans' hk5)
          have HK5r := Lib.hid hk5
          obtain ⟨w6, hst, hb6, hk6⟩ := store_ino (n := m) (v := vm) (Blk.new w5 (inoC inoZ (.slice none 0 0)) 25) rfl hmB (reads_one hme)
          have HST := Lib.hid hst
          have hk56 : Keeps [] w5 w6 := ((Keeps.refl [] w5).alloc _).trans hk6 (by intro x hx; rw [List.mem_singleton] at hx; omega)
          have HK6 := Lib.hid (HK5.out.trans' hk56)
          have HK6r := Lib.hid (HK5r.out.trans' hk56)
          have HRA := Lib.hid (hra.keep hk56 (by simp))
          have HME := Lib.hid (hme.keep hk56 (by simp))
          have HB6 := Lib.hid hb6
          have HMB := Lib.hid hmB
          have HF0 : Hid (∀ wx, Keeps [] w6 wx → wx.cell? ⟨w5.heap.size, 0, none⟩ = some (.int .i64 m.F)) := fun wx hk => by rw [(hb6.keep hk (by simp)).cell]; exact (inoAt vm hmB).f0
          have HLM : Hid (∀ wx, Keeps [] w6 wx → (loadVar 25 ⟨w5.heap.size, 0, none⟩).run Tryd.prog wx = .ok (.agg (inoC m vm)) wx) := fun wx hk => load_ino (hb6.keep hk (by simp)) hmB
          have HRAR := Lib.hid (hra.keep hk56 (by simp))
          obtain ⟨aa, ca, rfl, hca, hma, HCA⟩ := ints_cellR HRA.out
          have HKF : Hid (∀ wx, Keeps [] w6 wx → Keeps [] w wx) := fun wx hk => HK0.out.trans' (HK6.out.trans' hk)
          clear hst hb6 hk6 hk56 hra hme hk5 HRD hmB hgm hga HK5 HK5r
          unfold maxLen at hma
          generalize inoC inoZ (.slice none 0 0) = ZZ at *
          cases ok
          · obtain ⟨hm, how, -⟩ := hokf rfl
            have c0 := HF0.out w6 (Keeps.refl _ _)
            have hmF : m.F = 0 := by rw [hm]; rfl
            have hol : ow.length = 0 := by rw [how]; rfl
            rw [hmF] at c0
            rw [hol] at hca HCA HRAR ⊢
            clear hokt hokf hm how HLM HCA HRA HME HWDS
            generalize inoC m vm = ZM at *
            go_wp2_with ((with_reducible show wpList _ _ _ (⟨_, .store 25 (.tmp 7) (.tmp 63), _, _, _, _⟩ :: _) _ _); refine wpList_store_any rfl 25 (.tmp 7) (.tmp 63) rfl _ rfl _ rfl _ HST.out ?_)
            go_ret
            exact ⟨rfl, HKF.out w6 (Keeps.refl _ _)⟩
          · obtain ⟨hrp, -, hnum, -, -⟩ := hokt rfl
            have hnd := read2_nodup hrp
            obtain ⟨-, -, hF, hR, hlen, hla⟩ := hrp
            have hx : inoAtX Y 3 = rowL Y 848 := rfl
            rw [hx] at hla
            have hmem : ∀ c ∈ ow, c ≠ 0 ∧ c < 256 := fun c hc => by have := hnum c hc; omega
            have HNEED : Hid (∀ wx, Keeps [] w6 wx → Calls Tryd.prog 26 #[.agg (inoC m vm)] wx fun e w' => e = .returned (.int .i64 ((needF m : Nat) : Int)) ∧ Keeps [] wx w') := fun wx hk => refNeed2_at m vm gm HMB.out hR wx (HME.out.keep hk (by simp))
            have HRR : Hid (∀ wx, Keeps [] w6 wx → Calls Tryd.prog 15 #[.agg (inoC m vm)] wx fun e w' => e = .returned (.bool true) ∧ Keeps [] wx w') := fun wx hk => by
              have := refRight_at m vm gm HMB.out wx (HME.out.keep hk (by simp)) (names_small hR)
              rwa [decide_eq_true hR] at this
            have HWORD : Hid (∀ k, k < 3128 → ∀ wx, Keeps [] w6 wx → Calls Tryd.prog 28 #[.agg (inoC m vm), .int .i64 848, .slice aa ow.length ca, .int .i64 ((k : Nat) : Int)] wx (Want2Post wx m ow 848 k)) := fun k hk wx hkk =>
              refWord2_at m vm gm ow (.slice aa ow.length ca) ga 848 k HMB.out hR hlen hmem hnd (by omega) hk wx (HME.out.keep hkk (by simp)) (HRAR.out.keep hkk (by simp))
            have HLA := Lib.hid hla
            have HND := Lib.hid hnd
            have HOI : Hid (∀ k, k < ow.length → ow.getD k 0 ≠ 0 ∧ ow.getD k 0 < 256) := fun k hk => hmem _ (getD_mem hk)
            have c0 := HF0.out
            rw [hF] at c0
            have HC0 := Lib.hid c0
            have hlen' := hlen.symm
            have HL6 := Lib.hid (HLM.out w6 (Keeps.refl _ _))
            have hol7 : ow.length ≤ 32 := by rw [hlen]; exact needF_le hR
            rw [hlen'] at HNEED
            clear hokt hokf hx hR hF hlen hlen' hmem hnum hnd hla c0 HF0 HME HRA HRAR HMB HB6 H64
            generalize inoC m vm = ZM at *
            generalize hmo : ow.length = mo at *
            have HMO := Lib.hid hmo
            clear hmo
            go_wp2_with (first | ((with_reducible show wpList _ _ _ (⟨_, .store 25 (.tmp 7) (.tmp 63), _, _, _, _⟩ :: _) _ _); refine wpList_store_any rfl 25 (.tmp 7) (.tmp 63) rfl _ rfl _ rfl _ HST.out ?_) | ((with_reducible show wpList _ _ _ (⟨_, .load 25 (.tmp 7), _, _, _, _⟩ :: _) _ _); refine wpList_load_want (by first | rfl | simp [Region.wanted, yielded]) 25 (.tmp 7) rfl _ rfl _ HL6.out ?_))
            refine (HRR.out w6 (Keeps.refl _ _)).mono ?_; rintro e w7 ⟨rfl, hk7⟩
            have HK7 := Lib.hid hk7
            have HL7 := Lib.hid (HLM.out w7 hk7)
            have c0 := HC0.out w7 hk7
            clear hk7 HL6 HRR HST hzi
            go_wp2_with ((with_reducible show wpList _ _ _ (⟨_, .load 25 (.tmp 7), _, _, _, _⟩ :: _) _ _); refine wpList_load_want (by first | rfl | simp [Region.wanted, yielded]) 25 (.tmp 7) rfl _ rfl _ HL7.out ?_)
            refine (HNEED.out w7 HK7.out).mono ?_; rintro e w8 ⟨rfl, hk8⟩
            have HK8 := Lib.hid (HK7.out.trans' hk8)
            clear hk8 HL7 HK7 HNEED HC0
            go_wp2_with fail
            clear c0
            go_loopg [10] mo (fun gh s10 wx => ∃ k : Nat, k + gh = mo ∧ s10 = .int .i64 (k : Int) ∧ Hid (Keeps [] w6 wx))
            case atStart => exact ⟨0, by omega, rfl, HK8.out⟩
            case round =>
              obtain ⟨k, hk, rfl, HP⟩ := hrel
              cases gk with
              | succ gg =>
                have hkm : k < mo := by omega
                have hki : (k : Int) < (mo : Int) := by omega
                have hk0 : (0 : Int) ≤ (k : Int) := by omega
                obtain ⟨hg1, off1, rfl, d1⟩ := HCA.out k (by first | exact hkm | (rw [HMO.out]; exact hkm))
                have c1 : wr.cell? ⟨ga, off1 + k, none⟩ = some (.int .i64 ((ow.getD k 0 : Nat) : Int)) := (World.cell?_of_block (HP.out.block ga hg1 (by simp))).trans d1
                have ho := HOI.out k (by first | exact hkm | (rw [HMO.out]; exact hkm))
                have HCJ : Hid (∀ j wx, j < mo → Keeps [] w6 wx → wx.cell? ⟨ga, off1 + j, none⟩ = some (.int .i64 ((ow.getD j 0 : Nat) : Int))) := fun j wx hj hk' => by
                  obtain ⟨hg2, off2, he, d2⟩ := HCA.out j (by first | exact hj | (rw [HMO.out]; exact hj))
                  cases he
                  exact (World.cell?_of_block (hk'.block ga hg2 (by simp))).trans d2
                have HNE : Hid (∀ j, j < k → ow.getD j 0 ≠ ow.getD k 0) := fun j hj he => by
                  have := getD_inj HND.out (j := j) (k := k) (by rw [HMO.out]; omega) (by rw [HMO.out]; omega) he
                  omega
                clear d1
                generalize hok : ow.getD k 0 = o at *
                have HOK := Lib.hid hok
                clear hok
                have ho1 : ¬ (o : Int) < 1 := by omega
                have ho2 : ¬ (255 : Int) < (o : Int) := by omega
                clear ho
                go_wp2_with fail
                clear c1 ho1 ho2
                go_loopg [11] k (fun gh s11 wx => ∃ j : Nat, j + gh = k ∧ s11 = .int .i64 (j : Int) ∧ Hid (Keeps [] w6 wx))
                case atStart => exact ⟨0, by omega, rfl, HP.out⟩
                case round =>
                  clear HP
                  obtain ⟨j, hj, rfl, HP⟩ := hrel
                  cases gk with
                  | zero =>
                    obtain rfl : j = k := by omega
                    clear hj
                    go_wp2_with fail
                    go_roundg gg
                    case measure => omega
                    case rel => exact ⟨j + 1, by omega, by go_num, HP.out⟩
                  | succ g2 =>
                    have hjk : j < k := by omega
                    have hji : (j : Int) < (k : Int) := by omega
                    have hj0 : (0 : Int) ≤ (j : Int) := by omega
                    have hjm : (j : Int) < (mo : Int) := by omega
                    have c1 := HCJ.out k wr hkm HP.out
                    have c2 := HCJ.out j wr (by omega) HP.out
                    have hne := HNE.out j hjk
                    rw [HOK.out] at c1
                    generalize ow.getD j 0 = y at *
                    have e1 := cast_ne hne
                    have e2 : (y == o) = false := by simpa using hne
                    clear hne
                    go_wp2_with fail
                    go_quiet (fail)
                    go_wp2_with fail
                    go_roundg g2
                    case measure => omega
                    case rel => exact ⟨j + 1, by omega, by go_num, HP.out.drewN _⟩
              | zero =>
                obtain rfl : k = mo := by omega
                clear hk
                go_wp2_with fail
                refine (HWDS.out wr (HK6r.out.trans' HP.out)).mono ?_; rintro e w9 ⟨vw, gw, rfl, hrw, hgw, hk9⟩
                have HK9 := Lib.hid (HP.out.trans' hk9)
                obtain ⟨aw, cw, rfl, hcw, hmw, HWC⟩ := words_cell hrw
                have hcw2 := hcw
                rw [HYL.out] at hcw2
                unfold maxLen at hmw
                clear hk9 hrw HWDS hcw
                rw [HYL.out]
                have HWC2 : Hid (∀ q, q < 3128 → ∃ off, aw = some ⟨gw, off, none⟩ ∧ ∀ wx, Keeps [] w9 wx → wx.cell? ⟨gw, off + q, none⟩ = some (.int .u64 (Y.getD q 0))) := fun q hq => by
                  obtain ⟨h1, off, h2, h3⟩ := HWC.out q (by rw [HYL.out]; exact hq)
                  exact ⟨off, h2, fun wx hk => (World.cell?_of_block (hk.block gw h1 (by simp))).trans h3⟩
                clear HWC
                go_wp2_with fail
                go_loopg [13] 8 (fun gh s13 wx => ∃ q : Nat, q + gh = 856 ∧ 848 ≤ q ∧ s13 = .int .i64 (q : Int) ∧ Hid (Keeps [] w9 wx))
                case atStart => exact ⟨848, by omega, by omega, rfl, Keeps.refl _ _⟩
                case round =>
                  clear HP
                  obtain ⟨q, hq, hq8, rfl, HP⟩ := hrel
                  cases gk with
                  | succ gg =>
                    have hqi : (q : Int) < 856 := by omega
                    have hq3 : (q : Int) < 3128 := by omega
                    have hq0 : (0 : Int) ≤ (q : Int) := by omega
                    have HLR := Lib.hid (HLM.out wr (HK9.out.trans' HP.out))
                    have HWD := Lib.hid (HWORD.out q (by omega) wr (HK9.out.trans' HP.out))
                    go_wp2_with ((with_reducible show wpList _ _ _ (⟨_, .load 25 (.tmp 7), _, _, _, _⟩ :: _) _ _); refine wpList_load_want (by first | rfl | simp [Region.wanted, yielded]) 25 (.tmp 7) rfl _ rfl _ HLR.out ?_)
                    refine HWD.out.mono ?_; rintro e w11 ⟨x, ok, rfl, hwant, hk11⟩
                    have hxy := (want2_row HLA.out (by omega) hwant).1
                    have HK11 := Lib.hid (HP.out.trans' hk11)
                    obtain ⟨offw, rfl, hcc⟩ := HWC2.out q (by omega)
                    have cw1 := hcc w11 HK11.out
                    rw [hxy] at cw1
                    have hxx : (x != x) = false := by simp
                    clear hwant hk11 hcc hxy HLR HWD HWC2
                    go_wp2_with fail
                    go_roundg gg
                    case measure => omega
                    case rel => exact ⟨q + 1, by omega, by omega, by go_num, HK11.out⟩
                  | zero =>
                    obtain rfl : q = 856 := by omega
                    clear hq hq8
                    go_wp2_with fail
                    go_loopg [16] k (fun gh s16 wx => ∃ i : Nat, i + gh = k ∧ s16 = .int .i64 (i : Int) ∧ Hid (Keeps [] w9 wx))
                    case atStart => exact ⟨0, by omega, rfl, HP.out⟩
                    case round =>
                      clear HP
                      obtain ⟨i, hi, rfl, HP⟩ := hrel
                      cases gk with
                      | zero =>
                        obtain rfl : i = k := by omega
                        clear hi
                        go_wp2_with fail
                        go_ret
                        exact ⟨rfl, HKF.out wr (HK9.out.trans' HP.out)⟩
                      | succ gg =>
                        have hik : i < k := by omega
                        have hii : (i : Int) < (k : Int) := by omega
                        have hi0 : (0 : Int) ≤ (i : Int) := by omega
                        obtain ⟨hg1, off1, rfl, d1⟩ := HCA.out i (by first | exact hik | (rw [HMO.out]; exact hik))
                        have HCI : Hid (∀ wx, Keeps [] w9 wx → wx.cell? ⟨ga, off1 + i, none⟩ = some (.int .i64 ((ow.getD i 0 : Nat) : Int))) := fun wx hk' => (World.cell?_of_block ((HK9.out.trans' hk').block ga hg1 (by simp))).trans d1
                        have ho := (HOI.out i (by first | exact hik | (rw [HMO.out]; exact hik))).2
                        have HWO : Hid (∀ j q x ok, j < 8 → q = 1080 + 8 * ow.getD i 0 + j → WantR (rowF m ow) (blocksF m ow) ow 848 q x ok → Y.getD q 0 = x ∧ ok = true) := fun j q x ok hj hq hw =>
                          (want2_own HLA.out (not_row hq) (by first | exact hik | (rw [HMO.out]; exact hik)) hj hq hw)
                        clear d1
                        generalize ow.getD i 0 = o at *
                        obtain ⟨oi, hoi⟩ : ∃ oi : Int, ((o : Nat) : Int) = oi := ⟨_, rfl⟩
                        have HCI2 : Hid (∀ wx, Keeps [] w9 wx → wx.cell? ⟨ga, off1 + i, none⟩ = some (.int .i64 oi)) := fun wx hk' => by rw [← hoi]; exact HCI.out wx hk'
                        have HOI2 := Lib.hid hoi
                        have HO256 := Lib.hid ho
                        clear hoi ho HCI
                        go_wp2_with fail
                        go_loopg [17] 8 (fun gh s17 wx => ∃ j : Nat, j + gh = 8 ∧ s17 = .int .i64 (j : Int) ∧ Hid (Keeps [] w9 wx))
                        case atStart => exact ⟨0, by omega, rfl, HP.out⟩
                        case round =>
                          clear HP
                          obtain ⟨j, hj, rfl, HP⟩ := hrel
                          cases gk with
                          | zero =>
                            obtain rfl : j = 8 := by omega
                            clear hj
                            go_wp2_with fail
                            go_roundg gg
                            case measure => omega
                            case rel => exact ⟨i + 1, by omega, by go_num, HP.out⟩
                          | succ g2 =>
                            have hj8 : (j : Int) < 8 := by omega
                            have hjn : j < 8 := by omega
                            obtain ⟨q2, m8, q1, q, hm8, hm8w, hq1, hq1w, hqq, hqw, hq0, hq3, hqt, HQ2, HQ3, HQI, HW8⟩ := q8_facts o j oi HOI2.out HO256.out hjn
                            have HKW := Lib.hid (HK9.out.trans' HP.out)
                            have HLR : Hid (∀ wx, Keeps [] wr wx → (loadVar 25 ⟨w5.heap.size, 0, none⟩).run Tryd.prog wx = .ok (.agg ZM) wx) := fun wx hk' => HLM.out wx (HKW.out.trans' hk')
                            have HCR : Hid (∀ wx, Keeps [] wr wx → wx.cell? ⟨ga, off1 + i, none⟩ = some (.int .i64 oi)) := fun wx hk' => HCI2.out wx (HP.out.trans' hk')
                            have HWD : Hid (∀ wx, Keeps [] wr wx → Calls Tryd.prog 28 #[.agg ZM, .int .i64 848, .slice (some ⟨ga, off1, none⟩) k ca, .int .i64 q] wx fun e w' => e = .returned (.tuple #[.int .u64 (Y.getD q2 0), .bool true]) ∧ Keeps [] wx w') := fun wx hk' => by
                              rw [HQI.out]
                              refine (HWORD.out q2 HQ3.out wx (HKW.out.trans' hk')).mono ?_
                              rintro e w' ⟨x, ok, rfl, hwant, hk2⟩
                              obtain ⟨h1, h2⟩ := HWO.out j q2 x ok hjn HQ2.out hwant
                              rw [h1, h2]
                              exact ⟨rfl, hk2⟩
                            obtain ⟨offw, rfl, hcc⟩ := HWC2.out q2 HQ3.out
                            have HCC : Hid (∀ wx, Keeps [] wr wx → wx.cell? ⟨gw, offw + q2, none⟩ = some (.int .u64 (Y.getD q2 0))) := fun wx hk' => hcc wx (HP.out.trans' hk')
                            clear hcc HWORD HWC2 HCI2 HOI2 HO256
                            generalize Y.getD q2 0 = x at *
                            go_wp2_with fail
                            refine wp_region_each (S := fun wx => Keeps [] wr wx) (by kernel_rfl) (by kernel_rfl) (fun d _ _ _ _ h => by cases d <;> exact h) ((Keeps.refl _ _).drew) (by kernel_rfl) ?_
                            repeat (first
                              | (refine EachList.cons (.agg ZM) (EachIf.load rfl 25 (.tmp 7) rfl _ rfl fun wx hx => HLR.out wx hx) ?_; simp only [Act.put, List.setIfInBounds_toArray, List.set_cons_zero, List.set_cons_succ])
                              | ((with_reducible show EachList _ _ _ _ (⟨some 158, _, _, _, _, _⟩ :: _) _); refine EachList.cons (.int .i64 oi) (EachIf.val rfl ?h) ?_; (case h => (intro wx hx; have hcq := HCR.out wx hx; clear hx; go_simp; done)); simp only [Act.put, List.setIfInBounds_toArray, List.set_cons_zero, List.set_cons_succ])
                              | ((with_reducible show EachList _ _ _ _ (⟨some 159, _, _, _, _, _⟩ :: _) _); refine EachList.cons (.int .i64 m8) (EachIf.val rfl ?h) ?_; (case h => (intro wx hx; clear hx; first | (go_simp; done) | (go_simp; simp [HW8.out.1]; done))); simp only [Act.put, List.setIfInBounds_toArray, List.set_cons_zero, List.set_cons_succ])
                              | ((with_reducible show EachList _ _ _ _ (⟨some 160, _, _, _, _, _⟩ :: _) _); refine EachList.cons (.int .i64 q1) (EachIf.val rfl ?h) ?_; (case h => (intro wx hx; clear hx; first | (go_simp; done) | (go_simp; simp [HW8.out.2.1]; done))); simp only [Act.put, List.setIfInBounds_toArray, List.set_cons_zero, List.set_cons_succ])
                              | ((with_reducible show EachList _ _ _ _ (⟨some 162, _, _, _, _, _⟩ :: _) _); refine EachList.cons (.int .i64 q) (EachIf.val rfl ?h) ?_; (case h => (intro wx hx; clear hx; first | (go_simp; done) | (go_simp; simp [HW8.out.2.2]; done))); simp only [Act.put, List.setIfInBounds_toArray, List.set_cons_zero, List.set_cons_succ])
                              | (refine EachList.cons (.tuple #[.int .u64 x, .bool true]) (EachIf.call rfl 28 #[.agg ZM, .int .i64 848, .slice (some ⟨ga, off1, none⟩) k ca, .int .i64 q] ?he ?h) ?_; (case he => (intro wz; go_simp)); (case h => exact fun wx hx => (HWD.out wx hx).mono fun e w' he => ⟨he.1, hx.trans' he.2⟩); simp only [Act.put, List.setIfInBounds_toArray, List.set_cons_zero, List.set_cons_succ])
                              | (refine EachList.cons ?_ (EachIf.val rfl ?h) ?_; (case h => (intro wx hx; clear hx; go_simp; rfl)); simp only [Act.put, List.setIfInBounds_toArray, List.set_cons_zero, List.set_cons_succ]))
                            refine EachList.done fun w11 hx => ?_
                            have HK11 := Lib.hid (HP.out.trans' hx)
                            have c1 := HCR.out w11 hx
                            have cw1 := HCC.out w11 hx
                            have hxx : (x != x) = false := by simp
                            clear hx HLR HWD HCR HCC HKW HW8 HQI HQ2 HQ3
                            go_wp2_with fail
                            go_roundg g2
                            case measure => omega
                            case rel => exact ⟨j + 1, by omega, by go_num, HK11.out⟩

end Go.Proofs.YtmhcnkjmnbnldaaDoor
