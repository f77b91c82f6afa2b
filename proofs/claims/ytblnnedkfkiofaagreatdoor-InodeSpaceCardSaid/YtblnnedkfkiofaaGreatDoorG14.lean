/-
  Layer 8, the reference's Need; what the laws' awake asks. Layer 8 (inode), plain: puts over one another at one place; how many blocks are free where some are used. Layer 8, the law InodeTurns: the sheet behind each call. Layer 6, the reference: Same, where both are one inode; the law's sames, where both are one list; the reference's list of what is free. Layer 6, the reference: Few. Layer 6, the reference: Right.
-/
import Derived.Test.YtblnnedkfkiofaaGreatDoorG13
import Derived.Test.YtblnnedkfkiofaaGreatDoorG00
import Derived.Test.YtblnnedkfkiofaaGreatDoorG12
import Derived.Test.YtblnnedkfkiofaaGreatDoorG08
import Derived.Laws.StructEq
import Derived.Test.YtblnnedkfkiofaaGreatDoorG03
import Derived.Test.YtblnnedkfkiofaaGreatDoorG04
import Derived.BigQuiet
namespace Go.Proofs.YtblnnedkfkiofaaGreatDoor
open Go.RowKit

set_option maxRecDepth 100000 in
set_option maxHeartbeats 1000000 in
theorem need8_at (n : Ino) (v : Value) (g : Nat) (hB : n.B.length = 13) (hR : RightP n) (w : World) (hE : EReads w v g n.E) :
    Calls Tryz.prog 15 #[.agg (inoC n v)] w fun e w' => e = .returned (.int .i64 ((needA n : Nat) : Int)) ∧ Keeps [] w w' := by
  have hk0 : Keeps [] w (w.alloc (.cells (inoC n v) 25)) := (Keeps.refl _ _).alloc _
  have hb1 := Blk.new w (inoC n v) 25
  have c0 : (w.alloc (.cells (inoC n v) 25)).cell? ⟨w.heap.size, 0, none⟩ = some (.int .i64 n.F) := by rw [hb1.cell]; exact (inoAt v hB).f0
  have HL := Lib.hid (load_ino hb1 hB)
  have HK0 := Lib.hid hk0
  by_cases hF : n.F = 2
  · have hn : needA n = needF n := if_pos hF
    have HC := Lib.hid (refNeed2_at n v g hB hR _ (hE.keep hk0 (by simp)))
    rw [hn]
    rw [hF] at c0
    clear hn hE hR hk0 hb1 hF
    generalize inoC n v = Z at *
    go_enter Tryz.func15, Tryz.ntmps15
    go_wp2_with ((with_reducible show wpList _ _ _ (⟨_, .load 25 (.tmp 1), _, _, _, _⟩ :: _) _ _); refine wpList_load_any rfl 25 (.tmp 1) rfl _ rfl _ HL.out ?_)
    refine HC.out.mono ?_; rintro e w2 ⟨rfl, hk⟩
    have HK := Lib.hid (HK0.out.trans' hk)
    clear hk HC HL
    go_wp2_with fail
    go_ret
    exact ⟨rfl, HK.out⟩
  · obtain ⟨h1, h2⟩ := needL_need hB (fun k => (right_len hR hB k).1)
    have hn : needA n = blocksN n.E.length + needL n := by rw [← h1]; exact if_neg hF
    have hbl := blocks_le hR
    have h13 : blocksN n.E.length + needL n ≤ 7 := by omega
    have e2 : (n.F == 2) = false := by simpa using hF
    obtain ⟨a, cap, rfl, -, -, -⟩ := hE.open
    have HC := Lib.hid (refNeed_at n a cap hB (by omega) (w.alloc (.cells (inoC n (.slice a n.E.length cap)) 25)))
    rw [hn]
    clear hn h1 hbl hE hR hk0 hb1 hF hB
    generalize inoC n (.slice a n.E.length cap) = Z at *
    generalize blocksN n.E.length = p at *
    generalize needL n = q at *
    have hw : IntKind.i64.wrap ((p : Int) + (q : Int)) = ((p + q : Nat) : Int) := by rw [IntWalk.i64_in _ (by omega)]; omega
    have hw2 : wrap64 ((p : Int) + (q : Int)) = ((p + q : Nat) : Int) := by unfold wrap64; omega
    go_enter Tryz.func15, Tryz.ntmps15
    go_wp2_with ((with_reducible show wpList _ _ _ (⟨_, .load 25 (.tmp 1), _, _, _, _⟩ :: _) _ _); refine wpList_load_any rfl 25 (.tmp 1) rfl _ rfl _ HL.out ?_)
    refine HC.out.mono ?_; rintro e w2 ⟨rfl, hk⟩
    have HK := Lib.hid (HK0.out.trans' hk)
    clear hk HC HL
    go_wp2_with fail
    go_ret
    refine ⟨?_, HK.out⟩
    first
      | rfl
      | (rw [hw2])
      | (rw [hw])

/-- n.Format = x -/
theorem store_F {w : World} {g T : Nat} {n : Ino} {v : Value} (hb : Blk w g (inoC n v) T) (x : Int) : Blk (w.setCell ⟨g, 0, none⟩ (.int .i64 x)) g (inoC { n with F := x } v) T := by
  have := hb.set 0 (.int .i64 x)
  have e : (inoC n v).setIfInBounds 0 (.int .i64 x) = inoC { n with F := x } v := by
    have h1 : inoC n v = ((.int .i64 n.F : Value) :: ([.int .i64 n.K, .int .i64 n.L, .int .i64 n.S] ++ (zs n.B ++ [v]))).toArray := rfl
    rw [h1, List.setIfInBounds_toArray, List.set_cons_zero]
    rfl
  rw [e] at this
  exact this

/-- A sheet of no words. -/
theorem pad_get (k : Nat) : (padW []).getD k 0 = 0 := by
  have h : padW [] = List.replicate 3128 0 := by decide +kernel
  rw [h, List.getD_eq_getElem?_getD, List.getElem?_replicate]
  split <;> rfl

theorem pad_64 : In64 (padW []) := fun k => by rw [pad_get]; omega

theorem pad_free : (freeL (padW [])).length = 255 := by decide +kernel

theorem ino_free0 {X : List Int} (h : ∀ k, 820 ≤ k → X.getD k 0 = 0) (i : Int) : FreeP X i := by
  unfold FreeP inoAtX rowL
  apply List.ext_getElem (by simp)
  intro j h1 h2
  rw [List.getElem_map, List.getElem_replicate, List.getElem_range]
  exact h _ (by omega)

/-- An inode of no entries and no blocks. -/
def ino1 : Ino := ⟨1, 1, 1, 0, List.replicate 13 0, []⟩

theorem build_ino1 (w : World) : (Instr.build 25 #[(0, .int .i64 1), (1, .int .i64 1), (2, .int .i64 1)]).run Tryz.prog w = .ok (.agg (inoC ino1 (.slice none 0 0))) w := by kernel_rfl

theorem right_ino1 : RightP ino1 := by decide +kernel

theorem need_ino1 : needA ino1 = 0 := by decide +kernel

/-- What the laws' awake asks, of any sheet of noughts. -/
theorem awake_new {w w1 : World} {b : Nat} {P : List Int} (h64 : In64 P) (hl : P.length = 3128) (h0 : ∀ k, 820 ≤ k → P.getD k 0 = 0) {n : Ino} (hB : n.B.length = 13) (hR : RightP n) (hn : needA n = 0) (hE : n.E = []) (hT : TabAt w) (hs : ShAt w1 b b P []) (hb : w.heap.size ≤ b) (hk : Keeps [] w w1) :
    Calls Tryz.prog 20 #[.pointer (some ⟨b, 0, none⟩), .agg (inoC n (.slice none 0 0))] w1 fun e w' => e = .returned (.tuple #[.int .i64 0, .int .i64 0]) ∧ Keeps [] w w' ∧
      Calls Tryz.prog 16 #[.pointer (some ⟨b, 0, none⟩), .int .i64 0] w' (fun e w2 => e = .returned (.bool false) ∧ Keeps [] w' w2 ∧ Calls Tryz.prog 16 #[.pointer (some ⟨b, 0, none⟩), .int .i64 1] w2 (fun e w3 => e = .returned (.bool true) ∧ Keeps [] w2 w3)) := by
  have := inoNew_at hs h64 (fun wx hx => hT.keep (hk.trans hx (by intro x hx; simp only [List.mem_cons, List.not_mem_nil, or_false] at hx; omega))) hs.raw.lt (by simp) n (.slice none 0 0) 0 hB (by rw [hE]; exact EReads.nil _ _) (fun k hk => by rw [hE] at hk; simp at hk) (fun h => absurd (by rw [hE]; rfl) h)
  refine this.mono ?_
  rintro e w' ⟨i, r, qs, gp', rfl, h2, h3, h4, h5, h6⟩
  have h6 : NewR P n i r qs := h6
  have hf : ∀ i, FreeP P i := ino_free0 h0
  have hfin : r = 0 ∧ i = 0 ∧ qs = putPs P (0 : Int).toNat n [] := by
    rcases h6 with ⟨-, -, h, -⟩ | ⟨j, h7, h8, h9, h10⟩
    · exact absurd (hf _) (h 0 (by omega))
    · have hj : j = 0 := by
        by_cases hj : j = 0
        · exact hj
        · exact absurd (hf _) (h9 0 (by omega))
      subst hj
      rcases h10 with ⟨-, -, h, -⟩ | ⟨-, -, -, h, -⟩ | ⟨h11, h12, -, -, h13⟩
      · exact absurd hR h
      · rw [hn] at h; omega
      · exact ⟨h11, h12, h13⟩
  obtain ⟨rfl, rfl, rfl⟩ := hfin
  have he := put_eff (i := 0) (own := []) (n := n) h64 hl hB ⟨by omega, by omega⟩ hR (by rw [hn]; omega)
  rw [List.nil_append] at h3
  have f1 := he.st.notFree
  have f2 := he.free_keeps (hf 1) ⟨by omega, by omega⟩ (by omega)
  clear he h6
  generalize putPs P (0 : Int).toNat n [] = qs at *
  refine ⟨rfl, hk.trans h4 (by intro x hx; simp only [List.mem_cons, List.not_mem_nil, or_false] at hx; omega), ?_⟩
  refine (free_at h3 0).mono ?_
  rintro e w2 ⟨rfl, hk2⟩
  rw [decide_eq_false (show ¬ ((0 ≤ (0 : Int) ∧ (0 : Int) < 32) ∧ FreeP (putAll P qs) 0) from fun h => f1 h.2)]
  refine ⟨rfl, hk2, ?_⟩
  refine (free_at (h3.keep hk2 (by simp) (by simp)) 1).mono ?_
  rintro e w3 ⟨rfl, hk3⟩
  rw [decide_eq_true (show ((0 ≤ (1 : Int) ∧ (1 : Int) < 32) ∧ FreeP (putAll P qs) 1) from ⟨⟨by omega, by omega⟩, f2⟩)]
  exact ⟨rfl, hk3⟩

set_option maxRecDepth 100000 in
set_option maxHeartbeats 1000000 in
theorem awake8_at {w : World} (hT : TabAt w) : Calls Tryz.prog 7 #[] w fun e w' => e = .returned (.bool true) ∧ Keeps [] w w' := by
  have HN := Lib.hid (txNew_at (w := w) (v := .slice none 0 0) (g := 0) (ws := []) ⟨none, 0, rfl, by simp [u64s], by simp [maxLen], fun h => absurd rfl h⟩)
  have HNEW := Lib.hid (fun w1 b hs hb hk => awake_new (w := w) (w1 := w1) (b := b) (P := padW []) pad_64 (padW_len []) (fun k _ => pad_get k) (n := ino1) rfl right_ino1 need_ino1 rfl hT hs hb hk)
  have hlit : inoC ino1 (.slice none 0 0) = #[.int .i64 1, .int .i64 1, .int .i64 1, .int .i64 0, .int .i64 0, .int .i64 0, .int .i64 0, .int .i64 0, .int .i64 0, .int .i64 0, .int .i64 0, .int .i64 0, .int .i64 0, .int .i64 0, .int .i64 0, .int .i64 0, .int .i64 0, .slice none 0 0] := rfl
  rw [hlit] at HNEW
  clear hT hlit
  generalize padW [] = B at *
  go_enter Tryz.func7, Tryz.ntmps7
  go_wp2_with fail
  refine HN.out.mono ?_
  rintro e w1 ⟨b, rfl, hlo, hs, hk⟩
  have HC := Lib.hid (HNEW.out w1 b hs hlo hk)
  clear hs hlo hk HNEW HN
  go_wp2_with fail
  refine HC.out.mono ?_; rintro e w2 ⟨rfl, hk2, hc2⟩
  have HK2 := Lib.hid hk2
  have HC2 := Lib.hid hc2
  clear hk2 hc2 HC
  go_wp2_with fail
  refine HC2.out.mono ?_; rintro e w3 ⟨rfl, hk3, hc3⟩
  have HK3 := Lib.hid (HK2.out.trans' hk3)
  have HC3 := Lib.hid hc3
  clear hk3 hc3 HC2
  go_wp2_with fail
  refine HC3.out.mono ?_; rintro e w4 ⟨rfl, hk4⟩
  have HK4 := Lib.hid (HK3.out.trans' hk4)
  clear hk4 HC3
  go_wp2_with fail
  go_ret
  exact ⟨rfl, HK4.out⟩

end Go.Proofs.YtblnnedkfkiofaaGreatDoor

namespace Go.Proofs.YtblnnedkfkiofaaGreatDoor
open Go.RowKit

theorem freeL_of_used {X Y : List Int} (h : ∀ c, c < 256 → c ≠ 0 → usedN Y c = usedN X c) : freeL Y = freeL X := by
  unfold freeL freeTo
  apply List.filter_congr
  intro c hc
  by_cases h0 : c = 0
  · subst h0; simp
  · rw [h c (List.mem_range.1 hc) h0]

/-- Words at whose bits others are used besides. -/
structure Over (X0 X : List Int) (own : List Nat) : Prop where
  w64 : In64 X
  len : X.length = 3128
  used : ∀ c, c < 256 → c ≠ 0 → usedN X c = (usedN X0 c || decide (c ∈ own))
  apart : ∀ c ∈ own, usedN X0 c = false

theorem Over.refl {X : List Int} (h : In64 X) (hl : X.length = 3128) : Over X X [] := ⟨h, hl, fun c _ _ => by simp, fun c hc => by simp at hc⟩

theorem Over.off {X0 X : List Int} {own : List Nat} (h : Over X0 X own) : ∀ c, c < 256 → c ≠ 0 → (usedN X c && !decide (c ∈ own)) = usedN X0 c := fun c hc h0 => by
  rw [h.used c hc h0]
  by_cases hm : c ∈ own
  · simp [hm, h.apart c hm]
  · simp [hm]

theorem Over.give {X0 X : List Int} {own : List Nat} (h : Over X0 X own) : freeL (putAll X (givePs X own)) = freeL X0 :=
  freeL_of_used fun c hc h0 => by rw [(givePs_state own X h.w64 h.len).2.1 c hc h0, h.off c hc h0]

theorem Over.put {X0 X X' : List Int} {i : Int} {n : Ino} {own own' : List Nat} (h : Over X0 X own) (he : PutEff X i n own X' own') : Over X0 X' own' ∧ (freeL X').length + needA n = (freeL X0).length := by
  have hm := he.st.mem
  refine ⟨⟨he.w64, he.len, fun c hc h0 => by rw [he.used c hc h0, h.off c hc h0], fun c hc => ?_⟩, by rw [he.count, h.give]⟩
  have h1 := he.free c hc
  rwa [h.off c (hm c hc).2 (hm c hc).1] at h1

/-- A block more that is used is at most one free block less. -/
theorem free_set {X : List Int} (h : In64 X) (hl : X.length = 3128) (b : Nat) : (freeL X).length ≤ (freeL (putAll X (setPs X b true))).length + 1 := by
  by_cases hb : b = 0 ∨ 256 ≤ b
  · have : setPs X b true = [] := if_pos hb
    rw [this]
    exact Nat.le_succ _
  · have hf : freeL (putAll X (setPs X b true)) = (freeL X).erase b := by
      show freeTo _ 256 = (freeTo X 256).erase b
      rw [(freeTo_nodup X 256).erase_eq_filter]
      unfold freeTo
      rw [List.filter_filter]
      apply List.filter_congr
      intro c _
      rw [usedN_set h hl b (by omega) (by omega)]
      by_cases hcb : c = b
      · simp [hcb]
      · simp [hcb]
    rw [hf, List.length_erase]
    split <;> omega

end Go.Proofs.YtblnnedkfkiofaaGreatDoor

namespace Go.Proofs.YtblnnedkfkiofaaGreatDoor
open Go.RowKit

/-- The sheet as blocks are marked. -/
def TurnMid (W0 : World) (b : Nat) (k : Nat) (wx : World) : Prop :=
  ∃ gp ps, ShAt wx b gp (padW []) ps ∧ gp < wx.heap.size ∧ W0.heap.size ≤ gp ∧ ps.length ≤ k ∧ In64 (putAll (padW []) ps) ∧ (∀ q, 820 ≤ q → (putAll (padW []) ps).getD q 0 = 0) ∧ 255 ≤ (freeL (putAll (padW []) ps)).length + k ∧ Keeps [] W0 wx

/-- The sheet at which an inode stands. -/
def Turn (W0 : World) (b gp : Nat) (X0 : List Int) (kk : Int) (n : Ino) (m : Nat) (wx : World) : Prop :=
  ∃ ps own, ShAt wx b gp (padW []) ps ∧ gp < wx.heap.size ∧ W0.heap.size ≤ gp ∧ ps.length ≤ m ∧ Over X0 (putAll (padW []) ps) own ∧ StoreP (putAll (padW []) ps) kk n own ∧ Keeps [] W0 wx ∧ (freeL (putAll (padW []) ps)).length + needA n = (freeL X0).length

theorem Turn.keep {W0 wx w' : World} {b gp : Nat} {X0 : List Int} {kk : Int} {n : Ino} {m : Nat} (h : Turn W0 b gp X0 kk n m wx) (hk : Keeps [] wx w') : Turn W0 b gp X0 kk n m w' := by
  obtain ⟨ps, own, h1, h2, h3, h4, h5, h6, h7, h8⟩ := h
  exact ⟨ps, own, h1.keep hk (by simp) (by simp), Nat.lt_of_lt_of_le h2 hk.size, h3, h4, h5, h6, h7.trans' hk, h8⟩

theorem Turn.keeps {W0 wx : World} {b gp : Nat} {X0 : List Int} {kk : Int} {n : Ino} {m : Nat} (h : Turn W0 b gp X0 kk n m wx) : Keeps [] W0 wx ∧ gp < wx.heap.size ∧ b < wx.heap.size := by
  obtain ⟨ps, own, h1, h2, h3, h4, h5, h6, h7, h8⟩ := h
  exact ⟨h7, h2, h1.raw.lt⟩

theorem setPs_low (X : List Int) (c : Nat) (u : Bool) : ∀ p ∈ setPs X c u, p.1.toNat < 820 := by
  intro p hp
  unfold setPs at hp
  split at hp
  · simp at hp
  · rw [List.mem_singleton] at hp
    subst hp
    show ((816 + c / 64 : Nat) : Int).toNat < 820
    omega

theorem turn_mark {W0 wx : World} {b k : Nat} (hb : W0.heap.size ≤ b) (h : TurnMid W0 b k wx) (hk : k ≤ 100) (x : Int) :
    Calls Tryz.prog 26 #[.pointer (some ⟨b, 0, none⟩), .int .i64 x, .bool true] wx fun e w' => e = .returned (.tuple #[]) ∧ TurnMid W0 b (k + 1) w' := by
  obtain ⟨gp, ps, h1, h2, h3, h4, h5, h6, h7, h8⟩ := h
  refine (paSet_at h1 h5 (by omega) x true).mono ?_
  rintro e w' ⟨rfl, gp', hg, hs, hk'⟩
  have hXl : (putAll (padW []) ps).length = 3128 := h1.raw.lx
  have hz := hk'.size
  have hz0 := h8.size
  refine ⟨rfl, gp', _, hs, by omega, by omega, ?_, ?_, fun q hq => ?_, ?_, h8.trans hk' (by intro y hy; simp only [List.mem_cons, List.not_mem_nil, or_false] at hy; omega)⟩
  · have := setPs_le (putAll (padW []) ps) x.toNat true
    rw [List.length_append]
    omega
  · rw [putAll_append]
    exact h5.put (setPs_in h5 _ _)
  · rw [putAll_append, putAll_other _ _ _ fun p hp => by have := setPs_low _ _ _ p hp; omega]
    exact h6 q hq
  · rw [putAll_append]
    have := free_set h5 hXl x.toNat
    omega

theorem turn_tab {W0 wx wy : World} {b gp : Nat} (hT : TabAt W0) (hb : W0.heap.size ≤ b) (hg : W0.heap.size ≤ gp) (hk : Keeps [] W0 wx) (hy : Keeps [b, gp] wx wy) : TabAt wy :=
  hT.keep (hk.trans hy (by intro y hy; simp only [List.mem_cons, List.not_mem_nil, or_false] at hy; omega))

theorem turn_apart {W0 : World} {b gp g : Nat} {v : Value} {E : List (ByteArray × Int)} (hE : EReads W0 v g E) (hb : W0.heap.size ≤ b) (hg : W0.heap.size ≤ gp) : E.length ≠ 0 → g ≠ b ∧ g ≠ gp := fun h0 => by
  have := hE.apart (l := [b, gp]) (fun x hx => by simp only [List.mem_cons, List.not_mem_nil, or_false] at hx; omega) h0
  simp only [List.mem_cons, List.not_mem_nil, or_false, not_or] at this
  exact this

theorem turn_first {W0 wx : World} {b : Nat} (hb : W0.heap.size ≤ b) (hT : TabAt W0) (h : TurnMid W0 b 13 wx) (kk : Int) (hkk : 0 ≤ kk ∧ kk < 32) (n : Ino) (v : Value) (g : Nat) (hB : n.B.length = 13) (hE : EReads W0 v g n.E) (hN : ∀ k, k < n.E.length → (enm n.E k).size ≤ 9223372036854775807) :
    Calls Tryz.prog 14 #[.pointer (some ⟨b, 0, none⟩), .int .i64 kk, .agg (inoC n v)] wx fun e w' => ∃ r, e = .returned (.int .i64 r) ∧ ((r = 1 ∧ ¬ RightP n ∧ Keeps [] W0 w') ∨ (r = 0 ∧ RightP n ∧ ∃ X0 gp, 32 ≤ (freeL X0).length ∧ Turn W0 b gp X0 kk n 800 w')) := by
  obtain ⟨gp, ps, h1, h2, h3, h4, h5, h6, h7, h8⟩ := h
  refine (inoPut_at h1 h5 (fun wy hy => turn_tab hT hb h3 h8 hy) h2 (by omega) kk n v g hB (hE.keep h8 (by simp)) hN (turn_apart hE hb h3)).mono ?_
  rintro e w' ⟨r, qs, gp', rfl, hg, hs, hk, hq, hr⟩
  have hXl : (putAll (padW []) ps).length = 3128 := h1.raw.lx
  have hz := hk.size
  have hz0 := h8.size
  have hkk' : Keeps [] W0 w' := h8.trans hk (by intro y hy; simp only [List.mem_cons, List.not_mem_nil, or_false] at hy; omega)
  refine ⟨r, rfl, ?_⟩
  rcases hr.free hkk (ino_free0 h6 kk) with ⟨rfl, hR, -⟩ | ⟨rfl, hR, hf, -⟩ | ⟨rfl, hR, hf, rfl⟩
  · exact .inl ⟨rfl, hR, hkk'⟩
  · have := needA_le hR
    omega
  · have he := put_eff (i := kk) (own := []) h5 hXl hB hkk hR hf
    obtain ⟨o1, o2⟩ := (Over.refl h5 hXl).put he
    rw [← putAll_append] at o1 o2
    have st := he.st
    rw [← putAll_append] at st
    exact .inr ⟨rfl, hR, putAll (padW []) ps, gp', by omega, _, _, hs, by omega, by omega, by rw [List.length_append]; omega, o1, st, hkk', o2⟩

theorem turn_next {W0 wx : World} {b gp m : Nat} {X0 : List Int} {kk : Int} {n : Ino} (hb : W0.heap.size ≤ b) (hT : TabAt W0) (h : Turn W0 b gp X0 kk n m wx) (h0 : 32 ≤ (freeL X0).length) (hm : m ≤ 600000) (n' : Ino) (v : Value) (g : Nat) (hR : RightP n') (hB : n'.B.length = 13) (hE : EReads W0 v g n'.E) (hN : ∀ k, k < n'.E.length → (enm n'.E k).size ≤ 9223372036854775807) :
    Calls Tryz.prog 14 #[.pointer (some ⟨b, 0, none⟩), .int .i64 kk, .agg (inoC n' v)] wx fun e w' => e = .returned (.int .i64 0) ∧ ∃ gp', (gp' = gp ∨ wx.heap.size ≤ gp') ∧ Turn W0 b gp' X0 kk n' (m + 700) w' ∧ Keeps [b, gp] wx w' := by
  obtain ⟨ps, own, h1, h2, h3, h4, h5, h6, h7, h8⟩ := h
  refine (inoPut_at h1 h5.w64 (fun wy hy => turn_tab hT hb h3 h7 hy) h2 (by omega) kk n' v g hB (hE.keep h7 (by simp)) hN (turn_apart hE hb h3)).mono ?_
  rintro e w' ⟨r, qs, gp', rfl, hg, hs, hk, hq, hr⟩
  have hz := hk.size
  have hz0 := h7.size
  have hkk' : Keeps [] W0 w' := h7.trans hk (by intro y hy; simp only [List.mem_cons, List.not_mem_nil, or_false] at hy; omega)
  have hgv := congrArg List.length h5.give
  rcases hr.over h6 with ⟨-, h, -⟩ | ⟨-, -, hf, -⟩ | ⟨rfl, -, hf, rfl⟩
  · exact absurd hR h
  · have := needA_le hR
    omega
  · have he := put_eff (i := kk) (own := own) h5.w64 h5.len hB h6.rng hR hf
    obtain ⟨o1, o2⟩ := h5.put he
    rw [← putAll_append] at o1 o2
    have st := he.st
    rw [← putAll_append] at st
    exact ⟨rfl, gp', by omega, ⟨_, _, hs, by omega, by omega, by rw [List.length_append]; omega, o1, st, hkk', o2⟩, hk⟩

theorem turn_get {W0 wx : World} {b gp m : Nat} {X0 : List Int} {kk : Int} {n : Ino} (h : Turn W0 b gp X0 kk n m wx) :
    Calls Tryz.prog 17 #[.pointer (some ⟨b, 0, none⟩), .int .i64 kk] wx fun e w' => ∃ v g own va ga, e = .returned (.tuple #[.agg (inoC n v), va, .int .i64 0]) ∧ EReads w' v g n.E ∧ wx.heap.size ≤ g ∧ Reads w' va ga (i64s own) ∧ own.length = needA n ∧ Keeps [] wx w' := by
  obtain ⟨ps, own, h1, h2, h3, h4, h5, h6, h7, h8⟩ := h
  refine (get_at h1 h5.w64 kk).mono ?_
  rintro e w' ⟨n', v, g, own', va, ga, r, rfl, hB, hE, hg, hO, hga, hk, hr⟩
  rcases hr with ⟨-, h, -⟩ | ⟨-, -, h, -⟩ | ⟨-, -, -, h, -⟩ | ⟨rfl, h⟩
  · exact absurd h6.rng h
  · exact absurd h h6.notFree
  · exact absurd h6 (h _ _)
  · obtain ⟨rfl, rfl⟩ := h6.uniq h
    exact ⟨v, g, _, va, ga, rfl, hE, hg, hO.reads, h6.ownLen, hk⟩

theorem turn_free {W0 wx : World} {b gp m : Nat} {X0 : List Int} {kk : Int} {n : Ino} (h : Turn W0 b gp X0 kk n m wx) :
    Calls Tryz.prog 19 #[.pointer (some ⟨b, 0, none⟩)] wx fun e w' => e = .returned (.int .i64 (((freeL X0).length - needA n : Nat) : Int)) ∧ wx = w' := by
  obtain ⟨ps, own, h1, h2, h3, h4, h5, h6, h7, h8⟩ := h
  refine (paFree_at h1 h5.w64).mono ?_
  rintro e w' ⟨rfl, rfl⟩
  rw [← h8, Nat.add_sub_cancel]
  exact ⟨rfl, rfl⟩

end Go.Proofs.YtblnnedkfkiofaaGreatDoor

namespace Go.Proofs.YtblnnedkfkiofaaGreatDoor
open Go.RowKit

theorem eq_entry (s : ByteArray) (x : Int) (w : World) : (Op.equalIn 10000 66 (.agg #[.string s, .int .i64 x]) (.agg #[.string s, .int .i64 x])).run Tryz.prog w = .ok true w := by
  rw [run_equalIn_struct w 9999 66 _ _ (by kernel_rfl) (by kernel_rfl)]
  go_simp

theorem guard_entry : Tryz.prog.eqGuardType Tryz.prog.depth 66 = false := by kernel_rfl

theorem load_entry {w : World} {g off : Nat} {s : ByteArray} {x : Int} (h0 : w.cell? ⟨g, off, none⟩ = some (.string s)) (h1 : w.cell? ⟨g, off + 1, none⟩ = some (.int .i64 x)) :
    (loadVar 66 ⟨g, off, none⟩).run Tryz.prog w = .ok (.agg #[.string s, .int .i64 x]) w :=
  run_loadVar_cells g off [.string s, .int .i64 x] Tryz.underlying66 rfl size_entry fun j hj => by
    rcases (show j = 0 ∨ j = 1 by have : j < 2 := hj; omega) with rfl | rfl
    · exact h0
    · exact h1

set_option maxRecDepth 100000 in
set_option maxHeartbeats 4000000 in
theorem refSame_at (n : Ino) (v1 v2 : Value) (g1 g2 : Nat) (hB : n.B.length = 13) (w : World) (h1 : EReads w v1 g1 n.E) (h2 : EReads w v2 g2 n.E) :
    Calls Tryz.prog 18 #[.agg (inoC n v1), .agg (inoC n v2)] w fun e w' => e = .returned (.bool true) ∧ Keeps [] w w' := by
  obtain ⟨a1, c1, rfl, hc1, hm1, HE1⟩ := h1.open
  obtain ⟨a2, c2, rfl, hc2, hm2, HE2⟩ := h2.open
  have hat1 := inoAt (.slice a1 n.E.length c1) hB
  have hat2 := inoAt (.slice a2 n.E.length c2) hB
  generalize inoC n (.slice a1 n.E.length c1) = Z1 at *
  generalize inoC n (.slice a2 n.E.length c2) = Z2 at *
  have hb1 := (Blk.new w Z1 25).alloc (.cells Z2 25)
  have hb2 := Blk.new (w.alloc (.cells Z1 25)) Z2 25
  rw [show (w.alloc (.cells Z1 25)).heap.size = w.heap.size + 1 by simp] at hb2
  have p0 : ((w.alloc (.cells Z1 25)).alloc (.cells Z2 25)).cell? ⟨w.heap.size, 0, none⟩ = some (.int .i64 n.F) := by rw [hb1.cell]; exact hat1.f0
  have q0 : ((w.alloc (.cells Z1 25)).alloc (.cells Z2 25)).cell? ⟨w.heap.size + 1, 0, none⟩ = some (.int .i64 n.F) := by rw [hb2.cell]; exact hat2.f0
  have p1 : ((w.alloc (.cells Z1 25)).alloc (.cells Z2 25)).cell? ⟨w.heap.size, 1, none⟩ = some (.int .i64 n.K) := by rw [hb1.cell]; exact hat1.f1
  have q1 : ((w.alloc (.cells Z1 25)).alloc (.cells Z2 25)).cell? ⟨w.heap.size + 1, 1, none⟩ = some (.int .i64 n.K) := by rw [hb2.cell]; exact hat2.f1
  have p2 : ((w.alloc (.cells Z1 25)).alloc (.cells Z2 25)).cell? ⟨w.heap.size, 2, none⟩ = some (.int .i64 n.L) := by rw [hb1.cell]; exact hat1.f2
  have q2 : ((w.alloc (.cells Z1 25)).alloc (.cells Z2 25)).cell? ⟨w.heap.size + 1, 2, none⟩ = some (.int .i64 n.L) := by rw [hb2.cell]; exact hat2.f2
  have p3 : ((w.alloc (.cells Z1 25)).alloc (.cells Z2 25)).cell? ⟨w.heap.size, 3, none⟩ = some (.int .i64 n.S) := by rw [hb1.cell]; exact hat1.f3
  have q3 : ((w.alloc (.cells Z1 25)).alloc (.cells Z2 25)).cell? ⟨w.heap.size + 1, 3, none⟩ = some (.int .i64 n.S) := by rw [hb2.cell]; exact hat2.f3
  have p17 : ((w.alloc (.cells Z1 25)).alloc (.cells Z2 25)).cell? ⟨w.heap.size, 17, none⟩ = some (.slice a1 n.E.length c1) := by rw [hb1.cell]; exact hat1.f5
  have q17 : ((w.alloc (.cells Z1 25)).alloc (.cells Z2 25)).cell? ⟨w.heap.size + 1, 17, none⟩ = some (.slice a2 n.E.length c2) := by rw [hb2.cell]; exact hat2.f5
  have HL1 : Hid ((loadVar 22 ⟨w.heap.size, 4, none⟩).run Tryz.prog ((w.alloc (.cells Z1 25)).alloc (.cells Z2 25)) = .ok (.agg (zs n.B).toArray) ((w.alloc (.cells Z1 25)).alloc (.cells Z2 25))) := load_n13 (off := 4) hb1 hB hat1.f4
  have HL2 : Hid ((loadVar 22 ⟨w.heap.size + 1, 4, none⟩).run Tryz.prog ((w.alloc (.cells Z1 25)).alloc (.cells Z2 25)) = .ok (.agg (zs n.B).toArray) ((w.alloc (.cells Z1 25)).alloc (.cells Z2 25))) := load_n13 (off := 4) hb2 hB hat2.f4
  have heq := fun wx => eq_n13 (a := n.B) (b := n.B) hB hB wx
  rw [decide_eq_true (rfl : n.B = n.B)] at heq
  have hg13 := guard_n13
  have HB1 := Lib.hid hb1
  have HB2 := Lib.hid hb2
  have H5 := Lib.hid hat1.f5
  have H6 := Lib.hid hat2.f5
  have hes := eq_entry
  have hge := guard_entry
  have HK0 : Hid (Keeps [] w ((w.alloc (.cells Z1 25)).alloc (.cells Z2 25))) := ((Keeps.refl [] w).alloc _).alloc _
  unfold maxLen at hm1 hm2
  clear hb1 hb2 hat1 hat2 h1 h2 hB
  generalize (zs n.B).toArray = ZB at *
  generalize hm : n.E.length = m at *
  clear hm
  go_enter Tryz.func18, Tryz.ntmps18
  go_wp2_with (first | ((with_reducible show wpList _ _ _ (⟨_, .load 22 (.tmp 33), _, _, _, _⟩ :: _) _ _); refine wpList_load_want (by simp [Region.wanted, yielded]) 22 (.tmp 33) rfl _ rfl _ HL1.out ?_) | ((with_reducible show wpList _ _ _ (⟨_, .load 22 (.tmp 35), _, _, _, _⟩ :: _) _ _); refine wpList_load_want (by simp [Region.wanted, yielded]) 22 (.tmp 35) rfl _ rfl _ HL2.out ?_))
  clear p0 p1 p2 p3 p17 q0 q1 q2 q3 q17 heq
  go_loopg [5] m (fun gh s5 wx => ∃ k : Nat, k + gh = m ∧ s5 = .int .i64 (k : Int) ∧ Hid (Keeps [] ((w.alloc (.cells Z1 25)).alloc (.cells Z2 25)) wx))
  case atStart => exact ⟨0, by omega, rfl, Keeps.refl _ _⟩
  case round =>
    obtain ⟨k, hk, rfl, HP⟩ := hrel
    have hb1 := HB1.out.keep HP.out (by simp)
    have hb2 := HB2.out.keep HP.out (by simp)
    have p17 : wr.cell? ⟨w.heap.size, 17, none⟩ = some (.slice a1 m c1) := by rw [hb1.cell]; exact H5.out
    cases gk with
    | zero =>
      obtain rfl : k = m := by omega
      have HKR := Lib.hid (HK0.out.trans' HP.out)
      clear hb1 hb2 HP
      go_wp2_with fail
      go_ret
      exact ⟨rfl, HKR.out⟩
    | succ gg =>
      have hkm : k < m := by omega
      have hlt : (k : Int) < (m : Int) := by omega
      have hk0 : (0 : Int) ≤ (k : Int) := by omega
      obtain ⟨hgg1, off1, rfl, d1, d2⟩ := HE1.out k hkm
      obtain ⟨hgg2, off2, rfl, d3, d4⟩ := HE2.out k hkm
      have HKw := HK0.out.trans' HP.out
      have hz := HKw.size
      have hcc : ∀ wx, Keeps [] wr wx → ∀ g off, g < w.heap.size → wx.cell? ⟨g, off, none⟩ = w.cell? ⟨g, off, none⟩ := fun wx hk' g off hg => World.cell?_of_block ((HKw.trans' hk').block g hg (by simp))
      have HS1 : Hid (∀ wx, Keeps [] wr wx → (loadVar 23 ⟨w.heap.size, 17, none⟩).run Tryz.prog wx = .ok (.slice (some ⟨g1, off1, none⟩) m c1) wx) := fun wx hk' => load_sl Tryz.underlying23 (hb1.keep hk' (by simp)) H5.out
      have HS2 : Hid (∀ wx, Keeps [] wr wx → (loadVar 23 ⟨w.heap.size + 1, 17, none⟩).run Tryz.prog wx = .ok (.slice (some ⟨g2, off2, none⟩) m c2) wx) := fun wx hk' => load_sl Tryz.underlying23 (hb2.keep hk' (by simp)) H6.out
      have HN1 : Hid (∀ wx, Keeps [] wr wx → (loadVar 66 ⟨g1, off1 + k * 2, none⟩).run Tryz.prog wx = .ok (.agg #[.string (enm n.E k), .int .i64 (eno n.E k)]) wx) := fun wx hk' => load_entry ((hcc wx hk' _ _ hgg1).trans d1) ((hcc wx hk' _ _ hgg1).trans d2)
      have HN2 : Hid (∀ wx, Keeps [] wr wx → (loadVar 66 ⟨g2, off2 + k * 2, none⟩).run Tryz.prog wx = .ok (.agg #[.string (enm n.E k), .int .i64 (eno n.E k)]) wx) := fun wx hk' => load_entry ((hcc wx hk' _ _ hgg2).trans d3) ((hcc wx hk' _ _ hgg2).trans d4)
      clear hcc d1 d2 d3 d4 hb1 hb2
      generalize enm n.E k = s at *
      generalize eno n.E k = x at *
      go_wp2_with fail
      refine wp_region_each (S := fun wx => Keeps [] wr wx) (by kernel_rfl) (by kernel_rfl) (fun d _ _ _ _ h => by cases d <;> exact h) ((Keeps.refl _ _).drew) (by kernel_rfl) ?_
      repeat (first
        | (refine EachList.cons (.slice (some ⟨g1, off1, none⟩) m c1) (EachIf.load rfl 23 (.tmp 55) rfl _ rfl fun wx hx => HS1.out wx hx) ?_; simp only [Act.put, List.setIfInBounds_toArray, List.set_cons_zero, List.set_cons_succ])
        | (refine EachList.cons (.slice (some ⟨g2, off2, none⟩) m c2) (EachIf.load rfl 23 (.tmp 60) rfl _ rfl fun wx hx => HS2.out wx hx) ?_; simp only [Act.put, List.setIfInBounds_toArray, List.set_cons_zero, List.set_cons_succ])
        | (refine EachList.cons (.agg #[.string s, .int .i64 x]) (EachIf.load rfl 66 (.tmp 58) rfl _ rfl fun wx hx => HN1.out wx hx) ?_; simp only [Act.put, List.setIfInBounds_toArray, List.set_cons_zero, List.set_cons_succ])
        | (refine EachList.cons (.agg #[.string s, .int .i64 x]) (EachIf.load rfl 66 (.tmp 63) rfl _ rfl fun wx hx => HN2.out wx hx) ?_; simp only [Act.put, List.setIfInBounds_toArray, List.set_cons_zero, List.set_cons_succ])
        | (refine EachList.cons ?_ (EachIf.val rfl ?h) ?_; (case h => (intro wx hx; clear hx; go_simp; rfl)); simp only [Act.put, List.setIfInBounds_toArray, List.set_cons_zero, List.set_cons_succ]))
      refine EachList.done fun wx hx => ?_
      have HKX := Lib.hid (HP.out.trans' hx)
      clear hx
      go_wp2_with fail
      go_roundg gg
      case measure => omega
      case rel => exact ⟨k + 1, by omega, by go_num, HKX.out⟩

end Go.Proofs.YtblnnedkfkiofaaGreatDoor

namespace Go.Proofs.YtblnnedkfkiofaaGreatDoor
open Go.RowKit

/-- What Few leaves. -/
def FewPost (w : World) (n : Ino) (e : Ending) (w' : World) : Prop := (∃ b, e = .returned (.bool b) ∧ (b = true → n.E.length ≤ 40 ∧ ∀ k, k < n.E.length → (enm n.E k).size ≤ 50)) ∧ Keeps [] w w'

set_option maxRecDepth 100000 in
set_option maxHeartbeats 2000000 in
theorem refFew_at (n : Ino) (v : Value) (g : Nat) (hB : n.B.length = 13) (w : World) (hE : EReads w v g n.E) :
    Calls Tryz.prog 8 #[.agg (inoC n v)] w (FewPost w n) := by
  have HFP : Hid (∀ b w', (b = true → n.E.length ≤ 40 ∧ ∀ k, k < n.E.length → (enm n.E k).size ≤ 50) → Keeps [] w w' → FewPost w n (.returned (.bool b)) w') := fun b w' h hk => ⟨⟨b, rfl, h⟩, hk⟩
  obtain ⟨a, cap, rfl, hcap, hmax, HEC⟩ := hE.open
  have hat := inoAt (.slice a n.E.length cap) hB
  generalize inoC n (.slice a n.E.length cap) = Z at *
  have hb0 := Blk.new w Z 25
  have c17 : (w.alloc (.cells Z 25)).cell? ⟨w.heap.size, 17, none⟩ = some (.slice a n.E.length cap) := by rw [hb0.cell]; exact hat.f5
  have HK : Hid (Keeps [] w (w.alloc (.cells Z 25))) := (Keeps.refl [] w).alloc _
  unfold maxLen at hmax
  clear hb0 hat hB hE
  generalize hm : n.E.length = m at *
  clear hm
  go_enter Tryz.func8, Tryz.ntmps8
  go_wp2_with fail
  go_loopg [3] 50 (fun gh s3 wx => ∃ k : Nat, k + gh = 50 ∧ k ≤ m ∧ s3 = .int .i64 (k : Int) ∧ wx = w.alloc (.cells Z 25) ∧ Hid (∀ i, i < k → (enm n.E i).size ≤ 50))
  case atStart => exact ⟨0, by omega, by omega, rfl, rfl, by intro i hi; omega⟩
  case round =>
    obtain ⟨k, hk, hkm, rfl, rfl, HP⟩ := hrel
    by_cases hlt : k < m
    · have h1 : (k : Int) < (m : Int) := by omega
      cases gk with
      | zero =>
        have h50 : ¬ (k : Int) < 50 := by omega
        have h40 : ¬ (m : Int) ≤ 40 := by omega
        go_wp2_with fail
        go_ret
        exact HFP.out _ _ (fun h => (by cases h)) HK.out
      | succ gg =>
        have h50 : (k : Int) < 50 := by omega
        have hk0 : (0 : Int) ≤ (k : Int) := by omega
        obtain ⟨hg, off, rfl, e0, -⟩ := HEC.out k hlt
        have c0 : (w.alloc (.cells Z 25)).cell? ⟨g, off + k * 2, none⟩ = some (.string (enm n.E k)) := (World.cell?_of_block (w := w) (a := ⟨g, off + k * 2, none⟩) (HK.out.block g hg (by simp))).trans e0
        clear e0
        by_cases hs : 50 < (enm n.E k).size
        · have hs' : (50 : Int) < ((enm n.E k).size : Int) := by omega
          clear HEC HP
          generalize enm n.E k = nm at *
          go_wp2_with fail
          go_ret
          exact HFP.out _ _ (fun h => (by cases h)) HK.out
        · have hs' : ¬ (50 : Int) < ((enm n.E k).size : Int) := by omega
          have HP2 : Hid (∀ i, i < k + 1 → (enm n.E i).size ≤ 50) := fun i hi => by
            by_cases e : i = k
            · subst e; omega
            · exact HP.out i (by omega)
          clear HEC HP
          generalize enm n.E k = nm at *
          go_wp2_with fail
          go_roundg gg
          case measure => omega
          case rel => exact ⟨k + 1, by omega, by omega, by go_num, rfl, HP2⟩
    · have h1 : ¬ (k : Int) < (m : Int) := by omega
      obtain rfl : k = m := by omega
      have HQ := Lib.hid HP.out
      go_wp2_with fail
      go_ret
      exact HFP.out _ _ (fun h => ⟨by have := of_decide_eq_true h; omega, HQ.out⟩) HK.out

end Go.Proofs.YtblnnedkfkiofaaGreatDoor

namespace Go.Proofs.YtblnnedkfkiofaaGreatDoor
open Go.RowKit

/-- What the reference asks of each number. -/
def NumR (n : Ino) (k : Nat) : Prop := (0 ≤ n.B.getD k 0 ∧ n.B.getD k 0 ≤ 255) ∧ (0 < n.B.getD k 0 → n.K ≠ 2 ∧ 64 * (k : Int) < n.S ∧ ∀ j, j < k → n.B.getD j 0 ≠ n.B.getD k 0)

theorem right_num {n : Ino} (hB : n.B.length = 13) (h : RightP n) : ∀ k, k < 13 → NumR n k := by
  intro k hk
  rcases h.2.2 with ⟨hK, h1, h2, h3, h4⟩ | ⟨hK, h1, h2, h3, h4⟩
  · have h5 := h4 k hk
    refine ⟨by omega, fun h0 => ⟨by omega, ?_, fun j hj => h5.2 (by omega) j hj⟩⟩
    rcases Nat.lt_or_ge k (partsN n.S.toNat) with hp | hp
    · unfold partsN at hp; omega
    · have hp13 : partsN n.S.toNat ≤ 13 := by unfold partsN; omega
      rw [h3, uptoL_get hB hp13, if_neg (by omega)] at h0
      omega
  · have e : n.B.getD k 0 = 0 := by
      rw [h3, List.getD_eq_getElem?_getD, List.getElem?_replicate]
      split <;> rfl
    exact ⟨by omega, fun h0 => by omega⟩

theorem num_file {n : Ino} (hB : n.B.length = 13) (hF : n.F = 1 ∨ n.F = 2) (hL : 0 ≤ n.L ∧ n.L ≤ 65535) (hK : n.K = 1) (h : ∀ k, k < 13 → NumR n k) : RightP n ↔ (0 ≤ n.S ∧ n.S ≤ 832 ∧ n.E.length = 0) := by
  constructor
  · intro hr
    rcases hr.2.2 with ⟨_, h1, h2, h3, h4⟩ | ⟨hK', _⟩
    · exact ⟨h1.1, h1.2, h2⟩
    · omega
  · rintro ⟨h1, h2, h3⟩
    have hp13 : partsN n.S.toNat ≤ 13 := by unfold partsN; omega
    refine ⟨hF, hL, .inl ⟨hK, ⟨h1, h2⟩, h3, z_ext (by rw [hB, uptoL_len hB hp13]) fun k hk => ?_, fun k hk => ?_⟩⟩
    · rw [hB] at hk
      rw [uptoL_get hB hp13]
      split
      · rfl
      · rename_i hp
        have h5 := h k hk
        rcases Int.lt_or_le 0 (n.B.getD k 0) with h0 | h0
        · have := (h5.2 h0).2.1
          unfold partsN at hp
          omega
        · have := h5.1.1
          omega
    · have h5 := h k hk
      refine ⟨⟨h5.1.1, by have := h5.1.2; omega⟩, fun h0 => (h5.2 (by have := h5.1.1; omega)).2.2⟩

theorem num_dir {n : Ino} (hB : n.B.length = 13) (hF : n.F = 1 ∨ n.F = 2) (hL : 0 ≤ n.L ∧ n.L ≤ 65535) (hK : n.K = 2) (h : ∀ k, k < 13 → NumR n k) : RightP n ↔ (n.E.length ≤ 24 ∧ n.S = n.E.length) ∧ ∀ k, k < n.E.length → EntP n.E k := by
  constructor
  · intro hr
    rcases hr.2.2 with ⟨hK', _⟩ | ⟨_, h1, h2, h3, h4⟩
    · omega
    · exact ⟨⟨h1, h2⟩, h4⟩
  · rintro ⟨⟨h1, h2⟩, h3⟩
    refine ⟨hF, hL, .inr ⟨hK, h1, h2, z_ext (by rw [hB]; rfl) fun k hk => ?_, h3⟩⟩
    rw [hB] at hk
    have h5 := h k hk
    have e : (List.replicate 13 (0 : Int)).getD k 0 = 0 := by
      rw [List.getD_eq_getElem?_getD, List.getElem?_replicate]
      split <;> rfl
    rw [e]
    rcases Int.lt_or_le 0 (n.B.getD k 0) with h0 | h0
    · exact absurd hK (h5.2 h0).1
    · have := h5.1.1
      omega

set_option maxRecDepth 100000 in
set_option maxHeartbeats 8000000 in
theorem refRight_at (n : Ino) (v : Value) (g : Nat) (hB : n.B.length = 13) (w : World) (hE : EReads w v g n.E) (hN : ∀ k, k < n.E.length → (enm n.E k).size ≤ 9223372036854775807) :
    Calls Tryz.prog 9 #[.agg (inoC n v)] w fun e w' => e = .returned (.bool (decide (RightP n))) ∧ Keeps [] w w' := by
  obtain ⟨a, cap, rfl, hcap, hmax, HEC⟩ := hE.open
  have HN := Lib.hid hN
  unfold maxLen at hmax
  obtain ⟨Z, hZ⟩ : ∃ Z, Z = inoC n (.slice a n.E.length cap) := ⟨_, rfl⟩
  have hat : InoAt Z n (.slice a n.E.length cap) := by rw [hZ]; exact inoAt _ hB
  rw [← hZ]
  have hb0 := Blk.new w Z 25
  have c0 : (w.alloc (.cells Z 25)).cell? ⟨w.heap.size, 0, none⟩ = some (.int .i64 n.F) := by rw [hb0.cell]; exact hat.f0
  have c1 : (w.alloc (.cells Z 25)).cell? ⟨w.heap.size, 1, none⟩ = some (.int .i64 n.K) := by rw [hb0.cell]; exact hat.f1
  have c2 : (w.alloc (.cells Z 25)).cell? ⟨w.heap.size, 2, none⟩ = some (.int .i64 n.L) := by rw [hb0.cell]; exact hat.f2
  have c3 : (w.alloc (.cells Z 25)).cell? ⟨w.heap.size, 3, none⟩ = some (.int .i64 n.S) := by rw [hb0.cell]; exact hat.f3
  have c17 : (w.alloc (.cells Z 25)).cell? ⟨w.heap.size, 17, none⟩ = some (.slice a n.E.length cap) := by rw [hb0.cell]; exact hat.f5
  have HCB : Hid (∀ k, k < 13 → (w.alloc (.cells Z 25)).cell? ⟨w.heap.size, 4 + k, none⟩ = some (.int .i64 (n.B.getD k 0))) := fun k hk => by rw [hb0.cell]; exact hat.f4 k hk
  have HK : Hid (Keeps [] w (w.alloc (.cells Z 25))) := (Keeps.refl [] w).alloc _
  have HB0 := Lib.hid hb0
  have H3 := Lib.hid hat.f3
  have H17 := Lib.hid hat.f5
  have HR := Lib.hid (right_num hB)
  have HRP : Hid (RightP n → (n.F = 1 ∨ n.F = 2) ∧ (n.K = 1 ∨ n.K = 2) ∧ 0 ≤ n.L ∧ n.L ≤ 65535) := fun h => ⟨h.1, h.2.2.imp (·.1) (·.1), h.2.1⟩
  have HNF := Lib.hid (num_file hB)
  have HND := Lib.hid (num_dir hB)
  have HNR : Hid (∀ k, NumR n k ↔ (0 ≤ n.B.getD k 0 ∧ n.B.getD k 0 ≤ 255) ∧ (0 < n.B.getD k 0 → n.K ≠ 2 ∧ 64 * (k : Int) < n.S ∧ ∀ j, j < k → n.B.getD j 0 ≠ n.B.getD k 0)) := fun _ => Iff.rfl
  clear hb0 hat hZ hB hE hN
  generalize hfe : n.F = f at *
  generalize hke : n.K = kd at *
  generalize hle : n.L = lk at *
  generalize hse : n.S = sz at *
  generalize hme : n.E.length = m at *
  clear hfe hke hle hse hme
  by_cases f1 : f < 1
  · have HF : Hid (decide (RightP n) = false) := decide_eq_false fun h => by have := HRP.out h; omega
    clear HRP HNF HND HNR HR HEC HN HCB
    go_enter Tryz.func9, Tryz.ntmps9
    go_wp2_with fail
    go_ret
    exact ⟨by rw [HF.out]; rfl, HK.out⟩
  · skip
    by_cases f2 : 2 < f
    · have HF : Hid (decide (RightP n) = false) := decide_eq_false fun h => by have := HRP.out h; omega
      clear HRP HNF HND HNR HR HEC HN HCB
      go_enter Tryz.func9, Tryz.ntmps9
      go_wp2_with fail
      go_ret
      exact ⟨by rw [HF.out]; rfl, HK.out⟩
    · skip
      by_cases k1 : kd < 1
      · have HF : Hid (decide (RightP n) = false) := decide_eq_false fun h => by have := HRP.out h; omega
        clear HRP HNF HND HNR HR HEC HN HCB
        go_enter Tryz.func9, Tryz.ntmps9
        go_wp2_with fail
        go_ret
        exact ⟨by rw [HF.out]; rfl, HK.out⟩
      · skip
        by_cases k2 : 2 < kd
        · have HF : Hid (decide (RightP n) = false) := decide_eq_false fun h => by have := HRP.out h; omega
          clear HRP HNF HND HNR HR HEC HN HCB
          go_enter Tryz.func9, Tryz.ntmps9
          go_wp2_with fail
          go_ret
          exact ⟨by rw [HF.out]; rfl, HK.out⟩
        · skip
          by_cases l1 : lk < 0
          · have HF : Hid (decide (RightP n) = false) := decide_eq_false fun h => by have := HRP.out h; omega
            clear HRP HNF HND HNR HR HEC HN HCB
            go_enter Tryz.func9, Tryz.ntmps9
            go_wp2_with fail
            go_ret
            exact ⟨by rw [HF.out]; rfl, HK.out⟩
          · skip
            by_cases l2 : 65535 < lk
            · have HF : Hid (decide (RightP n) = false) := decide_eq_false fun h => by have := HRP.out h; omega
              clear HRP HNF HND HNR HR HEC HN HCB
              go_enter Tryz.func9, Tryz.ntmps9
              go_wp2_with fail
              go_ret
              exact ⟨by rw [HF.out]; rfl, HK.out⟩
            · skip
              have hfo : f = 1 ∨ f = 2 := by omega
              have hlo : 0 ≤ lk ∧ lk ≤ 65535 := by omega
              have HNF' : Hid (kd = 1 → (∀ k, k < 13 → NumR n k) → (RightP n ↔ (0 ≤ sz ∧ sz ≤ 832 ∧ m = 0))) := HNF.out hfo hlo
              have HND' : Hid (kd = 2 → (∀ k, k < 13 → NumR n k) → (RightP n ↔ (m ≤ 24 ∧ sz = m) ∧ ∀ k, k < m → EntP n.E k)) := HND.out hfo hlo
              have HKD : Hid (kd = 1 ∨ kd = 2) := by show _ ∨ _; omega
              clear HRP HNF HND hfo hlo
              go_enter Tryz.func9, Tryz.ntmps9
              go_wp2_with fail
              clear c0 c2 f1 f2 k1 k2 l1 l2
              go_loopg [3] 13 (fun gh s3 wx => ∃ k : Nat, k + gh = 13 ∧ s3 = .int .i64 (k : Int) ∧ wx = (w.alloc (.cells Z 25)) ∧ Hid (∀ i, i < k → NumR n i))
              case atStart => exact ⟨0, by omega, rfl, rfl, by intro i hi; omega⟩
              case round =>
                obtain ⟨k, hk, rfl, rfl, HP⟩ := hrel
                cases gk with
                | succ gg =>
                  have hk13 : k < 13 := by omega
                  have hlt : (k : Int) < 13 := by omega
                  have hk0 : (0 : Int) ≤ (k : Int) := by omega
                  have hcb := HCB.out k hk13
                  have hw64 : wrap64 (64 * (k : Int)) = 64 * (k : Int) := by unfold wrap64; omega
                  have HNO : Hid (¬ NumR n k → decide (RightP n) = false) := fun h => decide_eq_false fun hr => h (HR.out hr k hk13)
                  have HNK := Lib.hid (HNR.out k)
                  generalize hx : n.B.getD k 0 = x at *
                  by_cases x0 : x < 0
                  · have HF : Hid (decide (RightP n) = false) := HNO.out fun h => by have := HNK.out.1 h; omega
                    clear HNO HNK HNR HNF' HND' HR HEC HN HP hk
                    go_wp2_with fail
                    go_ret
                    exact ⟨by rw [HF.out]; rfl, HK.out⟩
                  · by_cases x1 : 255 < x
                    · have HF : Hid (decide (RightP n) = false) := HNO.out fun h => by have := HNK.out.1 h; omega
                      clear HNO HNK HNR HNF' HND' HR HEC HN HP hk
                      go_wp2_with fail
                      go_ret
                      exact ⟨by rw [HF.out]; rfl, HK.out⟩
                    · by_cases x2 : 0 < x
                      · by_cases x3 : kd = 2
                        · have HF : Hid (decide (RightP n) = false) := HNO.out fun h => (HNK.out.1 h).2 x2 |>.1 x3
                          subst x3
                          clear HNO HNK HNR HNF' HND' HR HEC HN HP hk
                          go_wp2_with fail
                          go_ret
                          exact ⟨by rw [HF.out]; rfl, HK.out⟩
                        · have x3' : (kd == 2) = false := by simpa using x3
                          by_cases x4 : sz ≤ 64 * (k : Int)
                          · have HF : Hid (decide (RightP n) = false) := HNO.out fun h => by have := ((HNK.out.1 h).2 x2).2.1; omega
                            clear HNO HNK HNR HNF' HND' HR HEC HN HP hk
                            go_wp2_with fail
                            go_ret
                            exact ⟨by rw [HF.out]; rfl, HK.out⟩
                          · have HSTEP : Hid ((∀ j, j < k → n.B.getD j 0 ≠ x) → ∀ i, i < k + 1 → NumR n i) := fun h i hi => by
                              by_cases e : i = k
                              · subst e; exact HNK.out.2 ⟨by omega, fun _ => ⟨x3, by omega, h⟩⟩
                              · exact HP.out i (by omega)
                            have HNE : Hid (∀ j, j < k → n.B.getD j 0 = x → decide (RightP n) = false) := fun j hj he => HNO.out fun h => ((HNK.out.1 h).2 x2).2.2 j hj he
                            clear HNO HNK HP
                            go_wp2_with fail
                            go_loopg [5] k (fun gh s5 wx => ∃ j : Nat, j + gh = k ∧ s5 = .int .i64 (j : Int) ∧ wx = (w.alloc (.cells Z 25)) ∧ Hid (∀ i, i < j → n.B.getD i 0 ≠ x))
                            case atStart => exact ⟨0, by omega, rfl, rfl, by intro i hi; omega⟩
                            case round =>
                              obtain ⟨j, hj, rfl, rfl, HQ⟩ := hrel
                              cases gk with
                              | zero =>
                                obtain rfl : j = k := by omega
                                have HNX := Lib.hid (HSTEP.out HQ.out)
                                clear HSTEP HNE HQ hj hw64 x3' x4
                                go_wp2_with fail
                                go_roundg gg
                                case measure => omega
                                case rel => exact ⟨j + 1, by omega, by go_num, rfl, HNX.out⟩
                              | succ g2 =>
                                have hjk : (j : Int) < (k : Int) := by omega
                                have hj0 : (0 : Int) ≤ (j : Int) := by omega
                                have hj13 : (j : Int) < 13 := by omega
                                have hcj := HCB.out j (by omega)
                                generalize hy : n.B.getD j 0 = y at *
                                by_cases e : y = x
                                · have HF := Lib.hid (HNE.out j (by omega) (by rw [hy, e]))
                                  subst e
                                  clear HSTEP HNE HQ HNR HNF' HND' HR HEC HN hj hk
                                  go_wp2_with fail
                                  go_ret
                                  exact ⟨by rw [HF.out]; rfl, HK.out⟩
                                · have e' : (y == x) = false := by simpa using e
                                  have HQ2 : Hid (∀ i, i < j + 1 → n.B.getD i 0 ≠ x) := fun i hi => by
                                    by_cases e2 : i = j
                                    · subst e2; rw [hy]; exact e
                                    · exact HQ.out i (by omega)
                                  clear HQ HSTEP
                                  go_wp2_with fail
                                  go_roundg g2
                                  case measure => omega
                                  case rel => exact ⟨j + 1, by omega, by go_num, rfl, HQ2.out⟩
                      · obtain rfl : x = 0 := by omega
                        have HNX : Hid (∀ i, i < k + 1 → NumR n i) := fun i hi => by
                          by_cases e : i = k
                          · subst e; exact HNK.out.2 ⟨by omega, fun h => by omega⟩
                          · exact HP.out i (by omega)
                        clear HNO HNK HP x0 x1 x2
                        go_wp2_with fail
                        go_loopg [5] k (fun gh s5 wx => ∃ j : Nat, j + gh = k ∧ s5 = .int .i64 (j : Int) ∧ wx = (w.alloc (.cells Z 25)))
                        case atStart => exact ⟨0, by omega, rfl, rfl⟩
                        case round =>
                          obtain ⟨j, hj, rfl, rfl⟩ := hrel
                          cases gk with
                          | zero =>
                            obtain rfl : j = k := by omega
                            clear hj
                            go_wp2_with fail
                            go_roundg gg
                            case measure => omega
                            case rel => exact ⟨j + 1, by omega, by go_num, rfl, HNX.out⟩
                          | succ g2 =>
                            have hjk : (j : Int) < (k : Int) := by omega
                            have hj0 : (0 : Int) ≤ (j : Int) := by omega
                            clear HNX
                            go_wp2_with fail
                            go_roundg g2
                            case measure => omega
                            case rel => exact ⟨j + 1, by omega, by go_num, rfl⟩
                | zero =>
                  obtain rfl : k = 13 := by omega
                  clear hk HR HNR HCB
                  rcases HKD.out with rfl | rfl
                  · have HD := Lib.hid (HNF'.out rfl HP.out)
                    clear HNF' HND' HP HKD HEC HN
                    by_cases s1 : sz < 0
                    · have HF : Hid (decide (RightP n) = false) := decide_eq_false fun h => by have := HD.out.1 h; omega
                      clear HD
                      go_wp2_with fail
                      go_ret
                      exact ⟨by rw [HF.out]; rfl, HK.out⟩
                    · by_cases s2 : 832 < sz
                      · have HF : Hid (decide (RightP n) = false) := decide_eq_false fun h => by have := HD.out.1 h; omega
                        clear HD
                        go_wp2_with fail
                        go_ret
                        exact ⟨by rw [HF.out]; rfl, HK.out⟩
                      · by_cases s3 : m = 0
                        · have HF : Hid (decide (RightP n) = true) := decide_eq_true (HD.out.2 ⟨by omega, by omega, s3⟩)
                          subst s3
                          clear HD
                          go_wp2_with fail
                          go_ret
                          exact ⟨by rw [HF.out]; rfl, HK.out⟩
                        · have HF : Hid (decide (RightP n) = false) := decide_eq_false fun h => by have := HD.out.1 h; omega
                          have s3' : ((m : Int) == 0) = false := by simp; omega
                          clear HD
                          go_wp2_with fail
                          go_ret
                          exact ⟨by rw [HF.out]; rfl, HK.out⟩
                  · have HD := Lib.hid (HND'.out rfl HP.out)
                    clear HNF' HND' HP HKD
                    go_wp2_with fail
                    clear c1 c3 c17
                    go_loopg [6] m (fun gh s6 wx => ∃ k : Nat, k + gh = m ∧ s6 = .int .i64 (k : Int) ∧ Hid ((∀ i, i < k → EntP n.E i) ∧ Keeps [] (w.alloc (.cells Z 25)) wx))
                    case atStart => exact ⟨0, by omega, rfl, by simp, Keeps.refl _ _⟩
                    case round =>
                      obtain ⟨k, hk, rfl, HR⟩ := hrel
                      have hbr := HB0.out.keep HR.out.2 (by simp)
                      have c17 : wr.cell? ⟨w.heap.size, 17, none⟩ = some (.slice a m cap) := by rw [hbr.cell]; exact H17.out
                      have c3 : wr.cell? ⟨w.heap.size, 3, none⟩ = some (.int .i64 sz) := by rw [hbr.cell]; exact H3.out
                      cases gk with
                      | zero =>
                        obtain rfl : k = m := by omega
                        have HKP := Lib.hid (HK.out.trans' HR.out.2)
                        have HD2 : Hid (RightP n ↔ (k ≤ 24 ∧ sz = k)) := by
                          show _ ↔ _
                          rw [HD.out]
                          exact ⟨fun h => h.1, fun h => ⟨h, HR.out.1⟩⟩
                        clear HR hk HD hbr HEC HN
                        by_cases s1 : 24 < k
                        · have HF : Hid (decide (RightP n) = false) := decide_eq_false fun h => by have := HD2.out.1 h; omega
                          clear HD2
                          go_wp2_with fail
                          go_ret
                          exact ⟨by rw [HF.out]; rfl, HKP.out⟩
                        · by_cases s2 : sz = k
                          · have HF : Hid (decide (RightP n) = true) := decide_eq_true (HD2.out.2 ⟨by omega, s2⟩)
                            have s2' : (sz == (k : Int)) = true := by simpa using s2
                            clear HD2 s2
                            go_wp2_with fail
                            go_ret
                            exact ⟨by rw [HF.out]; rfl, HKP.out⟩
                          · have HF : Hid (decide (RightP n) = false) := decide_eq_false fun h => s2 (HD2.out.1 h).2
                            have s2' : (sz == (k : Int)) = false := by simpa using s2
                            clear HD2
                            go_wp2_with fail
                            go_ret
                            exact ⟨by rw [HF.out]; rfl, HKP.out⟩
                      | succ gg =>
                        clear hbr c3
                        have hkm : k < m := by omega
                        have hlt : (k : Int) < (m : Int) := by omega
                        have hk0 : (0 : Int) ≤ (k : Int) := by omega
                        obtain ⟨hg, off, rfl, e0, e1⟩ := HEC.out k hkm
                        have hkw := HK.out.trans' HR.out.2
                        have HLE : Hid ((loadVar 66 ⟨g, off + k * 2, none⟩).run Tryz.prog wr = .ok (.agg #[.string (enm n.E k), .int .i64 (eno n.E k)]) wr) := load_entry ((World.cell?_of_block (hkw.block g hg (by simp))).trans e0) ((World.cell?_of_block (hkw.block g hg (by simp))).trans e1)
                        have HG := Lib.hid (fun wx => refGood_at (enm n.E k) (HN.out k hkm) wx)
                        have HEP : Hid (EntP n.E k ↔ goodN (bl (enm n.E k)) = true ∧ (0 ≤ eno n.E k ∧ eno n.E k ≤ 31) ∧ (0 < k → leB (enm n.E k) (enm n.E (k - 1)) = false)) := Iff.rfl
                        have HNO : Hid (¬ EntP n.E k → decide (RightP n) = false) := fun h => decide_eq_false fun hd => h ((HD.out.1 hd).2 k hkm)
                        have HKW := Lib.hid hkw
                        have HPRE := Lib.hid HR.out.1
                        have HKR := Lib.hid HR.out.2
                        have HPV : Hid (∀ q, k = q + 1 → wr.cell? ⟨g, off + q * 2, none⟩ = some (.string (enm n.E q))) := fun q hq => by
                          obtain ⟨-, off', ho', f0, -⟩ := HEC.out q (by omega)
                          cases ho'
                          exact (World.cell?_of_block (w := w) (a := ⟨g, off + q * 2, none⟩) (hkw.block g hg (by simp))).trans f0
                        have hza : ∀ w : World, (zeroValue 66).run Tryz.prog w = .ok (.agg #[.string ⟨#[]⟩, .int .i64 0]) w := fun w => by kernel_rfl
                        clear hkw e0 e1 HEC HR HD
                        generalize hnm : enm n.E k = nm at *
                        generalize eno n.E k = ino at *
                        go_wp2_with ((with_reducible show wpList _ _ _ (⟨_, .load 66 (.tmp 108), _, _, _, _⟩ :: _) _ _); refine wpList_load_any rfl 66 (.tmp 108) rfl _ rfl _ HLE.out ?_)
                        cases hgd : goodN (bl nm)
                        · have HF : Hid (decide (RightP n) = false) := HNO.out fun h => by have := (HEP.out.1 h).1; rw [hgd] at this; cases this
                          rw [hgd] at HG
                          clear HEP HNO hgd hk HPV HPRE HKR HN
                          refine wp_region_each (S := fun wx => wx = _) (by kernel_rfl) (by kernel_rfl) (fun d _ _ _ _ h => by cases d <;> exact h) rfl (by kernel_rfl) ?_
                          repeat (first
                            | (refine EachList.cons (.bool false) (EachIf.call rfl 28 #[.string nm] ?he ?h) ?_; (case he => (intro wz; go_simp)); (case h => exact fun wx hx => (HG.out wx).mono fun e w' he => ⟨he.1, he.2 ▸ hx⟩); simp only [Act.put, List.setIfInBounds_toArray, List.set_cons_zero, List.set_cons_succ])
                            | (refine EachList.cons undef (EachIf.off rfl) ?_; simp only [Act.put, List.setIfInBounds_toArray, List.set_cons_zero, List.set_cons_succ])
                            | ((with_reducible show EachList _ _ _ _ (⟨_, _, 4, _, _, _⟩ :: _) _); refine EachList.cons (.bool true) (EachIf.val rfl ?h) ?_; (case h => (intro wx hx; subst hx; first | (go_simp; done) | (go_simp; simp [*]; done))); simp only [Act.put, List.setIfInBounds_toArray, List.set_cons_zero, List.set_cons_succ])
                            | ((with_reducible show EachList _ _ _ _ (⟨_, _, 4, _, _, _⟩ :: _) _); refine EachList.cons (.bool false) (EachIf.val rfl ?h) ?_; (case h => (intro wx hx; subst hx; first | (go_simp; done) | (go_simp; simp [*]; done))); simp only [Act.put, List.setIfInBounds_toArray, List.set_cons_zero, List.set_cons_succ])
                            | (refine EachList.cons ?_ (EachIf.val rfl ?h) ?_; (case h => (intro wx hx; subst hx; go_simp; rfl)); simp only [Act.put, List.setIfInBounds_toArray, List.set_cons_zero, List.set_cons_succ]))
                          refine EachList.done fun wx hx => ?_
                          subst hx
                          go_wp2_with fail
                          go_ret
                          exact ⟨by rw [HF.out]; rfl, (HKW.out.alloc _).drew⟩
                        · rw [hgd] at HG
                          by_cases hi0 : ino < 0
                          · have HF : Hid (decide (RightP n) = false) := HNO.out fun h => by have := (HEP.out.1 h).2.1.1; omega
                            clear HEP HNO hgd hk HPV HPRE HKR HN
                            refine wp_region_each (S := fun wx => wx = _) (by kernel_rfl) (by kernel_rfl) (fun d _ _ _ _ h => by cases d <;> exact h) rfl (by kernel_rfl) ?_
                            repeat (first
                              | (refine EachList.cons (.bool true) (EachIf.call rfl 28 #[.string nm] ?he ?h) ?_; (case he => (intro wz; go_simp)); (case h => exact fun wx hx => (HG.out wx).mono fun e w' he => ⟨he.1, he.2 ▸ hx⟩); simp only [Act.put, List.setIfInBounds_toArray, List.set_cons_zero, List.set_cons_succ])
                              | (refine EachList.cons undef (EachIf.off rfl) ?_; simp only [Act.put, List.setIfInBounds_toArray, List.set_cons_zero, List.set_cons_succ])
                              | ((with_reducible show EachList _ _ _ _ (⟨_, _, 4, _, _, _⟩ :: _) _); refine EachList.cons (.bool true) (EachIf.val rfl ?h) ?_; (case h => (intro wx hx; subst hx; first | (go_simp; done) | (go_simp; simp [*]; done))); simp only [Act.put, List.setIfInBounds_toArray, List.set_cons_zero, List.set_cons_succ])
                              | ((with_reducible show EachList _ _ _ _ (⟨_, _, 4, _, _, _⟩ :: _) _); refine EachList.cons (.bool false) (EachIf.val rfl ?h) ?_; (case h => (intro wx hx; subst hx; first | (go_simp; done) | (go_simp; simp [*]; done))); simp only [Act.put, List.setIfInBounds_toArray, List.set_cons_zero, List.set_cons_succ])
                              | (refine EachList.cons ?_ (EachIf.val rfl ?h) ?_; (case h => (intro wx hx; subst hx; go_simp; rfl)); simp only [Act.put, List.setIfInBounds_toArray, List.set_cons_zero, List.set_cons_succ]))
                            refine EachList.done fun wx hx => ?_
                            subst hx
                            go_wp2_with fail
                            go_ret
                            exact ⟨by rw [HF.out]; rfl, (HKW.out.alloc _).drew⟩
                          · by_cases hi1 : 31 < ino
                            · have HF : Hid (decide (RightP n) = false) := HNO.out fun h => by have := (HEP.out.1 h).2.1.2; omega
                              clear HEP HNO hgd hk HPV HPRE HKR HN
                              refine wp_region_each (S := fun wx => wx = _) (by kernel_rfl) (by kernel_rfl) (fun d _ _ _ _ h => by cases d <;> exact h) rfl (by kernel_rfl) ?_
                              repeat (first
                                | (refine EachList.cons (.bool true) (EachIf.call rfl 28 #[.string nm] ?he ?h) ?_; (case he => (intro wz; go_simp)); (case h => exact fun wx hx => (HG.out wx).mono fun e w' he => ⟨he.1, he.2 ▸ hx⟩); simp only [Act.put, List.setIfInBounds_toArray, List.set_cons_zero, List.set_cons_succ])
                                | (refine EachList.cons undef (EachIf.off rfl) ?_; simp only [Act.put, List.setIfInBounds_toArray, List.set_cons_zero, List.set_cons_succ])
                                | ((with_reducible show EachList _ _ _ _ (⟨_, _, 4, _, _, _⟩ :: _) _); refine EachList.cons (.bool true) (EachIf.val rfl ?h) ?_; (case h => (intro wx hx; subst hx; first | (go_simp; done) | (go_simp; simp [*]; done))); simp only [Act.put, List.setIfInBounds_toArray, List.set_cons_zero, List.set_cons_succ])
                                | ((with_reducible show EachList _ _ _ _ (⟨_, _, 4, _, _, _⟩ :: _) _); refine EachList.cons (.bool false) (EachIf.val rfl ?h) ?_; (case h => (intro wx hx; subst hx; first | (go_simp; done) | (go_simp; simp [*]; done))); simp only [Act.put, List.setIfInBounds_toArray, List.set_cons_zero, List.set_cons_succ])
                                | (refine EachList.cons ?_ (EachIf.val rfl ?h) ?_; (case h => (intro wx hx; subst hx; go_simp; rfl)); simp only [Act.put, List.setIfInBounds_toArray, List.set_cons_zero, List.set_cons_succ]))
                              refine EachList.done fun wx hx => ?_
                              subst hx
                              go_wp2_with fail
                              go_ret
                              exact ⟨by rw [HF.out]; rfl, (HKW.out.alloc _).drew⟩
                            · by_cases hkz : k = 0
                              · have HPN : Hid (∀ i, i < k + 1 → EntP n.E i) := fun i hi => by
                                  obtain rfl : i = k := by omega
                                  exact HEP.out.2 ⟨hgd, ⟨by omega, by omega⟩, fun h => absurd h (by omega)⟩
                                have hkn : ¬ (0 : Int) < (k : Int) := by omega
                                have hkd : decide (0 < k) = false := decide_eq_false (by omega)
                                clear HEP HNO hgd HPV HPRE hkz HN
                                refine wp_region_each (S := fun wx => wx = _) (by kernel_rfl) (by kernel_rfl) (fun d _ _ _ _ h => by cases d <;> exact h) rfl (by kernel_rfl) ?_
                                repeat (first
                                  | (refine EachList.cons (.bool true) (EachIf.call rfl 28 #[.string nm] ?he ?h) ?_; (case he => (intro wz; go_simp)); (case h => exact fun wx hx => (HG.out wx).mono fun e w' he => ⟨he.1, he.2 ▸ hx⟩); simp only [Act.put, List.setIfInBounds_toArray, List.set_cons_zero, List.set_cons_succ])
                                  | (refine EachList.cons undef (EachIf.off rfl) ?_; simp only [Act.put, List.setIfInBounds_toArray, List.set_cons_zero, List.set_cons_succ])
                                  | ((with_reducible show EachList _ _ _ _ (⟨_, _, 4, _, _, _⟩ :: _) _); refine EachList.cons (.bool true) (EachIf.val rfl ?h) ?_; (case h => (intro wx hx; subst hx; first | (go_simp; done) | (go_simp; simp [*]; done))); simp only [Act.put, List.setIfInBounds_toArray, List.set_cons_zero, List.set_cons_succ])
                                  | ((with_reducible show EachList _ _ _ _ (⟨_, _, 4, _, _, _⟩ :: _) _); refine EachList.cons (.bool false) (EachIf.val rfl ?h) ?_; (case h => (intro wx hx; subst hx; first | (go_simp; done) | (go_simp; simp [*]; done))); simp only [Act.put, List.setIfInBounds_toArray, List.set_cons_zero, List.set_cons_succ])
                                  | (refine EachList.cons ?_ (EachIf.val rfl ?h) ?_; (case h => (intro wx hx; subst hx; go_simp; rfl)); simp only [Act.put, List.setIfInBounds_toArray, List.set_cons_zero, List.set_cons_succ]))
                                refine EachList.done fun wx hx => ?_
                                subst hx
                                go_wp2_with fail
                                go_roundg gg
                                case measure => omega
                                case rel => exact ⟨k + 1, by omega, by go_num, HPN.out, (HKR.out.alloc _).drew⟩
                              · obtain ⟨q, hq⟩ : ∃ q, k = q + 1 := ⟨k - 1, by omega⟩
                                have hpv0 := HPV.out q hq
                                have hpv : ∀ o, (wr.alloc o).cell? ⟨g, off + q * 2, none⟩ = some (.string (enm n.E q)) := fun o => by
                                  rw [World.cell?_alloc_some _ _ _ (by rw [hpv0]; rfl)]
                                  exact hpv0
                                have c17a : ∀ o, (wr.alloc o).cell? ⟨w.heap.size, 17, none⟩ = some (.slice (some ⟨g, off, none⟩) m cap) := fun o => by
                                  rw [World.cell?_alloc_some _ _ _ (by rw [c17]; rfl)]
                                  exact c17
                                clear hpv0
                                have hkp : (0 : Int) < (k : Int) := by omega
                                have hkd : decide (0 < k) = true := decide_eq_true (by omega)
                                have hkq : (k : Int) - 1 = (q : Int) := by omega
                                have hqm : (q : Int) < (m : Int) := by omega
                                have hq0 : (0 : Int) ≤ (q : Int) := by omega
                                have hwq : IntKind.i64.wrap (q : Int) = (q : Int) := IntWalk.i64_in _ (by omega)
                                have hlb : ∀ b, leB nm (enm n.E q) = b → (Op.bytesLess nm.toList (enm n.E q).toList || (nm.toList == (enm n.E q).toList)) = b := fun b h => h
                                have HEP2 : Hid (EntP n.E k ↔ leB nm (enm n.E q) = false) := by
                                  show _ ↔ _
                                  rw [HEP.out, show k - 1 = q by omega]
                                  exact ⟨fun h => h.2.2 (by omega), fun h => ⟨hgd, ⟨by omega, by omega⟩, fun _ => h⟩⟩
                                generalize enm n.E q = pm at *
                                cases hle : leB nm pm
                                · have HPN : Hid (∀ i, i < k + 1 → EntP n.E i) := fun i hi => by
                                    by_cases e : i = k
                                    · subst e; exact HEP2.out.2 hle
                                    · exact HPRE.out i (by omega)
                                  have hlb2 := hlb _ hle
                                  clear HEP HEP2 HNO hgd HPV HPRE hkz hlb hle hq HN
                                  refine wp_region_each (S := fun wx => wx = _) (by kernel_rfl) (by kernel_rfl) (fun d _ _ _ _ h => by cases d <;> exact h) rfl (by kernel_rfl) ?_
                                  repeat (first
                                    | (refine EachList.cons (.bool true) (EachIf.call rfl 28 #[.string nm] ?he ?h) ?_; (case he => (intro wz; go_simp)); (case h => exact fun wx hx => (HG.out wx).mono fun e w' he => ⟨he.1, he.2 ▸ hx⟩); simp only [Act.put, List.setIfInBounds_toArray, List.set_cons_zero, List.set_cons_succ])
                                    | (refine EachList.cons undef (EachIf.off rfl) ?_; simp only [Act.put, List.setIfInBounds_toArray, List.set_cons_zero, List.set_cons_succ])
                                    | ((with_reducible show EachList _ _ _ _ (⟨_, _, 4, _, _, _⟩ :: _) _); refine EachList.cons (.bool true) (EachIf.val rfl ?h) ?_; (case h => (intro wx hx; subst hx; first | (go_simp; done) | (go_simp; simp [*]; done))); simp only [Act.put, List.setIfInBounds_toArray, List.set_cons_zero, List.set_cons_succ])
                                    | ((with_reducible show EachList _ _ _ _ (⟨_, _, 4, _, _, _⟩ :: _) _); refine EachList.cons (.bool false) (EachIf.val rfl ?h) ?_; (case h => (intro wx hx; subst hx; first | (go_simp; done) | (go_simp; simp [*]; done))); simp only [Act.put, List.setIfInBounds_toArray, List.set_cons_zero, List.set_cons_succ])
                                    | ((with_reducible show EachList _ _ _ _ (⟨some 133, _, _, _, _, _⟩ :: _) _); refine EachList.cons (.int .i64 (q : Int)) (EachIf.val rfl ?h) ?_; (case h => (intro wx hx; subst hx; go_simp; done)); simp only [Act.put, List.setIfInBounds_toArray, List.set_cons_zero, List.set_cons_succ])
                                    | (refine EachList.cons ?_ (EachIf.val rfl ?h) ?_; (case h => (intro wx hx; subst hx; go_simp; rfl)); simp only [Act.put, List.setIfInBounds_toArray, List.set_cons_zero, List.set_cons_succ]))
                                  refine EachList.done fun wx hx => ?_
                                  subst hx
                                  go_wp2_with fail
                                  go_roundg gg
                                  case measure => omega
                                  case rel => exact ⟨k + 1, by omega, by go_num, HPN.out, (HKR.out.alloc _).drew⟩
                                · have HF : Hid (decide (RightP n) = false) := HNO.out fun h => by
                                    have := HEP2.out.1 h
                                    rw [hle] at this
                                    cases this
                                  have hlb2 := hlb _ hle
                                  clear HEP HEP2 HNO hgd HPV HPRE hkz hlb hle hq hk HKR HN
                                  refine wp_region_each (S := fun wx => wx = _) (by kernel_rfl) (by kernel_rfl) (fun d _ _ _ _ h => by cases d <;> exact h) rfl (by kernel_rfl) ?_
                                  repeat (first
                                    | (refine EachList.cons (.bool true) (EachIf.call rfl 28 #[.string nm] ?he ?h) ?_; (case he => (intro wz; go_simp)); (case h => exact fun wx hx => (HG.out wx).mono fun e w' he => ⟨he.1, he.2 ▸ hx⟩); simp only [Act.put, List.setIfInBounds_toArray, List.set_cons_zero, List.set_cons_succ])
                                    | (refine EachList.cons undef (EachIf.off rfl) ?_; simp only [Act.put, List.setIfInBounds_toArray, List.set_cons_zero, List.set_cons_succ])
                                    | ((with_reducible show EachList _ _ _ _ (⟨_, _, 4, _, _, _⟩ :: _) _); refine EachList.cons (.bool true) (EachIf.val rfl ?h) ?_; (case h => (intro wx hx; subst hx; first | (go_simp; done) | (go_simp; simp [*]; done))); simp only [Act.put, List.setIfInBounds_toArray, List.set_cons_zero, List.set_cons_succ])
                                    | ((with_reducible show EachList _ _ _ _ (⟨_, _, 4, _, _, _⟩ :: _) _); refine EachList.cons (.bool false) (EachIf.val rfl ?h) ?_; (case h => (intro wx hx; subst hx; first | (go_simp; done) | (go_simp; simp [*]; done))); simp only [Act.put, List.setIfInBounds_toArray, List.set_cons_zero, List.set_cons_succ])
                                    | ((with_reducible show EachList _ _ _ _ (⟨some 133, _, _, _, _, _⟩ :: _) _); refine EachList.cons (.int .i64 (q : Int)) (EachIf.val rfl ?h) ?_; (case h => (intro wx hx; subst hx; go_simp; done)); simp only [Act.put, List.setIfInBounds_toArray, List.set_cons_zero, List.set_cons_succ])
                                    | (refine EachList.cons ?_ (EachIf.val rfl ?h) ?_; (case h => (intro wx hx; subst hx; go_simp; rfl)); simp only [Act.put, List.setIfInBounds_toArray, List.set_cons_zero, List.set_cons_succ]))
                                  refine EachList.done fun wx hx => ?_
                                  subst hx
                                  go_wp2_with fail
                                  go_ret
                                  exact ⟨by rw [HF.out]; rfl, (HKW.out.alloc _).drew⟩

end Go.Proofs.YtblnnedkfkiofaaGreatDoor
