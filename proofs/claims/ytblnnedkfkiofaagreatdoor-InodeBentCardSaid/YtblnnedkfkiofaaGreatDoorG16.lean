/-
  Layer 8: the law InodeBent: the sheet behind each call; what Drop makes of the words. Layer 8: the law InodeBent.
-/
import Derived.Test.YtblnnedkfkiofaaGreatDoorG15
import Derived.Test.YtblnnedkfkiofaaGreatDoorG14
import Derived.Test.YtblnnedkfkiofaaGreatDoorG09
import Derived.Test.YtblnnedkfkiofaaGreatDoorG03
import Derived.Test.YtblnnedkfkiofaaGreatDoorG00
namespace Go.Proofs.YtblnnedkfkiofaaGreatDoor
open Go.RowKit

theorem zero8_64 {q : Nat} : ∀ p ∈ rowPs q (List.replicate 8 0) 8, 0 ≤ p.2 ∧ p.2 < 18446744073709551616 := by
  intro p hp
  unfold rowPs at hp
  obtain ⟨j, -, rfl⟩ := List.mem_map.1 hp
  have : (List.replicate 8 (0 : Int)).getD j 0 = 0 := by
    rw [List.getD_eq_getElem?_getD, List.getElem?_replicate]
    split <;> rfl
  show 0 ≤ (List.replicate 8 (0 : Int)).getD j 0 ∧ (List.replicate 8 (0 : Int)).getD j 0 < _
  rw [this]
  omega

/-- What is known of words behind a drop. -/
structure DropEff (X : List Int) (i : Int) (n : Ino) (own : List Nat) (X' : List Int) : Prop where
  free : FreeP X' i
  w64 : In64 X'
  len : X'.length = 3128
  used : ∀ c, c < 256 → c ≠ 0 → usedN X' c = (usedN X c && !decide (c ∈ own ++ filesL n))
  other : ∀ k, 820 ≤ k → ¬ (824 + 8 * i.toNat ≤ k ∧ k < 824 + 8 * i.toNat + 8) → X'.getD k 0 = X.getD k 0
  count : freeL X' = freeL (putAll X (givePs X (own ++ filesL n)))

theorem drop_eff {X : List Int} (h64 : In64 X) (hX : X.length = 3128) {i : Int} (hi : 0 ≤ i ∧ i < 32) {n : Ino} {own : List Nat} : DropEff X i n own (putAll X (dropPs X i.toNat n own)) := by
  obtain ⟨g1, g2, g3⟩ := givePs_state (own ++ filesL n) X h64 hX
  have gl : (putAll X (givePs X (own ++ filesL n))).length = 3128 := by rw [putAll_len, hX]
  unfold dropPs
  rw [putAll_append]
  obtain ⟨Y, hY⟩ : ∃ Y, Y = putAll X (givePs X (own ++ filesL n)) := ⟨_, rfl⟩
  rw [← hY] at g1 g2 g3 gl ⊢
  have hm : ∀ p ∈ rowPs (824 + 8 * i.toNat) (List.replicate 8 0) 8, 824 + 8 * i.toNat ≤ p.1.toNat ∧ p.1.toNat < 824 + 8 * i.toNat + 8 := by
    intro p hp
    unfold rowPs at hp
    obtain ⟨j, hj, rfl⟩ := List.mem_map.1 hp
    have := List.mem_range.1 hj
    show _ ≤ ((824 + 8 * i.toNat + j : Nat) : Int).toNat ∧ ((824 + 8 * i.toNat + j : Nat) : Int).toNat < _
    omega
  have hb := bits_same (X := Y) (Y := putAll Y (rowPs (824 + 8 * i.toNat) (List.replicate 8 0) 8)) fun k hk => putAll_other _ _ _ fun p hp => by have := hm p hp; omega
  refine ⟨?_, g1.put zero8_64, by rw [putAll_len, gl], fun c hc h0 => by rw [hb.1 c hc, g2 c hc h0], fun k hk h1 => ?_, by rw [hb.2, hY]⟩
  · unfold FreeP inoAtX
    exact rowL_put_eq gl _ (by omega) (by simp)
  · rw [putAll_other _ _ _ fun p hp => by have := hm p hp; omega]
    exact g3 k hk

/-- A sheet, as it stands. -/
def BendAt (W0 : World) (b gp : Nat) (ps : List (Int × Int)) (wx : World) : Prop :=
  ShAt wx b gp (padW []) ps ∧ gp < wx.heap.size ∧ W0.heap.size ≤ gp ∧ ps.length ≤ 5000 ∧ In64 (putAll (padW []) ps) ∧ Keeps [] W0 wx

theorem BendAt.keep {W0 wx w' : World} {b gp : Nat} {ps : List (Int × Int)} (h : BendAt W0 b gp ps wx) (hk : Keeps [] wx w') : BendAt W0 b gp ps w' := by
  obtain ⟨h1, h2, h3, h4, h5, h6⟩ := h
  exact ⟨h1.keep hk (by simp) (by simp), Nat.lt_of_lt_of_le h2 hk.size, h3, h4, h5, h6.trans' hk⟩

/-- The sheet as words are bent. -/
def BendMid (W0 : World) (b k : Nat) (wx : World) : Prop := ∃ gp ps, BendAt W0 b gp ps wx ∧ ps.length ≤ 700 + k

theorem bend_first {W0 wx : World} {b : Nat} (hb : W0.heap.size ≤ b) (hT : TabAt W0) (hs : ShAt wx b b (padW []) []) (hk0 : Keeps [] W0 wx) (n : Ino) (v : Value) (g : Nat) (hB : n.B.length = 13) (hE : EReads W0 v g n.E) (hN : ∀ k, k < n.E.length → (enm n.E k).size ≤ 9223372036854775807) :
    Calls Tryz.prog 14 #[.pointer (some ⟨b, 0, none⟩), .int .i64 3, .agg (inoC n v)] wx fun e w' => ∃ r, e = .returned (.int .i64 r) ∧ BendMid W0 b 0 w' := by
  refine (inoPut_at hs pad_64 (fun wy hy => turn_tab hT hb hb hk0 hy) hs.raw.lt (by simp) 3 n v g hB (hE.keep hk0 (by simp)) hN (turn_apart hE hb hb)).mono ?_
  rintro e w' ⟨r, qs, gp', rfl, hg, hs', hk, hq, hr⟩
  have hz := hk.size
  have hz0 := hk0.size
  have hbl := hs.raw.lt
  have h64 : In64 (putAll (padW []) qs) := by
    rcases hr with ⟨-, -, rfl⟩ | ⟨-, -, -, -, rfl⟩ | ⟨own, h1, -, h3⟩
    · exact pad_64
    · exact pad_64
    · rcases h3 with ⟨-, -, rfl⟩ | ⟨-, hf, rfl⟩
      · exact pad_64
      · exact (put_eff (X := padW []) (i := 3) (own := own) pad_64 (padW_len []) hB h1.1 h1.2 hf).w64
  exact ⟨r, rfl, gp', [] ++ qs, ⟨hs', by omega, by omega, by rw [List.nil_append]; omega, h64, hk0.trans hk (by intro y hy; simp only [List.mem_cons, List.not_mem_nil, or_false] at hy; omega)⟩, by rw [List.nil_append]; omega⟩

theorem bend_put {W0 wx : World} {b k : Nat} (hb : W0.heap.size ≤ b) (h : BendMid W0 b k wx) (hk : k ≤ 100) (z : Nat) (hz : z < 300) (y : Int) (hy : 0 ≤ y ∧ y ≤ 18446744073709551615) :
    Calls Tryz.prog 27 #[.pointer (some ⟨b, 0, none⟩), .int .i64 ((848 + z : Nat) : Int), .int .u64 y] wx fun e w' => e = .returned (.tuple #[]) ∧ BendMid W0 b (k + 1) w' := by
  obtain ⟨gp, ps, ⟨h1, h2, h3, h4, h5, h6⟩, h7⟩ := h
  refine (txPut_at h1 (by omega) ((848 + z : Nat) : Int) y).mono ?_
  rintro e w' ⟨rfl, gp', hg, hs, hk'⟩
  have hz0 := h6.size
  have hz1 := hk'.size
  rw [putN, if_pos (by rw [inB_iff]; omega)] at hs
  refine ⟨rfl, gp', _, ⟨hs, by omega, by omega, by rw [List.length_append, List.length_singleton]; omega, ?_, h6.trans hk' (by intro y hy; simp only [List.mem_cons, List.not_mem_nil, or_false] at hy; omega)⟩, by rw [List.length_append, List.length_singleton]; omega⟩
  rw [putAll_append]
  exact h5.put (by intro p hp; rw [List.mem_singleton] at hp; subst hp; exact ⟨hy.1, by show y < _; omega⟩)

theorem bent_mark {W0 wx : World} {b gp : Nat} {ps : List (Int × Int)} (h : BendAt W0 b gp ps wx) :
    Calls Tryz.prog 13 #[.pointer (some ⟨b, 0, none⟩)] wx fun e w' => e = .returned (.int .i64 (ps.length : Int)) ∧ wx = w' := txMark_at h.1

/-- An inode of a format and a kind. -/
def ino2 : Ino := ⟨1, 1, 0, 0, List.replicate 13 0, []⟩

theorem right_ino2 : RightP ino2 := by decide +kernel

theorem bent_put {W0 wx : World} {b gp : Nat} {ps : List (Int × Int)} (hb : W0.heap.size ≤ b) (hT : TabAt W0) (h : BendAt W0 b gp ps wx) (hf : ¬ FreeP (putAll (padW []) ps) 3) (hn : ∀ n own, ¬ StoreP (putAll (padW []) ps) 3 n own) :
    Calls Tryz.prog 14 #[.pointer (some ⟨b, 0, none⟩), .int .i64 3, .agg (inoC ino2 (.slice none 0 0))] wx fun e w' => e = .returned (.int .i64 10) ∧ ∃ gp', BendAt W0 b gp' ps w' := by
  obtain ⟨h1, h2, h3, h4, h5, h6⟩ := h
  refine (inoPut_at h1 h5 (fun wy hy => turn_tab hT hb h3 h6 hy) h2 (by omega) 3 ino2 (.slice none 0 0) 0 rfl (EReads.nil _ _) (fun k hk => by simp [ino2] at hk) (fun h => absurd rfl h)).mono ?_
  rintro e w' ⟨r, qs, gp', rfl, hg, hs, hk, hq, hr⟩
  have hz := hk.size
  have hz0 := h6.size
  rcases hr with ⟨-, h, -⟩ | ⟨rfl, -, -, -, rfl⟩ | ⟨own, -, h, -⟩
  · exact absurd ⟨⟨by omega, by omega⟩, right_ino2⟩ h
  · rw [List.append_nil] at hs
    exact ⟨rfl, gp', hs, by omega, by omega, h4, h5, h6.trans hk (by intro y hy; simp only [List.mem_cons, List.not_mem_nil, or_false] at hy; omega)⟩
  · rcases h with ⟨h, -⟩ | ⟨m, h⟩
    · exact absurd h hf
    · exact absurd h (hn _ _)

theorem bent_drop {W0 wx : World} {b gp : Nat} {ps : List (Int × Int)} (hb : W0.heap.size ≤ b) (h : BendAt W0 b gp ps wx) :
    Calls Tryz.prog 21 #[.pointer (some ⟨b, 0, none⟩), .int .i64 3] wx fun e w' => ∃ r, e = .returned (.int .i64 r) ∧
      ((r = 2 ∧ FreeP (putAll (padW []) ps) 3 ∧ ∃ gp', BendAt W0 b gp' ps w') ∨ (r = 10 ∧ ¬ FreeP (putAll (padW []) ps) 3 ∧ (∀ n own, ¬ StoreP (putAll (padW []) ps) 3 n own) ∧ ∃ gp', BendAt W0 b gp' ps w') ∨ (r = 0 ∧ (∃ n own, StoreP (putAll (padW []) ps) 3 n own) ∧ (∃ gp' ps', ShAt w' b gp' (padW []) ps' ∧ FreeP (putAll (padW []) ps') 3) ∧ Keeps [] W0 w')) := by
  obtain ⟨h1, h2, h3, h4, h5, h6⟩ := h
  refine (drop_at h1 h5 h2 (by omega) 3).mono ?_
  rintro e w' ⟨r, qs, gp', rfl, hg, hs, hk, hq, hr⟩
  have hz := hk.size
  have hz0 := h6.size
  have hkk : Keeps [] W0 w' := h6.trans hk (by intro y hy; simp only [List.mem_cons, List.not_mem_nil, or_false] at hy; omega)
  have hXl : (putAll (padW []) ps).length = 3128 := h1.raw.lx
  have hsame : qs = [] → BendAt W0 b gp' ps w' := fun e => by
    rw [e, List.append_nil] at hs
    exact ⟨hs, by omega, by omega, h4, h5, hkk⟩
  refine ⟨r, rfl, ?_⟩
  rcases hr with ⟨-, h, -⟩ | ⟨rfl, -, h, e⟩ | ⟨rfl, -, ha, hb', e⟩ | ⟨rfl, n, own, hst, e⟩
  · exact absurd ⟨by omega, by omega⟩ h
  · exact .inl ⟨rfl, h, gp', hsame e⟩
  · exact .inr (.inl ⟨rfl, ha, hb', gp', hsame e⟩)
  · subst e
    have he := drop_eff h5 hXl hst.rng (n := n) (own := own)
    rw [← putAll_append] at he
    exact .inr (.inr ⟨rfl, ⟨n, own, hst⟩, ⟨gp', _, hs, he.free⟩, hkk⟩)

end Go.Proofs.YtblnnedkfkiofaaGreatDoor

namespace Go.Proofs.YtblnnedkfkiofaaGreatDoor
open Go.RowKit

/-- Where a pair is put. -/
theorem bent_at (x : Int) : ∃ z : Nat, z < 300 ∧ (IntKind.i64.wrap (x.tmod 300) = x.tmod 300 ∧ IntKind.i64.wrap (x.tmod 300 + 300) = x.tmod 300 + 300) ∧ (x.tmod 300 + 300).tmod 300 = (z : Int) ∧ IntKind.i64.wrap (z : Int) = (z : Int) ∧ 848 + (z : Int) = ((848 + z : Nat) : Int) ∧ IntKind.i64.wrap ((848 + z : Nat) : Int) = ((848 + z : Nat) : Int) := by
  have h1 := Int.lt_tmod_of_pos x (show (0 : Int) < 300 by decide)
  have h2 := Int.tmod_lt_of_pos x (show (0 : Int) < 300 by decide)
  have h3 := Int.tmod_lt_of_pos (x.tmod 300 + 300) (show (0 : Int) < 300 by decide)
  have h4 := Int.tmod_nonneg 300 (show 0 ≤ x.tmod 300 + 300 by omega)
  refine ⟨((x.tmod 300 + 300).tmod 300).toNat, by omega, ⟨IntWalk.i64_in _ (by omega), IntWalk.i64_in _ (by omega)⟩, (Int.toNat_of_nonneg h4).symm, IntWalk.i64_in _ (by omega), by omega, IntWalk.i64_in _ (by omega)⟩

theorem lit_ino2 : inoC ino2 (.slice none 0 0) = #[.int .i64 1, .int .i64 1, .int .i64 0, .int .i64 0, .int .i64 0, .int .i64 0, .int .i64 0, .int .i64 0, .int .i64 0, .int .i64 0, .int .i64 0, .int .i64 0, .int .i64 0, .int .i64 0, .int .i64 0, .int .i64 0, .int .i64 0, .slice none 0 0] := rfl

set_option maxRecDepth 100000 in
set_option maxHeartbeats 8000000 in
theorem inoBent_at (n : Ino) (v : Value) (g : Nat) (hB : n.B.length = 13) (vb : Value) (gb : Nat) (ps : List (Int × Int)) (w : World) (hE : EReads w v g n.E) (hP : PReads w vb gb ps) (hok : okP ps) (hT : TabAt w) :
    Calls Tryz.prog 6 #[.agg (inoC n v), vb] w fun e w' => e = .returned (.bool true) ∧ Keeps [] w w' := by
  obtain ⟨ab, cb, rfl, hcb, hmb⟩ := hP.val
  have HPO := Lib.hid hok
  have hb2 := Blk.new w (inoC n v) 25
  have hk0 : Keeps [] w (w.alloc (.cells (inoC n v) 25)) := (Keeps.refl [] w).alloc _
  obtain ⟨W0, hW0⟩ : ∃ W0, w.alloc (.cells (inoC n v) 25) = W0 := ⟨_, rfl⟩
  rw [hW0] at hb2 hk0
  have hE0 : EReads W0 v g n.E := hE.keep hk0 (by simp)
  have hT0 : TabAt W0 := hT.keep hk0
  have HPR : Hid (∀ wx, Keeps [] W0 wx → PReads wx (.slice ab ps.length cb) gb ps) := fun wx hk => hP.keep (hk0.trans' hk) (by simp)
  obtain ⟨Z, hZ⟩ : ∃ Z, inoC n v = Z := ⟨_, rfl⟩
  have HV : Hid (VarAt [] W0 w.heap.size n v Z) := ⟨by rw [← hZ]; exact hb2, hZ.symm, hB, ⟨g, hE0, by simp⟩, by simp⟩
  have HAW : Hid (∀ wx, Keeps [] W0 wx → Calls Tryz.prog 7 #[] wx fun e w' => e = .returned (.bool true) ∧ Keeps [] wx w') := fun wx hk => awake8_at (hT0.keep hk)
  have HFEW : Hid (∀ wx, Keeps [] W0 wx → Calls Tryz.prog 8 #[.agg Z] wx (FewPost wx n)) := fun wx hk => by
    rw [← hZ]
    exact refFew_at n v g hB wx (hE0.keep hk (by simp))
  have HNEW := Lib.hid (fun wx => txNew_at (w := wx) (v := .slice none 0 0) (g := 0) (ws := []) ⟨none, 0, rfl, by simp [u64s], by simp [maxLen], fun h => absurd rfl h⟩)
  have HP1 : Hid (∀ wx b, W0.heap.size ≤ b → ShAt wx b b (padW []) [] → Keeps [] W0 wx → (∀ k, k < n.E.length → (enm n.E k).size ≤ 9223372036854775807) → Calls Tryz.prog 14 #[.pointer (some ⟨b, 0, none⟩), .int .i64 3, .agg Z] wx fun e w' => ∃ r, e = .returned (.int .i64 r) ∧ BendMid W0 b 0 w') := fun wx b hb hs hk hN => by
    rw [← hZ]
    exact bend_first hb hT0 hs hk n v g hB hE0 hN
  have HT0 := Lib.hid hT0
  have HK0 := Lib.hid hk0
  have HW0 := Lib.hid hW0
  rw [hZ] at HW0 ⊢
  have hzi := zero_ino
  unfold maxLen at hmb
  clear hB hE hT hb2 hk0 hW0 hE0 hT0 hZ hP hok
  generalize hmg : ps.length = mp at *
  have HMP := Lib.hid hmg
  clear hmg
  go_enter Tryz.func6, Tryz.ntmps6
  go_wp2_with fail
  rw [HW0.out]
  refine (HAW.out W0 (Keeps.refl _ _)).mono ?_; rintro e w1 ⟨rfl, hk1'⟩
  have HK1 := Lib.hid hk1'
  have HL1 := Lib.hid (HV.out.keep hk1').load
  clear hk1'
  go_wp2_with ((with_reducible show wpList _ _ _ (⟨_, .load 25 (.tmp 2), _, _, _, _⟩ :: _) _ _); refine wpList_load_want (by first | rfl | simp [Region.wanted, yielded]) 25 (.tmp 2) rfl _ rfl _ HL1.out ?_)
  refine (HFEW.out w1 HK1.out).mono ?_; rintro e w2 ⟨⟨fb, rfl, hfb⟩, hk2'⟩
  have HK2 := Lib.hid (HK1.out.trans' hk2')
  have HFB := Lib.hid hfb
  clear hk2' hfb HK1 HL1 HFEW
  have HAW2 := Lib.hid (HAW.out w2 HK2.out)
  cases fb
  · clear HAW HNEW HP1 HPR
    go_wp2_with fail
    refine HAW2.out.mono ?_; rintro e w3 ⟨rfl, hk3'⟩
    have HK3 := Lib.hid (HK0.out.trans' (HK2.out.trans' hk3'))
    clear hk3'
    go_wp2_with fail
    go_ret
    exact ⟨rfl, HK3.out⟩
  · by_cases h5 : 5 < mp
    · have h5i : (5 : Int) < (mp : Int) := by omega
      clear HAW HNEW HP1 HPR
      go_wp2_with fail
      refine HAW2.out.mono ?_; rintro e w3 ⟨rfl, hk3'⟩
      have HK3 := Lib.hid (HK0.out.trans' (HK2.out.trans' hk3'))
      clear hk3'
      go_wp2_with fail
      go_ret
      exact ⟨rfl, HK3.out⟩
    · have h5i : ¬ (5 : Int) < (mp : Int) := by omega
      have HNS : Hid (∀ k, k < n.E.length → (enm n.E k).size ≤ 9223372036854775807) := fun k hk => by have := (HFB.out rfl).2 k hk; omega
      clear HFB HAW2 HAW
      go_wp2_with fail
      refine (HNEW.out w2).mono ?_; rintro e w3 ⟨b, rfl, hb3, hs3, hk3⟩
      have HBW : Hid (W0.heap.size ≤ b) := Nat.le_trans HK2.out.size hb3
      have hkk3 := HK2.out.trans' hk3
      have HPU := Lib.hid (HP1.out w3 b HBW.out hs3 hkk3 HNS.out)
      have HL3 := Lib.hid (HV.out.keep hkk3).load
      clear hb3 hs3 hk3 hkk3 HNEW HK2 HP1 HNS
      go_wp2_with ((with_reducible show wpList _ _ _ (⟨_, .load 25 (.tmp 2), _, _, _, _⟩ :: _) _ _); refine wpList_load_any rfl 25 (.tmp 2) rfl _ rfl _ HL3.out ?_)
      refine HPU.out.mono ?_; rintro e w4 ⟨r, rfl, hm4⟩
      have HM0 := Lib.hid hm4
      clear hm4 HPU HL3 HV
      go_wp2_with fail
      go_loopg [6] mp (fun gh s6 wx => ∃ k : Nat, k + gh = mp ∧ s6 = .int .i64 (k : Int) ∧ Hid (BendMid W0 b k wx))
      case atStart => exact ⟨0, by omega, rfl, HM0.out⟩
      case round =>
        clear HM0
        obtain ⟨k, hk, rfl, HM⟩ := hrel
        have HKW : Hid (Keeps [] W0 wr) := by obtain ⟨_, _, ⟨_, _, _, _, _, h⟩, _⟩ := HM.out; exact h
        cases gk with
        | succ gg =>
          have hkm : k < mp := by omega
          have hki : (k : Int) < (mp : Int) := by omega
          have hkn : (0 : Int) ≤ (k : Int) := by omega
          obtain ⟨hgb, offb, rfl, d1, d2⟩ := (HPR.out wr HKW.out).get (j := k) (by rw [HMP.out]; exact hkm)
          have HC : Hid (∀ wx, Keeps [] wr wx → wx.cell? ⟨gb, offb + k * 2, none⟩ = some (.int .i64 (patN ps k)) ∧ wx.cell? ⟨gb, offb + k * 2 + 1, none⟩ = some (.int .u64 (pwdN ps k))) := fun wx hk' =>
            ⟨(World.cell?_of_block (hk'.block gb hgb (by simp))).trans d1, (World.cell?_of_block (hk'.block gb hgb (by simp))).trans d2⟩
          obtain ⟨z, hz, ⟨b1, b2⟩, b3, b4, b5, b6⟩ := bent_at (patN ps k)
          have hpw := (okP_get HPO.out (k := k) (by rw [HMP.out]; exact hkm)).2
          have HPUT : Hid (∀ wx, Keeps [] wr wx → Calls Tryz.prog 27 #[.pointer (some ⟨b, 0, none⟩), .int .i64 ((848 + z : Nat) : Int), .int .u64 (pwdN ps k)] wx fun e w' => e = .returned (.tuple #[]) ∧ BendMid W0 b (k + 1) w') := fun wx hk' =>
            bend_put HBW.out (by obtain ⟨gp, qs, h1, h2⟩ := HM.out; exact ⟨gp, qs, h1.keep hk', h2⟩) (by omega) z hz (pwdN ps k) hpw
          clear HM d1 d2 HPO hpw HKW
          generalize patN ps k = x at *
          generalize pwdN ps k = y at *
          generalize 848 + z = q at *
          go_wp2_with fail
          refine wp_region_last (l := [_, _, _, _, _, _, _, _, _, _, _, _, _, _, _]) (o := _) (S := fun wx => Keeps [] wr wx) (by kernel_rfl) rfl (by kernel_rfl) (fun d _ _ _ _ h => by cases d <;> exact h) ((Keeps.refl _ _).drew) (by kernel_rfl) (by kernel_rfl) ?_
          repeat (first
            | ((with_reducible show EachList _ _ _ _ (⟨some 39, _, _, _, _, _⟩ :: _) _); refine EachList.cons (.int .i64 x) (EachIf.val rfl ?h) ?_; (case h => (intro wx hx; have hcq := (HC.out wx hx).1; clear hx; go_simp; done)); simp only [Act.put, List.setIfInBounds_toArray, List.set_cons_zero, List.set_cons_succ])
            | ((with_reducible show EachList _ _ _ _ (⟨some 48, _, _, _, _, _⟩ :: _) _); refine EachList.cons (.int .u64 y) (EachIf.val rfl ?h) ?_; (case h => (intro wx hx; have hcq := (HC.out wx hx).2; clear hx; go_simp; done)); simp only [Act.put, List.setIfInBounds_toArray, List.set_cons_zero, List.set_cons_succ])
            | ((with_reducible show EachList _ _ _ _ (⟨some 40, _, _, _, _, _⟩ :: _) _); refine EachList.cons (.int .i64 (x.tmod 300)) (EachIf.val rfl ?h) ?_; (case h => (intro wx hx; clear hx; first | (go_simp; done) | (go_simp; simp [b1]; done))); simp only [Act.put, List.setIfInBounds_toArray, List.set_cons_zero, List.set_cons_succ])
            | ((with_reducible show EachList _ _ _ _ (⟨some 41, _, _, _, _, _⟩ :: _) _); refine EachList.cons (.int .i64 (x.tmod 300 + 300)) (EachIf.val rfl ?h) ?_; (case h => (intro wx hx; clear hx; first | (go_simp; done) | (go_simp; simp [b2]; done))); simp only [Act.put, List.setIfInBounds_toArray, List.set_cons_zero, List.set_cons_succ])
            | ((with_reducible show EachList _ _ _ _ (⟨some 42, _, _, _, _, _⟩ :: _) _); refine EachList.cons (.int .i64 (z : Int)) (EachIf.val rfl ?h) ?_; (case h => (intro wx hx; clear hx; first | (go_simp; done) | (go_simp; simp [b3, b4]; done))); simp only [Act.put, List.setIfInBounds_toArray, List.set_cons_zero, List.set_cons_succ])
            | ((with_reducible show EachList _ _ _ _ (⟨some 43, _, _, _, _, _⟩ :: _) _); refine EachList.cons (.int .i64 (q : Int)) (EachIf.val rfl ?h) ?_; (case h => (intro wx hx; clear hx; first | (go_simp; done) | (go_simp; simp [b5, b6]; done))); simp only [Act.put, List.setIfInBounds_toArray, List.set_cons_zero, List.set_cons_succ])
            | (refine EachList.cons ?_ (EachIf.val rfl ?h) ?_; (case h => (intro wx hx; clear hx; go_simp; rfl)); simp only [Act.put, List.setIfInBounds_toArray, List.set_cons_zero, List.set_cons_succ]))
          refine EachList.done fun wx hx => ?_
          have HKX := Lib.hid hx
          clear hx
          go_wp2_with fail
          refine (HPUT.out wx HKX.out).mono ?_; rintro e w' ⟨rfl, hm2⟩
          have HM2 := Lib.hid hm2
          clear hm2
          go_wp2_with fail
          go_roundg gg
          case measure => omega
          case rel => exact ⟨k + 1, by omega, by go_num, HM2.out⟩
        | zero =>
          obtain rfl : k = mp := by omega
          obtain ⟨gp, qs, hba, -⟩ := HM.out
          have HBA := Lib.hid hba
          have HGET := Lib.hid (get_at hba.1 hba.2.2.2.2.1 3)
          clear HM hba hk HPR HPO HMP h5 h5i HKW
          go_wp2_with fail
          refine (bent_mark HBA.out).mono ?_; rintro e w' ⟨rfl, rfl⟩
          go_wp2_with fail
          refine HGET.out.mono ?_; rintro e w5 ⟨m, vm, gm, own, va, ga, r, rfl, hmB, hmE, hgm, hO, hga, hk5, hr⟩
          obtain ⟨w6, q1, V6, hk6⟩ := got_var (n := m) (l := []) hmB hmE (by simp) (by simp)
          have HS6 := Lib.hid q1
          have HV6 := Lib.hid V6
          have HB6 := Lib.hid (HBA.out.keep (hk5.trans' hk6))
          have HR := Lib.hid hr
          clear hmB hmE hgm hO hga hk5 hk6 q1 V6 hr HGET HBA
          obtain ⟨ZM, hZM⟩ : ∃ ZM, inoC m vm = ZM := ⟨_, rfl⟩
          rw [hZM] at HS6 HV6 ⊢
          have HZM := Lib.hid hZM
          clear hZM
          generalize inoC inoZ (.slice none 0 0) = ZZ at *
          by_cases hr10 : r = 10
          · subst hr10
            have hx : ¬ FreeP (putAll (padW []) qs) 3 ∧ ∀ n own, ¬ StoreP (putAll (padW []) qs) 3 n own := by
              rcases HR.out with ⟨h, -⟩ | ⟨h, -⟩ | ⟨-, -, h1, h2, -⟩ | ⟨h, -⟩
              · omega
              · omega
              · exact ⟨h1, h2⟩
              · omega
            have HX := Lib.hid hx
            have HPB := Lib.hid (bent_put HBW.out HT0.out HB6.out hx.1 hx.2)
            rw [lit_ino2] at HPB
            have hzi5 := hzi w5
            clear hzi
            clear hx HR HV6 HZM
            go_wp2_with ((with_reducible show wpList _ _ _ (⟨_, .store 25 (.tmp 8) (.tmp 55), _, _, _, _⟩ :: _) _ _); refine wpList_store_any rfl 25 (.tmp 8) (.tmp 55) rfl _ rfl _ rfl _ HS6.out ?_)
            refine HPB.out.mono ?_; rintro e w7 ⟨rfl, gp7, hb7⟩
            have HB7 := Lib.hid hb7
            clear hb7 HPB HB6 HS6
            go_wp2_with fail
            refine (bent_drop HBW.out HB7.out).mono ?_; rintro e w8 ⟨r8, rfl, hr8⟩
            have h8 : r8 = 10 ∧ ∃ gp', BendAt W0 b gp' qs w8 := by
              rcases hr8 with ⟨-, h, -⟩ | ⟨h, -, -, h2⟩ | ⟨-, ⟨n', own', h⟩, -⟩
              · exact absurd h HX.out.1
              · exact ⟨h, h2⟩
              · exact absurd h (HX.out.2 _ _)
            obtain ⟨rfl, gp8, hb8⟩ := h8
            have HB8 := Lib.hid hb8
            clear hr8 hb8 HB7
            go_wp2_with fail
            refine (bent_mark HB8.out).mono ?_; rintro e w' ⟨rfl, rfl⟩
            have HALL := Lib.hid (all_at HB8.out.1 HB8.out.2.2.2.2.1 3)
            go_wp2_with fail
            refine HALL.out.mono ?_; rintro e w9 ⟨va9, ga9, l9, rfl, hr9, hk9, hl9⟩
            have hl0 : l9 = [] := by
              rcases hl9 with ⟨n', own', h, -⟩ | ⟨-, h⟩
              · exact absurd h (HX.out.2 _ _)
              · exact h
            subst hl0
            obtain ⟨a9, c9, rfl, -, -, -⟩ := hr9
            have HKF := Lib.hid (HK0.out.trans' (HB8.out.2.2.2.2.2.trans' hk9))
            rw [show (i64s []).length = 0 from rfl]
            clear hk9 hl9 HALL HB8 HX
            go_wp2_with fail
            go_ret
            exact ⟨rfl, HKF.out⟩
          · by_cases hr2 : r = 2
            · subst hr2
              have hx : FreeP (putAll (padW []) qs) 3 := by
                rcases HR.out with ⟨h, -⟩ | ⟨-, -, h, -⟩ | ⟨h, -⟩ | ⟨h, -⟩
                · omega
                · exact h
                · omega
                · omega
              have HX := Lib.hid hx
              have HFR := Lib.hid (free_at HB6.out.1 3)
              rw [decide_eq_true (show ((0 ≤ (3 : Int) ∧ (3 : Int) < 32) ∧ FreeP (putAll (padW []) qs) 3) from ⟨⟨by omega, by omega⟩, hx⟩)] at HFR
              clear hx HR HV6 HZM hr10
              go_wp2_with ((with_reducible show wpList _ _ _ (⟨_, .store 25 (.tmp 8) (.tmp 55), _, _, _, _⟩ :: _) _ _); refine wpList_store_any rfl 25 (.tmp 8) (.tmp 55) rfl _ rfl _ rfl _ HS6.out ?_)
              refine HFR.out.mono ?_; rintro e w7 ⟨rfl, hk7⟩
              have HB7 := Lib.hid (HB6.out.keep hk7)
              clear hk7 HFR HB6 HS6
              go_wp2_with fail
              refine (bent_drop HBW.out HB7.out).mono ?_; rintro e w8 ⟨r8, rfl, hr8⟩
              have h8 : r8 = 2 ∧ ∃ gp', BendAt W0 b gp' qs w8 := by
                rcases hr8 with ⟨h, -, h2⟩ | ⟨-, h, -⟩ | ⟨-, ⟨n', own', h⟩, -⟩
                · exact ⟨h, h2⟩
                · exact absurd HX.out h
                · exact absurd HX.out h.notFree
              obtain ⟨rfl, gp8, hb8⟩ := h8
              have HKF := Lib.hid (HK0.out.trans' hb8.2.2.2.2.2)
              clear hr8 hb8 HB7 HX
              go_wp2_with fail
              go_ret
              exact ⟨rfl, HKF.out⟩
            · have hx : r = 0 ∧ StoreP (putAll (padW []) qs) 3 m own := by
                rcases HR.out with ⟨-, h, -⟩ | ⟨h, -⟩ | ⟨h, -⟩ | h
                · exact absurd ⟨by omega, by omega⟩ h
                · exact absurd h hr2
                · exact absurd h hr10
                · exact h
              obtain ⟨rfl, hst⟩ := hx
              have HX := Lib.hid hst
              have HRT : Hid (Calls Tryz.prog 9 #[.agg ZM] w6 fun e w' => e = .returned (.bool true) ∧ Keeps [] w6 w') := by
                obtain ⟨g6, he6, -⟩ := HV6.out.ent
                rw [← HZM.out]
                have := refRight_at m vm g6 HV6.out.len w6 he6 (right_small hst.right)
                rwa [decide_eq_true hst.right] at this
              have HL6 := Lib.hid HV6.out.load
              clear hst HR HV6 HZM hr10 hr2
              go_wp2_with (first | ((with_reducible show wpList _ _ _ (⟨_, .store 25 (.tmp 8) (.tmp 55), _, _, _, _⟩ :: _) _ _); refine wpList_store_any rfl 25 (.tmp 8) (.tmp 55) rfl _ rfl _ rfl _ HS6.out ?_) | ((with_reducible show wpList _ _ _ (⟨_, .load 25 (.tmp 8), _, _, _, _⟩ :: _) _ _); refine wpList_load_want (by first | rfl | simp [Region.wanted, yielded]) 25 (.tmp 8) rfl _ rfl _ HL6.out ?_))
              refine HRT.out.mono ?_; rintro e w7 ⟨rfl, hk7⟩
              have HB7 := Lib.hid (HB6.out.keep hk7)
              clear hk7 HRT HB6 HS6 HL6
              go_wp2_with fail
              refine (bent_drop HBW.out HB7.out).mono ?_; rintro e w8 ⟨r8, rfl, hr8⟩
              have h8 : r8 = 0 ∧ (∃ gp' ps', ShAt w8 b gp' (padW []) ps' ∧ FreeP (putAll (padW []) ps') 3) ∧ Keeps [] W0 w8 := by
                rcases hr8 with ⟨-, h, -⟩ | ⟨-, -, h, -⟩ | ⟨h, -, h2, h3⟩
                · exact absurd h HX.out.notFree
                · exact absurd HX.out (h _ _)
                · exact ⟨h, h2, h3⟩
              obtain ⟨rfl, ⟨gp8, qs8, hs8, hf8⟩, hk8⟩ := h8
              have HFR := Lib.hid (free_at hs8 3)
              rw [decide_eq_true (show ((0 ≤ (3 : Int) ∧ (3 : Int) < 32) ∧ FreeP (putAll (padW []) qs8) 3) from ⟨⟨by omega, by omega⟩, hf8⟩)] at HFR
              have HK8 := Lib.hid (HK0.out.trans' hk8)
              clear hr8 hs8 hf8 hk8 HB7 HX
              go_wp2_with fail
              refine HFR.out.mono ?_; rintro e w9 ⟨rfl, hk9⟩
              have HKF := Lib.hid (HK8.out.trans' hk9)
              clear hk9 HFR HK8
              go_wp2_with fail
              go_ret
              exact ⟨rfl, HKF.out⟩

end Go.Proofs.YtblnnedkfkiofaaGreatDoor
