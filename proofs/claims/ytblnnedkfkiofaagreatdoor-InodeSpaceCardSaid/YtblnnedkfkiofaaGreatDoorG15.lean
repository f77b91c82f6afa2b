/-
  Layer 8: the law InodeTurns. An array of thirteen numbers as an argument is read. An inode (api.Inode), and a list of its entries, as an argument is read; so pairs. math/bits' table, out of the row's condition; an array of four words, as an argument. Layer 8: an inode without its blocks (empty); the law InodeSpace: the sheet behind each call. Layer 6: the laws' sheet. Layer 8: the law InodeSpace. Layer 8 (inode): a file's blocks behind its own (with), Drop, All.
-/
import Derived.Test.YtblnnedkfkiofaaGreatDoorG14
import Derived.Test.YtblnnedkfkiofaaGreatDoorG00
import Derived.Test.YtblnnedkfkiofaaGreatDoorG02
import Derived.Test.YtblnnedkfkiofaaGreatDoorG09
import Derived.Test.YtblnnedkfkiofaaGreatDoorG01
import Derived.Test.YtblnnedkfkiofaaGreatDoorG08
import Derived.Test.YtblnnedkfkiofaaGreatDoorRows
import Derived.ProofKit
import Derived.LaidMore
import Derived.OpenShut
import Derived.Stop.Joined
import Derived.Laws.IdiomArrays
import Derived.Test.YtblnnedkfkiofaaGreatDoorG07
import Derived.Test.YtblnnedkfkiofaaGreatDoorG03
import Derived.Test.YtblnnedkfkiofaaGreatDoorG13
import Derived.Test.YtblnnedkfkiofaaGreatDoorG05
namespace Go.Proofs.YtblnnedkfkiofaaGreatDoor
open Go.RowKit

theorem right_small {n : Ino} (h : RightP n) : ∀ k, k < n.E.length → (enm n.E k).size ≤ 9223372036854775807 := fun k hk => by
  have h1 := (((blocks_le h).2.2 (by omega)).2.2.2.2 k hk).1
  have h2 := (goodN_len h1).2
  rw [bl_len] at h2
  omega

theorem right_turned {n : Ino} (h : RightP n) : RightP { n with F := 3 - n.F } := by
  obtain ⟨h1, h2, h3⟩ := h
  exact ⟨by show 3 - n.F = 1 ∨ 3 - n.F = 2; omega, h2, h3⟩

/-- What is known of an inode's variable, wherever blocks of l may be written. -/
structure VarAt (l : List Nat) (W : World) (p : Nat) (n : Ino) (v : Value) (Z : Array Value) : Prop where
  blk : Blk W p Z 25
  eq : Z = inoC n v
  len : n.B.length = 13
  ent : ∃ g, EReads W v g n.E ∧ (n.E.length ≠ 0 → g ∉ l)
  out : p ∉ l

theorem VarAt.keep {l : List Nat} {W w' : World} {p : Nat} {n : Ino} {v : Value} {Z : Array Value} (h : VarAt l W p n v Z) (hk : Keeps l W w') : VarAt l w' p n v Z := by
  obtain ⟨g, he, hg⟩ := h.ent
  exact ⟨h.blk.keep hk h.out, h.eq, h.len, ⟨g, he.keep hk hg, hg⟩, h.out⟩

theorem VarAt.nil {l : List Nat} {W : World} {p : Nat} {n : Ino} {v : Value} {Z : Array Value} (h : VarAt l W p n v Z) : VarAt [] W p n v Z := by
  obtain ⟨g, he, -⟩ := h.ent
  exact ⟨h.blk, h.eq, h.len, ⟨g, he, by simp⟩, by simp⟩

theorem VarAt.load {l : List Nat} {W : World} {p : Nat} {n : Ino} {v : Value} {Z : Array Value} (h : VarAt l W p n v Z) : (loadVar 25 ⟨p, 0, none⟩).run Tryz.prog W = .ok (.agg Z) W := by
  have := h.blk
  rw [h.eq] at this ⊢
  exact load_ino this h.len

theorem same_vars {l m : List Nat} {W : World} {p q : Nat} {n : Ino} {v u : Value} {Z Y : Array Value} (h : VarAt l W p n v Z) (k : VarAt m W q n u Y) :
    Calls Tryz.prog 18 #[.agg Z, .agg Y] W fun e w' => e = .returned (.bool true) ∧ Keeps [] W w' := by
  obtain ⟨g, he, -⟩ := h.ent
  obtain ⟨g', he', -⟩ := k.ent
  rw [h.eq, k.eq]
  exact refSame_at n v u g g' h.len W he he'

theorem need_var {l : List Nat} {W : World} {p : Nat} {n : Ino} {v : Value} {Z : Array Value} (h : VarAt l W p n v Z) (hR : RightP n) :
    Calls Tryz.prog 15 #[.agg Z] W fun e w' => e = .returned (.int .i64 ((needA n : Nat) : Int)) ∧ Keeps [] W w' := by
  obtain ⟨g, he, -⟩ := h.ent
  rw [h.eq]
  exact need8_at n v g h.len hR W he

/-- What was got, in a variable of its own. -/
theorem got_var {w1 : World} {l : List Nat} {n : Ino} {v : Value} {g : Nat} (hB : n.B.length = 13) (hE : EReads w1 v g n.E) (hg : n.E.length ≠ 0 → g ∉ l) (hl : ∀ x ∈ l, x < w1.heap.size) :
    ∃ w2, (storeVar 25 ⟨w1.heap.size, 0, none⟩ (.agg (inoC n v))).run Tryz.prog (w1.alloc (.cells (inoC inoZ (.slice none 0 0)) 25)) = .ok () w2 ∧ VarAt l w2 w1.heap.size n v (inoC n v) ∧ Keeps [] w1 w2 := by
  have hb := Blk.new w1 (inoC inoZ (.slice none 0 0)) 25
  obtain ⟨w2, q1, q2, q3⟩ := store_ino (n := n) (v := v) hb rfl hB (reads_one hE)
  have hk : Keeps [] w1 w2 := ((Keeps.refl [] w1).alloc _).trans q3 (by intro x hx; rw [List.mem_singleton] at hx; omega)
  exact ⟨w2, q1, ⟨q2, rfl, hB, ⟨g, hE.keep hk (by simp), hg⟩, fun hm => absurd (hl _ hm) (by omega)⟩, hk⟩

set_option maxRecDepth 100000 in
set_option maxHeartbeats 8000000 in
theorem inoTurns_at (n : Ino) (v : Value) (g : Nat) (hB : n.B.length = 13) (i : Int) (hi : 0 ≤ i ∧ i < 256) (w : World) (hE : EReads w v g n.E) (hT : TabAt w) :
    Calls Tryz.prog 5 #[.agg (inoC n v), .int .u8 i] w fun e w' => e = .returned (.bool true) ∧ Keeps [] w w' := by
  obtain ⟨kk, hkk, hk1, hk2, hk3⟩ : ∃ kk : Int, (0 ≤ kk ∧ kk < 32) ∧ i.tmod 32 = kk ∧ IntKind.u8.wrap kk = kk ∧ IntKind.i64.wrap kk = kk := by
    have h1 : i.tmod 32 = i % 32 := Int.tmod_eq_emod_of_nonneg hi.1
    exact ⟨i.tmod 32, by rw [h1]; omega, rfl, by rw [IntKind.wrap_u8]; omega, IntWalk.i64_in _ (by omega)⟩
  have hk4 : wrap64 kk = kk := by unfold wrap64; omega
  have hb2 := Blk.new w (inoC n v) 25
  have hk0 : Keeps [] w (w.alloc (.cells (inoC n v) 25)) := (Keeps.refl [] w).alloc _
  have HZ0 : Hid ((w.alloc (.cells (inoC n v) 25)).heap.size = w.heap.size + 1) := by show _ = _; simp
  obtain ⟨W0, hW0⟩ : ∃ W0, w.alloc (.cells (inoC n v) 25) = W0 := ⟨_, rfl⟩
  rw [hW0] at hb2 hk0 HZ0
  have hE0 : EReads W0 v g n.E := hE.keep hk0 (by simp)
  have hT0 : TabAt W0 := hT.keep hk0
  obtain ⟨Z, hZ⟩ : ∃ Z, inoC n v = Z := ⟨_, rfl⟩
  have HV : Hid (VarAt [] W0 w.heap.size n v Z) := ⟨by rw [← hZ]; exact hb2, hZ.symm, hB, ⟨g, hE0, by simp⟩, by simp⟩
  have HAW : Hid (∀ wx, Keeps [] W0 wx → Calls Tryz.prog 7 #[] wx fun e w' => e = .returned (.bool true) ∧ Keeps [] wx w') := fun wx hk => awake8_at (hT0.keep hk)
  have HFEW : Hid (∀ wx, Keeps [] W0 wx → Calls Tryz.prog 8 #[.agg Z] wx (FewPost wx n)) := fun wx hk => by
    rw [← hZ]
    exact refFew_at n v g hB wx (hE0.keep hk (by simp))
  have HRI : Hid (¬ RightP n → (∀ k, k < n.E.length → (enm n.E k).size ≤ 9223372036854775807) → ∀ wx, Keeps [] W0 wx → Calls Tryz.prog 9 #[.agg Z] wx fun e w' => e = .returned (.bool false) ∧ Keeps [] wx w') := fun hR hN wx hk => by
    rw [← hZ]
    have := refRight_at n v g hB wx (hE0.keep hk (by simp)) hN
    rwa [decide_eq_false hR] at this
  have HNEW := Lib.hid (fun wx => txNew_at (w := wx) (v := .slice none 0 0) (g := 0) (ws := []) ⟨none, 0, rfl, by simp [u64s], by simp [maxLen], fun h => absurd rfl h⟩)
  have HP1 : Hid (∀ wx b, W0.heap.size ≤ b → TurnMid W0 b 13 wx → (∀ k, k < n.E.length → (enm n.E k).size ≤ 9223372036854775807) → Calls Tryz.prog 14 #[.pointer (some ⟨b, 0, none⟩), .int .i64 kk, .agg Z] wx fun e w' => ∃ r, e = .returned (.int .i64 r) ∧ ((r = 1 ∧ ¬ RightP n ∧ Keeps [] W0 w') ∨ (r = 0 ∧ RightP n ∧ ∃ X0 gp, 32 ≤ (freeL X0).length ∧ Turn W0 b gp X0 kk n 800 w'))) := fun wx b hb h hN => by
    rw [← hZ]
    exact turn_first hb hT0 h kk hkk n v g hB hE0 hN
  have HPX : Hid (∀ wx b gp X0 n1 m n' Z', W0.heap.size ≤ b → Turn W0 b gp X0 kk n1 m wx → 32 ≤ (freeL X0).length → m ≤ 600000 → RightP n' → n'.B.length = 13 → n'.E = n.E → inoC n' v = Z' → Calls Tryz.prog 14 #[.pointer (some ⟨b, 0, none⟩), .int .i64 kk, .agg Z'] wx fun e w' => e = .returned (.int .i64 0) ∧ ∃ gp', (gp' = gp ∨ wx.heap.size ≤ gp') ∧ Turn W0 b gp' X0 kk n' (m + 700) w' ∧ Keeps [b, gp] wx w') := fun wx b gp X0 n1 m n' Z' h1 h2 h3 h4 h5 h6 h7 h8 => by
    rw [← h8]
    exact turn_next h1 hT0 h2 h3 h4 n' v g h5 h6 (by rw [h7]; exact hE0) (right_small h5)
  have HCB : Hid (∀ wx, Keeps [] W0 wx → ∀ k, k < 13 → wx.cell? ⟨w.heap.size, 4 + k, none⟩ = some (.int .i64 (n.B.getD k 0))) := fun wx hk k hk13 => by
    rw [(hb2.keep hk (by simp)).cell]
    exact (inoAt v hB).f4 k hk13
  have HCF : Hid (∀ wx, Keeps [] W0 wx → wx.cell? ⟨w.heap.size, 0, none⟩ = some (.int .i64 n.F)) := fun wx hk => by
    rw [(hb2.keep hk (by simp)).cell]
    exact (inoAt v hB).f0
  have HZZ := Lib.hid hZ
  have HBB := Lib.hid hB
  have HE0 := Lib.hid hE0
  have HK0 := Lib.hid hk0
  have HW0 := Lib.hid hW0
  rw [hZ] at HW0 ⊢
  have hzi := zero_ino
  clear hB hE hT hi hb2 hk0 hW0 hE0 hT0 hZ hkk
  go_enter Tryz.func5, Tryz.ntmps5
  go_wp2_with fail
  rw [HW0.out]
  refine (HAW.out W0 (Keeps.refl _ _)).mono ?_; rintro e w1 ⟨rfl, hk1⟩
  have HK1 := Lib.hid hk1
  have HL1 := Lib.hid (HV.out.keep hk1).load
  clear hk1
  go_wp2_with ((with_reducible show wpList _ _ _ (⟨_, .load 25 (.tmp 2), _, _, _, _⟩ :: _) _ _); refine wpList_load_want (by first | rfl | simp [Region.wanted, yielded]) 25 (.tmp 2) rfl _ rfl _ HL1.out ?_)
  refine (HFEW.out w1 HK1.out).mono ?_; rintro e w2 ⟨⟨fb, rfl, hfb⟩, hk2⟩
  have HK2 := Lib.hid (HK1.out.trans' hk2)
  have HFB := Lib.hid hfb
  clear hk2 hfb HK1 HL1 HFEW
  cases fb
  · have HAW2 := Lib.hid (HAW.out w2 HK2.out)
    clear HNEW HP1 HPX HCB HCF HAW HRI
    go_wp2_with fail
    refine HAW2.out.mono ?_; rintro e w3 ⟨rfl, hk3⟩
    have HK3 := Lib.hid (HK0.out.trans' (HK2.out.trans' hk3))
    clear hk3
    go_wp2_with fail
    go_ret
    exact ⟨rfl, HK3.out⟩
  · have HNS : Hid (∀ k, k < n.E.length → (enm n.E k).size ≤ 9223372036854775807) := fun k hk => by have := (HFB.out rfl).2 k hk; omega
    clear HAW HFB
    go_wp2_with fail
    refine (HNEW.out w2).mono ?_; rintro e w3 ⟨b, rfl, hb3, hs3, hk3⟩
    have HBW : Hid (W0.heap.size ≤ b) := Nat.le_trans HK2.out.size hb3
    have HM0 : Hid (TurnMid W0 b 0 w3) := ⟨b, [], hs3, hs3.raw.lt, HBW.out, by simp, pad_64, fun q _ => pad_get q, by have := pad_free; show 255 ≤ (freeL (padW [])).length + 0; omega, HK2.out.trans' hk3⟩
    clear hb3 hs3 hk3 HNEW HK2
    go_wp2_with fail
    go_loopg [6] 13 (fun gh s6 wx => ∃ k : Nat, k + gh = 13 ∧ s6 = .int .i64 (k : Int) ∧ Hid (TurnMid W0 b k wx))
    case atStart => exact ⟨0, by omega, rfl, HM0.out⟩
    case round =>
      clear HM0
      obtain ⟨k, hk, rfl, HM⟩ := hrel
      cases gk with
      | succ gg =>
        have hk13 : k < 13 := by omega
        have hki : (k : Int) < 13 := by omega
        have hkn : (0 : Int) ≤ (k : Int) := by omega
        have HKW : Hid (Keeps [] W0 wr) := by obtain ⟨_, _, _, _, _, _, _, _, _, h⟩ := HM.out; exact h
        have hcb := HCB.out wr HKW.out k hk13
        have HC := Lib.hid (turn_mark HBW.out HM.out (by omega) (n.B.getD k 0))
        generalize n.B.getD k 0 = x at *
        clear HKW
        go_wp2_with fail
        refine HC.out.mono ?_; rintro e w4 ⟨rfl, hm4⟩
        have HM4 := Lib.hid hm4
        clear hm4 HC hcb
        go_wp2_with fail
        go_roundg gg
        case measure => omega
        case rel => exact ⟨k + 1, by omega, by go_num, HM4.out⟩
      | zero =>
        obtain rfl : k = 13 := by omega
        have HKW : Hid (Keeps [] W0 wr) := by obtain ⟨_, _, _, _, _, _, _, _, _, h⟩ := HM.out; exact h
        have HLR := Lib.hid (HV.out.keep HKW.out).load
        have HPUT := Lib.hid (HP1.out wr b HBW.out HM.out HNS.out)
        clear hk HP1 HCB
        go_wp2_with ((with_reducible show wpList _ _ _ (⟨_, .load 25 (.tmp 2), _, _, _, _⟩ :: _) _ _); refine wpList_load_any rfl 25 (.tmp 2) rfl _ rfl _ HLR.out ?_)
        refine HPUT.out.mono ?_; rintro e w5 ⟨r, rfl, hr⟩
        rcases hr with ⟨rfl, hR, hk5⟩ | ⟨rfl, hR, X0, gp5, hX0, hT5⟩
        · have HL5 := Lib.hid (HV.out.keep hk5).load
          have HR5 := Lib.hid (HRI.out hR HNS.out w5 hk5)
          have HK5 := Lib.hid hk5
          clear hR hk5 HPUT HLR HRI HPX HCF HM HKW
          go_wp2_with ((with_reducible show wpList _ _ _ (⟨_, .load 25 (.tmp 2), _, _, _, _⟩ :: _) _ _); refine wpList_load_any rfl 25 (.tmp 2) rfl _ rfl _ HL5.out ?_)
          refine HR5.out.mono ?_; rintro e w6 ⟨rfl, hk6⟩
          have HK6 := Lib.hid (HK0.out.trans' (HK5.out.trans' hk6))
          clear hk6 HR5
          go_wp2_with fail
          go_ret
          exact ⟨rfl, HK6.out⟩
        · have HR := Lib.hid hR
          have HX0 := Lib.hid hX0
          have HT5 := Lib.hid hT5
          have hF12 : n.F = 1 ∨ n.F = 2 := hR.1
          clear hR hX0 hT5 HPUT HLR HRI HM HKW HNS
          go_wp2_with fail
          refine (turn_free HT5.out).mono ?_; rintro e w' ⟨rfl, rfl⟩
          go_wp2_with fail
          refine (turn_get HT5.out).mono ?_; rintro e w6 ⟨vm, gm, om, vo, go, rfl, hEm, hgm, -, -, hk6⟩
          obtain ⟨-, hgp5, hb5⟩ := HT5.out.keeps
          have hz6 := hk6.size
          obtain ⟨w7, q1, V7, hk7⟩ := got_var (l := [b, gp5]) HBB.out hEm (fun _ => by simp only [List.mem_cons, List.not_mem_nil, or_false]; omega) (fun x hx => by simp only [List.mem_cons, List.not_mem_nil, or_false] at hx; omega)
          have HT7 := Lib.hid ((HT5.out.keep hk6).keep hk7)
          have HK7 : Hid (Keeps [] W0 w7) := HT7.out.keeps.1
          have HS7 := Lib.hid q1
          have HV7 := Lib.hid V7
          have HL7 := Lib.hid (HV.out.keep HK7.out).load
          obtain ⟨w8, p1, p2, p3⟩ := store_ino (n := n) (v := v) (Blk.new w7 (inoC inoZ (.slice none 0 0)) 25) rfl HBB.out (reads_one HE0.out)
          have hk8 : Keeps [] w7 w8 := ((Keeps.refl [] w7).alloc _).trans p3 (by intro x hx; rw [List.mem_singleton] at hx; omega)
          have HK8 : Hid (Keeps [] W0 w8) := HK7.out.trans' hk8
          have hc8 : w8.cell? ⟨w7.heap.size, 0, none⟩ = some (.int .i64 n.F) := by rw [p2.cell]; exact (inoAt v HBB.out).f0
          have hd8 := HCF.out w8 HK8.out
          rw [HZZ.out] at p1
          have HS8 := Lib.hid p1
          have hb9 := store_F p2 (3 - n.F)
          have hk9 : Keeps [] w7 (w8.setCell ⟨w7.heap.size, 0, none⟩ (.int .i64 (3 - n.F))) := hk8.setCell (.inr (Nat.le_refl _)) _
          have HT9 := Lib.hid (HT7.out.keep hk9)
          have HK9 : Hid (Keeps [] W0 (w8.setCell ⟨w7.heap.size, 0, none⟩ (.int .i64 (3 - n.F)))) := HK7.out.trans' hk9
          have HV9 : Hid (VarAt [b, gp5] (w8.setCell ⟨w7.heap.size, 0, none⟩ (.int .i64 (3 - n.F))) w7.heap.size { n with F := 3 - n.F } v (inoC { n with F := 3 - n.F } v)) := by
            have hz7 := hk7.size
            obtain ⟨_, _, _, _, hg0, _⟩ := HT5.out
            have hb0 := HBW.out
            refine ⟨hb9, rfl, HBB.out, ⟨g, HE0.out.keep HK9.out (by simp), HE0.out.apart (l := [b, gp5]) (fun x hx => by simp only [List.mem_cons, List.not_mem_nil, or_false] at hx; omega)⟩, by simp only [List.mem_cons, List.not_mem_nil, or_false]; omega⟩
          have HL9 := Lib.hid HV9.out.load
          have HV97 := Lib.hid (HV7.out.keep (hk9.mono (by simp)))
          have hw3 : wrap64 (3 - n.F) = 3 - n.F := by unfold wrap64; omega
          have hw4 : IntKind.i64.wrap (3 - n.F) = 3 - n.F := IntWalk.i64_in _ (by omega)
          have hf8 : w8.frozen? ⟨w7.heap.size, 0, none⟩ = false := p2.frozen 0
          clear hEm hgm hgp5 hb5 hz6 hk6 q1 V7 hk7 p1 p2 p3 hk8 hb9 hk9 HT5 HCF
          obtain ⟨ZM, hZM⟩ : ∃ ZM, inoC n vm = ZM := ⟨_, rfl⟩
          rw [hZM] at HS7 HV7 HV97 ⊢
          have HZM := Lib.hid hZM
          clear hZM
          obtain ⟨ZZ, hZZ⟩ : ∃ ZZ, inoC inoZ (.slice none 0 0) = ZZ := ⟨_, rfl⟩
          rw [hZZ] at HS7 HS8 hzi
          have HZZ0 := Lib.hid hZZ
          clear hZZ
          obtain ⟨ZT, hZT⟩ : ∃ ZT, inoC { n with F := 3 - n.F } v = ZT := ⟨_, rfl⟩
          rw [hZT] at HV9 HL9
          have HZT := Lib.hid hZT
          clear hZT
          go_wp2_with (first | ((with_reducible show wpList _ _ _ (⟨_, .store 25 (.tmp 9) (.tmp 57), _, _, _, _⟩ :: _) _ _); refine wpList_store_any rfl 25 (.tmp 9) (.tmp 57) rfl _ rfl _ rfl _ HS7.out ?_) | ((with_reducible show wpList _ _ _ (⟨_, .load 25 (.tmp 2), _, _, _, _⟩ :: _) _ _); refine wpList_load_any rfl 25 (.tmp 2) rfl _ rfl _ HL7.out ?_) | ((with_reducible show wpList _ _ _ (⟨_, .store 25 (.tmp 12) (.tmp 60), _, _, _, _⟩ :: _) _ _); refine wpList_store_any rfl 25 (.tmp 12) (.tmp 60) rfl _ rfl _ rfl _ HS8.out ?_) | ((with_reducible show wpList _ _ _ (⟨_, .load 25 (.tmp 12), _, _, _, _⟩ :: _) _ _); refine wpList_load_any rfl 25 (.tmp 12) rfl _ rfl _ HL9.out ?_))
          have HPT := Lib.hid (HPX.out _ b gp5 X0 n 800 { n with F := 3 - n.F } ZT HBW.out HT9.out HX0.out (by omega) (right_turned HR.out) HBB.out rfl HZT.out)
          obtain ⟨W9, hW9⟩ : ∃ W9, w8.setCell ⟨w7.heap.size, 0, none⟩ (.int .i64 (3 - n.F)) = W9 := ⟨_, rfl⟩
          rw [hW9] at HPT HT9 HK9 HV9 HL9 HV97 ⊢
          clear HT7 HK7 HL7 HS7 HS8 HV7 hc8 hd8 hf8 hw3 hw4 HK8 hW9
          refine HPT.out.mono ?_; rintro e w10 ⟨rfl, gp10, hg10, hT10, hk10⟩
          have HT10 := Lib.hid hT10
          have HG10 := Lib.hid hg10
          have HK10 := Lib.hid hk10
          clear hT10 hg10 hk10 HPT HL9
          go_wp2_with fail
          refine (turn_get HT10.out).mono ?_; rintro e w11 ⟨vx, gx, ox, vo2, go2, rfl, hEx, hgx, hOx, hol, hk11⟩
          obtain ⟨-, hgp10, hb10⟩ := HT10.out.keeps
          have hz11 := hk11.size
          obtain ⟨w12, q1, V12, hk12⟩ := got_var (n := { n with F := 3 - n.F }) (l := [b, gp10]) HBB.out hEx (fun _ => by simp only [List.mem_cons, List.not_mem_nil, or_false]; omega) (fun x hx => by simp only [List.mem_cons, List.not_mem_nil, or_false] at hx; omega)
          obtain ⟨ao, co, rfl, hco, hmo, -⟩ := hOx
          rw [i64s_len, hol] at hco ⊢
          have HT12 := Lib.hid ((HT10.out.keep hk11).keep hk12)
          have HS12 := Lib.hid q1
          have HV12 := Lib.hid V12
          have HL12 := Lib.hid (HV.out.keep HT12.out.keeps.1).load
          have HPN := Lib.hid (HPX.out _ b gp10 X0 _ 1500 n Z HBW.out HT12.out HX0.out (by omega) HR.out HBB.out rfl HZZ.out)
          have HK1012 := Lib.hid (hk11.trans' hk12)
          clear hEx hgx hk11 q1 V12 hk12 hgp10 hb10 hz11 hol HPX HT10
          obtain ⟨ZX, hZX⟩ : ∃ ZX, inoC { n with F := 3 - n.F } vx = ZX := ⟨_, rfl⟩
          rw [hZX] at HS12 HV12 ⊢
          rw [HZZ0.out] at HS12
          clear hZX
          go_wp2_with (first | ((with_reducible show wpList _ _ _ (⟨_, .store 25 (.tmp 14) (.tmp 73), _, _, _, _⟩ :: _) _ _); refine wpList_store_any rfl 25 (.tmp 14) (.tmp 73) rfl _ rfl _ rfl _ HS12.out ?_) | ((with_reducible show wpList _ _ _ (⟨_, .load 25 (.tmp 2), _, _, _, _⟩ :: _) _ _); refine wpList_load_any rfl 25 (.tmp 2) rfl _ rfl _ HL12.out ?_))
          refine HPN.out.mono ?_; rintro e w13 ⟨rfl, gp13, hg13, hT13, hk13⟩
          have HT13 := Lib.hid hT13
          have HK13 : Hid (Keeps [b, gp5] W9 w13) := (HK10.out.trans' (HK1012.out.mono (by simp))).trans hk13 (by
            intro x hx
            have := HG10.out
            simp only [List.mem_cons, List.not_mem_nil, or_false] at hx ⊢
            omega)
          have HV13 := Lib.hid (HV12.out.keep hk13).nil
          have HVM := Lib.hid (HV97.out.keep HK13.out).nil
          have HVT := Lib.hid (HV9.out.keep HK13.out).nil
          clear hg13 hT13 hk13 HPN HL12 HS12 HT12 HV12 HK1012 HG10 HK10 HV97 HV9 HK9 HT9
          go_wp2_with fail
          refine (turn_get HT13.out).mono ?_; rintro e w14 ⟨vy, gy, oy, vo3, go3, rfl, hEy, -, -, -, hk14⟩
          obtain ⟨w15, q1, V15, hk15⟩ := got_var (n := n) (l := []) HBB.out hEy (by simp) (by simp)
          have hk1315 := hk14.trans' hk15
          have HT15 := Lib.hid (HT13.out.keep hk1315)
          have HS15 := Lib.hid q1
          have HVY := Lib.hid V15
          have HVX := Lib.hid (HV13.out.keep hk1315)
          have HVMM := Lib.hid (HVM.out.keep hk1315)
          have HVTT := Lib.hid (HVT.out.keep hk1315)
          have HVN := Lib.hid (HV.out.keep HT15.out.keeps.1)
          have HRT := Lib.hid (right_turned HR.out)
          clear hEy hk14 q1 V15 hk15 hk1315 HT13 HV13 HVM HVT HK13
          obtain ⟨ZY, hZY⟩ : ∃ ZY, inoC n vy = ZY := ⟨_, rfl⟩
          rw [hZY] at HS15 HVY ⊢
          rw [HZZ0.out] at HS15
          clear hZY
          have HS1 : Hid (∀ wx, Keeps [] w15 wx → Calls Tryz.prog 18 #[.agg ZM, .agg Z] wx fun e w' => e = .returned (.bool true) ∧ Keeps [] wx w') := fun wx hk => same_vars (HVMM.out.keep hk) (HVN.out.keep hk)
          have HS2 : Hid (∀ wx, Keeps [] w15 wx → Calls Tryz.prog 18 #[.agg ZX, .agg ZT] wx fun e w' => e = .returned (.bool true) ∧ Keeps [] wx w') := fun wx hk => same_vars (HVX.out.keep hk) (HVTT.out.keep hk)
          have HS3 : Hid (∀ wx, Keeps [] w15 wx → Calls Tryz.prog 18 #[.agg ZY, .agg Z] wx fun e w' => e = .returned (.bool true) ∧ Keeps [] wx w') := fun wx hk => same_vars (HVY.out.keep hk) (HVN.out.keep hk)
          have HND : Hid (∀ wx, Keeps [] w15 wx → Calls Tryz.prog 15 #[.agg ZT] wx fun e w' => e = .returned (.int .i64 ((needA { n with F := 3 - n.F } : Nat) : Int)) ∧ Keeps [] wx w') := fun wx hk => need_var (HVTT.out.keep hk) HRT.out
          have HFE : Hid (∀ wx, Keeps [] w15 wx → Calls Tryz.prog 19 #[.pointer (some ⟨b, 0, none⟩)] wx fun e w' => e = .returned (.int .i64 (((freeL X0).length - needA n : Nat) : Int)) ∧ wx = w') := fun wx hk => turn_free (HT15.out.keep hk)
          have HLM : Hid (∀ wx, Keeps [] w15 wx → (loadVar 25 ⟨w6.heap.size, 0, none⟩).run Tryz.prog wx = .ok (.agg ZM) wx) := fun wx hk => (HVMM.out.keep hk).load
          have HLN : Hid (∀ wx, Keeps [] w15 wx → (loadVar 25 ⟨w.heap.size, 0, none⟩).run Tryz.prog wx = .ok (.agg Z) wx) := fun wx hk => (HVN.out.keep hk).load
          have HLX : Hid (∀ wx, Keeps [] w15 wx → (loadVar 25 ⟨w11.heap.size, 0, none⟩).run Tryz.prog wx = .ok (.agg ZX) wx) := fun wx hk => (HVX.out.keep hk).load
          have HLT : Hid (∀ wx, Keeps [] w15 wx → (loadVar 25 ⟨w7.heap.size, 0, none⟩).run Tryz.prog wx = .ok (.agg ZT) wx) := fun wx hk => (HVTT.out.keep hk).load
          have HLY : Hid (∀ wx, Keeps [] w15 wx → (loadVar 25 ⟨w14.heap.size, 0, none⟩).run Tryz.prog wx = .ok (.agg ZY) wx) := fun wx hk => (HVY.out.keep hk).load
          have HK15 : Hid (Keeps [] w w15) := HK0.out.trans' HT15.out.keeps.1
          generalize needA { n with F := 3 - n.F } = nt at *
          generalize (freeL X0).length - needA n = fr at *
          clear HVMM HVN HVX HVTT HVY HT15 HRT HR HX0 hF12 HV HBB HE0 HZZ HZM HZT HW0 HK0 HBW hk1 hk2 hk3 hk4 HZ0
          go_wp2_with (first | ((with_reducible show wpList _ _ _ (⟨_, .store 25 (.tmp 18) (.tmp 84), _, _, _, _⟩ :: _) _ _); refine wpList_store_any rfl 25 (.tmp 18) (.tmp 84) rfl _ rfl _ rfl _ HS15.out ?_) | ((with_reducible show wpList _ _ _ (⟨_, .load 25 (.tmp 9), _, _, _, _⟩ :: _) _ _); refine wpList_load_want (by first | rfl | simp [Region.wanted, yielded]) 25 (.tmp 9) rfl _ rfl _ (HLM.out w15 (Keeps.refl _ _)) ?_) | ((with_reducible show wpList _ _ _ (⟨_, .load 25 (.tmp 2), _, _, _, _⟩ :: _) _ _); refine wpList_load_want (by first | rfl | simp [Region.wanted, yielded]) 25 (.tmp 2) rfl _ rfl _ (HLN.out w15 (Keeps.refl _ _)) ?_))
          refine (HS1.out w15 (Keeps.refl _ _)).mono ?_; rintro e w16 ⟨rfl, hk16⟩
          have HK16 := Lib.hid hk16
          clear hk16 HS1 HLM HS15
          go_wp2_with (first | ((with_reducible show wpList _ _ _ (⟨_, .load 25 (.tmp 14), _, _, _, _⟩ :: _) _ _); refine wpList_load_want (by first | rfl | simp [Region.wanted, yielded]) 25 (.tmp 14) rfl _ rfl _ (HLX.out w16 HK16.out) ?_) | ((with_reducible show wpList _ _ _ (⟨_, .load 25 (.tmp 12), _, _, _, _⟩ :: _) _ _); refine wpList_load_want (by first | rfl | simp [Region.wanted, yielded]) 25 (.tmp 12) rfl _ rfl _ (HLT.out w16 HK16.out) ?_))
          refine (HS2.out w16 HK16.out).mono ?_; rintro e w17 ⟨rfl, hk17⟩
          have HK17 := Lib.hid (HK16.out.trans' hk17)
          clear hk17 HS2 HLX HK16
          go_wp2_with (first | ((with_reducible show wpList _ _ _ (⟨_, .load 25 (.tmp 18), _, _, _, _⟩ :: _) _ _); refine wpList_load_want (by first | rfl | simp [Region.wanted, yielded]) 25 (.tmp 18) rfl _ rfl _ (HLY.out w17 HK17.out) ?_) | ((with_reducible show wpList _ _ _ (⟨_, .load 25 (.tmp 2), _, _, _, _⟩ :: _) _ _); refine wpList_load_want (by first | rfl | simp [Region.wanted, yielded]) 25 (.tmp 2) rfl _ rfl _ (HLN.out w17 HK17.out) ?_))
          refine (HS3.out w17 HK17.out).mono ?_; rintro e w18 ⟨rfl, hk18⟩
          have HK18 := Lib.hid (HK17.out.trans' hk18)
          clear hk18 HS3 HLY HLN HK17
          go_wp2_with (((with_reducible show wpList _ _ _ (⟨_, .load 25 (.tmp 12), _, _, _, _⟩ :: _) _ _); refine wpList_load_want (by first | rfl | simp [Region.wanted, yielded]) 25 (.tmp 12) rfl _ rfl _ (HLT.out w18 HK18.out) ?_))
          refine (HND.out w18 HK18.out).mono ?_; rintro e w19 ⟨rfl, hk19⟩
          have HK19 := Lib.hid (HK18.out.trans' hk19)
          clear hk19 HND HLT HK18
          go_wp2_with fail
          refine (HFE.out w19 HK19.out).mono ?_; rintro e w' ⟨rfl, rfl⟩
          have HKF := Lib.hid (HK15.out.trans' HK19.out)
          clear HFE HK15 HK19
          go_wp2_with fail
          go_ret
          exact ⟨rfl, HKF.out⟩

end Go.Proofs.YtblnnedkfkiofaaGreatDoor

namespace Go.Proofs.YtblnnedkfkiofaaGreatDoor
open Go.ChangeShapes Go.WideShapes Go.ChangeAt Go.RowKit

section
variable {H : Type} {enc : TypeId × Value → H} {W : World} {base : Nat} {spare : Nat → Bool} {held : Bool}

/-- The number in a cell. -/
def intV : Option Value → Int
  | some (.int _ z) => z
  | _ => 0

set_option maxRecDepth 100000 in
theorem open_n13 {fuel : Nat} {cs : List Value} {x : DataW H × List MemPlace} (h : DataW.trod enc Tryz.prog W base spare held fuel 22 cs = some x) : ∃ l : List Int, cs = zs l ∧ l.length = 13 := by
  obtain ⟨xs, m, -, -, hl, hlen, hf⟩ := DataW.trod_array Tryz.underlying22 h
  rw [show Tryz.prog.cellsOf 22 = 13 by kernel_rfl] at hl
  have hone : ∀ i, i < 13 → ∃ z : Int, cs[i]? = some (.int .i64 z) := fun i hi => by
    have h1 := hf i hi
    rw [show Tryz.prog.cellsOf 3 = 1 by kernel_rfl, Nat.mul_one, List.getElem?_eq_getElem (by omega : i < xs.length)] at h1
    obtain ⟨z, e, -, -⟩ := DataW.trod_int Tryz.underlying3 h1
    refine ⟨z, ?_⟩
    have h2 := congrArg (fun l => l[0]?) e
    simpa using h2
  refine ⟨(List.range 13).map fun i => intV cs[i]?, ?_, by simp⟩
  apply List.ext_getElem?
  intro i
  by_cases hi : i < 13
  · obtain ⟨z, hz⟩ := hone i hi
    have h2 : (zs ((List.range 13).map fun i => intV cs[i]?))[i]? = some (.int .i64 (intV cs[i]?)) := by simp [zs, hi]
    rw [h2, hz]
    rfl
  · rw [List.getElem?_eq_none (by omega), List.getElem?_eq_none (by simp [zs]; omega)]


set_option maxRecDepth 100000 in
theorem open_n13' {b0 : Nat} {v : Value} {d : DataW H} {p : List MemPlace} (hval : Value.okWide Tryz.prog W .any b0 22 v)
    (h : DataW.Trod enc Tryz.prog W base spare held 22 v d p) : ∃ l : List Int, v = .agg (zs l).toArray ∧ l.length = 13 := by
  obtain ⟨cs, rfl, hsz, _⟩ : ∃ cs, v = .agg cs ∧ cs.size = Tryz.prog.cellsOf 22 ∧ Row.okWide Tryz.prog W .any b0 22 cs := by
    simpa [Value.okWide, Tryz.underlying22] using hval
  obtain ⟨fuel, hf⟩ := h
  obtain ⟨l, e, hl⟩ := open_n13 hf
  refine ⟨l, ?_, hl⟩
  obtain ⟨c⟩ := cs
  simp [Value.cells] at e
  rw [e]

end

end Go.Proofs.YtblnnedkfkiofaaGreatDoor

namespace Go.Proofs.YtblnnedkfkiofaaGreatDoor
open Go.ChangeShapes Go.WideShapes Go.ChangeAt Go.RowKit

section
variable {H : Type} {enc : TypeId × Value → H} {W : World} {base : Nat} {spare : Nat → Bool} {held : Bool}

set_option maxRecDepth 100000 in
theorem open_entry {fuel : Nat} {cs : List Value} {x : DataW H × List MemPlace} (h : DataW.trod enc Tryz.prog W base spare held fuel 66 cs = some x) :
    ∃ (s : ByteArray) (y : Int), cs = [.string s, .int .i64 y] := by
  obtain ⟨xs, n, -, -, hl, hlen, hf⟩ := DataW.trod_struct Tryz.underlying66 h
  rw [show Tryz.prog.cellsOf 66 = 2 by kernel_rfl] at hl
  match cs, hl with
  | [c0, c1], _ =>
    have f0 : DataW.trod enc Tryz.prog W base spare held n 9 (([c0, c1].drop 0).take (Tryz.prog.cellsOf 9)) = xs[0]? := hf 0 _ rfl
    have f1 : DataW.trod enc Tryz.prog W base spare held n 3 (([c0, c1].drop 1).take (Tryz.prog.cellsOf 3)) = xs[1]? := hf 1 _ rfl
    simp only [show Tryz.prog.cellsOf 9 = 1 by kernel_rfl, show Tryz.prog.cellsOf 3 = 1 by kernel_rfl, List.drop_zero, List.drop_succ_cons, List.take_succ_cons, List.take_zero] at f0 f1
    match xs, hlen with
    | [y0, y1], _ =>
      simp only [List.getElem?_cons_zero, List.getElem?_cons_succ] at f0 f1
      obtain ⟨s, e0, -⟩ := DataW.trod_string Tryz.underlying9 f0
      obtain ⟨n1, e1, -, w1⟩ := DataW.trod_int Tryz.underlying3 f1
      simp only [List.cons.injEq, and_true] at e0 e1
      subst e0 e1
      exact ⟨s, n1, rfl⟩

set_option maxRecDepth 100000 in
theorem open_ents {fuel : Nat} {cs : List Value} {x : DataW H × List MemPlace} (h : DataW.trod enc Tryz.prog W base spare held fuel 23 cs = some x) :
    ∃ v g E, cs = [v] ∧ EReads W v g E := by
  obtain ⟨a, len, cap, rfl, h1, h2, h3⟩ := open_rows (sz := 2) Tryz.underlying23 (by kernel_rfl) (by omega) h
  by_cases h0 : len = 0
  · subst h0
    exact ⟨_, 0, [], rfl, ⟨a, cap, rfl, by simp, h2, fun h => absurd rfl h⟩⟩
  · obtain ⟨g, off, rfl, hg, hx⟩ := h3 h0
    have hex : ∀ i, i < len → ∃ p : ByteArray × Int, W.cell? ⟨g, off + i * 2, none⟩ = some (.string p.1) ∧ W.cell? ⟨g, off + i * 2 + 1, none⟩ = some (.int .i64 p.2) := fun i hi => by
      obtain ⟨cs', y, n, hl, hc, ht⟩ := hx i hi
      obtain ⟨q, z, rfl⟩ := open_entry ht
      exact ⟨(q, z), hc 0 (by omega), hc 1 (by omega)⟩
    obtain ⟨f, hf⟩ : ∃ f : Nat → ByteArray × Int, ∀ i, i < len → W.cell? ⟨g, off + i * 2, none⟩ = some (.string (f i).1) ∧ W.cell? ⟨g, off + i * 2 + 1, none⟩ = some (.int .i64 (f i).2) :=
      ⟨fun i => if h : i < len then Classical.choose (hex i h) else (ByteArray.empty, 0), fun i hi => by simp only [dif_pos hi]; exact Classical.choose_spec (hex i hi)⟩
    refine ⟨_, g, (List.range len).map f, rfl, ⟨_, cap, by simp, by simpa using h1, h2, fun _ => ⟨hg, off, rfl, fun j hj => ?_⟩⟩⟩
    have hj' : j < len := by simpa using hj
    have e1 : enm ((List.range len).map f) j = (f j).1 := by simp [enm, List.getD_eq_getElem?_getD, hj']
    have e2 : eno ((List.range len).map f) j = (f j).2 := by simp [eno, List.getD_eq_getElem?_getD, hj']
    rw [e1, e2]
    exact hf j hj'

set_option maxRecDepth 100000 in
theorem open_ino {b0 : Nat} {v : Value} {d : DataW H} {p : List MemPlace} (hval : Value.okWide Tryz.prog W .any b0 25 v)
    (h : DataW.Trod enc Tryz.prog W base spare held 25 v d p) : ∃ (n : Ino) (u : Value) (g : Nat), v = .agg (inoC n u) ∧ n.B.length = 13 ∧ EReads W u g n.E := by
  obtain ⟨cs, rfl, hsz, _⟩ : ∃ cs, v = .agg cs ∧ cs.size = Tryz.prog.cellsOf 25 ∧ Row.okWide Tryz.prog W .any b0 25 cs := by
    simpa [Value.okWide, Tryz.underlying25] using hval
  rw [show Tryz.prog.cellsOf 25 = 18 by kernel_rfl] at hsz
  obtain ⟨l⟩ := cs
  obtain ⟨fuel, hf⟩ := h
  obtain ⟨xs, n, -, -, hl, hlen, hf⟩ := DataW.trod_struct Tryz.underlying25 hf
  have hlen6 : xs.length = 6 := hlen
  have ci : Tryz.prog.cellsOf 3 = 1 := by kernel_rfl
  have one : ∀ (k : Nat) (hk : k < l.length) (y : DataW H × List MemPlace), DataW.trod enc Tryz.prog W base spare held n 3 ((l.drop k).take (Tryz.prog.cellsOf 3)) = some y → ∃ z : Int, l[k]? = some (.int .i64 z) := fun k hk y hy => by
    rw [ci] at hy
    obtain ⟨z, e, -, -⟩ := DataW.trod_int Tryz.underlying3 hy
    refine ⟨z, ?_⟩
    have h2 := congrArg (fun l => l[0]?) e
    simpa using h2
  have hsz' : l.length = 18 := hsz
  have hsome : ∀ i, i < 6 → ∃ y, xs[i]? = some y := fun i hi => ⟨xs[i], List.getElem?_eq_getElem (by omega)⟩
  obtain ⟨y0, e0⟩ := hsome 0 (by omega)
  obtain ⟨y1, e1⟩ := hsome 1 (by omega)
  obtain ⟨y2, e2⟩ := hsome 2 (by omega)
  obtain ⟨y3, e3⟩ := hsome 3 (by omega)
  obtain ⟨y4, e4⟩ := hsome 4 (by omega)
  obtain ⟨y5, e5⟩ := hsome 5 (by omega)
  have f0 : DataW.trod enc Tryz.prog W base spare held n 3 ((l.drop 0).take (Tryz.prog.cellsOf 3)) = xs[0]? := hf 0 _ rfl
  have f1 : DataW.trod enc Tryz.prog W base spare held n 3 ((l.drop 1).take (Tryz.prog.cellsOf 3)) = xs[1]? := hf 1 _ rfl
  have f2 : DataW.trod enc Tryz.prog W base spare held n 3 ((l.drop 2).take (Tryz.prog.cellsOf 3)) = xs[2]? := hf 2 _ rfl
  have f3 : DataW.trod enc Tryz.prog W base spare held n 3 ((l.drop 3).take (Tryz.prog.cellsOf 3)) = xs[3]? := hf 3 _ rfl
  have f4 : DataW.trod enc Tryz.prog W base spare held n 22 ((l.drop 4).take (Tryz.prog.cellsOf 22)) = xs[4]? := hf 4 _ rfl
  have f5 : DataW.trod enc Tryz.prog W base spare held n 23 ((l.drop 17).take (Tryz.prog.cellsOf 23)) = xs[5]? := hf 5 _ rfl
  rw [e0] at f0
  rw [e1] at f1
  rw [e2] at f2
  rw [e3] at f3
  rw [e4] at f4
  rw [e5] at f5
  obtain ⟨z0, g0⟩ := one 0 (by omega) _ f0
  obtain ⟨z1, g1⟩ := one 1 (by omega) _ f1
  obtain ⟨z2, g2⟩ := one 2 (by omega) _ f2
  obtain ⟨z3, g3⟩ := one 3 (by omega) _ f3
  obtain ⟨B, eB, hB⟩ := open_n13 f4
  obtain ⟨u, g, E, eE, hE⟩ := open_ents f5
  rw [show Tryz.prog.cellsOf 22 = 13 by kernel_rfl] at eB
  rw [show Tryz.prog.cellsOf 23 = 1 by kernel_rfl] at eE
  refine ⟨⟨z0, z1, z2, z3, B, E⟩, u, g, ?_, hB, hE⟩
  have hl4 : l = (l.take 4) ++ ((l.drop 4).take 13 ++ (l.drop 17).take 1) := by
    have h1 : (l.drop 4).take 13 ++ (l.drop 17).take 1 = l.drop 4 := by
      rw [List.take_of_length_le (l := l.drop 17) (by rw [List.length_drop]; omega)]
      have := List.take_append_drop 13 (l.drop 4)
      rwa [List.drop_drop] at this
    rw [h1, List.take_append_drop]
  have ht4 : l.take 4 = [.int .i64 z0, .int .i64 z1, .int .i64 z2, .int .i64 z3] := by
    apply List.ext_getElem?
    intro i
    rcases (show i = 0 ∨ i = 1 ∨ i = 2 ∨ i = 3 ∨ 4 ≤ i by omega) with rfl | rfl | rfl | rfl | hi
    · rw [List.getElem?_take, if_pos (by omega), g0]; rfl
    · rw [List.getElem?_take, if_pos (by omega), g1]; rfl
    · rw [List.getElem?_take, if_pos (by omega), g2]; rfl
    · rw [List.getElem?_take, if_pos (by omega), g3]; rfl
    · rw [List.getElem?_eq_none (by rw [List.length_take]; omega), List.getElem?_eq_none (by simpa using hi)]
  rw [hl4, ht4, eB, eE]
  rfl

set_option maxRecDepth 100000 in
theorem open_pair {fuel : Nat} {cs : List Value} {x : DataW H × List MemPlace} (h : DataW.trod enc Tryz.prog W base spare held fuel 63 cs = some x) :
    ∃ a y : Int, cs = [.int .i64 a, .int .u64 y] ∧ (-9223372036854775808 ≤ a ∧ a ≤ 9223372036854775807) ∧ 0 ≤ y ∧ y ≤ 18446744073709551615 := by
  obtain ⟨xs, n, -, -, hl, hlen, hf⟩ := DataW.trod_struct Tryz.underlying63 h
  rw [show Tryz.prog.cellsOf 63 = 2 by kernel_rfl] at hl
  match cs, hl with
  | [c0, c1], _ =>
    have f0 : DataW.trod enc Tryz.prog W base spare held n 3 (([c0, c1].drop 0).take (Tryz.prog.cellsOf 3)) = xs[0]? := hf 0 _ rfl
    have f1 : DataW.trod enc Tryz.prog W base spare held n 31 (([c0, c1].drop 1).take (Tryz.prog.cellsOf 31)) = xs[1]? := hf 1 _ rfl
    simp only [show Tryz.prog.cellsOf 3 = 1 by kernel_rfl, show Tryz.prog.cellsOf 31 = 1 by kernel_rfl, List.drop_zero, List.drop_succ_cons, List.take_succ_cons, List.take_zero] at f0 f1
    match xs, hlen with
    | [y0, y1], _ =>
      simp only [List.getElem?_cons_zero, List.getElem?_cons_succ] at f0 f1
      obtain ⟨n0, e0, -, w0⟩ := DataW.trod_int Tryz.underlying3 f0
      obtain ⟨n1, e1, -, w1⟩ := DataW.trod_int Tryz.underlying31 f1
      simp only [List.cons.injEq, and_true] at e0 e1
      subst e0 e1
      exact ⟨n0, n1, rfl, bounds_i64 w0, bounds_u64 w1⟩

set_option maxRecDepth 100000 in
theorem open_pairs {fuel : Nat} {cs : List Value} {x : DataW H × List MemPlace} (h : DataW.trod enc Tryz.prog W base spare held fuel 60 cs = some x) :
    ∃ v g ps, cs = [v] ∧ PReads W v g ps ∧ okP ps := by
  obtain ⟨a, len, cap, rfl, h1, h2, h3⟩ := open_rows (sz := 2) Tryz.underlying60 (by kernel_rfl) (by omega) h
  by_cases h0 : len = 0
  · subst h0
    exact ⟨_, 0, [], rfl, ⟨a, cap, rfl, by simp, h2, fun h => absurd rfl h⟩, by intro p hp; simp at hp⟩
  · obtain ⟨g, off, rfl, hg, hx⟩ := h3 h0
    have hex : ∀ i, i < len → ∃ p : Int × Int, ((-9223372036854775808 ≤ p.1 ∧ p.1 ≤ 9223372036854775807) ∧ 0 ≤ p.2 ∧ p.2 ≤ 18446744073709551615) ∧
        W.cell? ⟨g, off + i * 2, none⟩ = some (.int .i64 p.1) ∧ W.cell? ⟨g, off + i * 2 + 1, none⟩ = some (.int .u64 p.2) := fun i hi => by
      obtain ⟨cs', y, n, hl, hc, ht⟩ := hx i hi
      obtain ⟨q, z, rfl, hq, hz⟩ := open_pair ht
      exact ⟨(q, z), ⟨hq, hz⟩, hc 0 (by omega), hc 1 (by omega)⟩
    obtain ⟨f, hf⟩ : ∃ f : Nat → Int × Int, ∀ i, i < len → ((-9223372036854775808 ≤ (f i).1 ∧ (f i).1 ≤ 9223372036854775807) ∧ 0 ≤ (f i).2 ∧ (f i).2 ≤ 18446744073709551615) ∧
        W.cell? ⟨g, off + i * 2, none⟩ = some (.int .i64 (f i).1) ∧ W.cell? ⟨g, off + i * 2 + 1, none⟩ = some (.int .u64 (f i).2) :=
      ⟨fun i => if h : i < len then Classical.choose (hex i h) else (0, 0), fun i hi => by simp only [dif_pos hi]; exact Classical.choose_spec (hex i hi)⟩
    refine ⟨_, g, (List.range len).map f, rfl, ⟨_, cap, by simp, by simpa using h1, h2, fun _ => ⟨hg, off, rfl, fun j hj => ?_⟩⟩, ?_⟩
    · have hj' : j < len := by simpa using hj
      have e1 : patN ((List.range len).map f) j = (f j).1 := by simp [patN, List.getD_eq_getElem?_getD, hj']
      have e2 : pwdN ((List.range len).map f) j = (f j).2 := by simp [pwdN, List.getD_eq_getElem?_getD, hj']
      rw [e1, e2]
      exact (hf j hj').2
    · intro p hp
      simp only [List.mem_map, List.mem_range] at hp
      obtain ⟨i, hi, rfl⟩ := hp
      exact (hf i hi).1
end

end Go.Proofs.YtblnnedkfkiofaaGreatDoor

namespace Go.Proofs.YtblnnedkfkiofaaGreatDoor
open Go.ChangeShapes Go.WideShapes Go.ChangeAt Go.WideMaps Go.WideElems Go.RowKit

theorem Tryz.gTab : Tryz.prog.globalNamed "math/bits.deBruijn64tab" = some 0 := by kernel_rfl
theorem Tryz.tTab : (Tryz.prog.globals[0]?).map (·.type) = some 104 := by kernel_rfl
theorem Tryz.cells_u8 : Tryz.prog.cellsOf 5 = 1 := by kernel_rfl
theorem Tryz.cells_u64 : Tryz.prog.cellsOf 31 = 1 := by kernel_rfl
theorem Tryz.cells_w4 : Tryz.prog.cellsOf 32 = 4 := by kernel_rfl

theorem tabList {H : Type} : Rows.laid_math_bits_deBruijn64tab (H := H) = .agg (Lib.deBruijn64tab.map fun n : Nat => .lit (.int .u8 (n : Int))) := rfl

/-- What the condition gives the walks. -/
theorem tab_of_laid {W : World} (h : laidMetH Tryz.prog [("math/bits.deBruijn64tab", Rows.laid_math_bits_deBruijn64tab)] W) : TabAt W := by
  rw [MakeChecks.laidMetH_plain _ _ _ (by kernel_rfl)] at h
  obtain ⟨ps, ⟨g0, t0, cs0, f0, p0, q0, hg0, ht0, hv0, hd0, _, _⟩, _, _⟩ := h
  obtain rfl := Option.some.inj (Tryz.gTab.symm.trans hg0)
  obtain rfl := Option.some.inj (Tryz.tTab.symm.trans ht0)
  obtain ⟨xs, m, rfl, hx, hlen, hn, hel⟩ := DataW.trod_array Tryz.underlying104 hd0
  rw [tabList] at hx
  simp only [Prod.mk.injEq, DataW.agg.injEq] at hx
  intro j hj
  have hj' := hel j hj
  rw [Tryz.cells_u8, Nat.mul_one] at hj'
  cases hxj : xs[j]? with
  | none => rw [List.getElem?_eq_none_iff] at hxj; omega
  | some y =>
    rw [hxj] at hj'
    have hlen' : ((cs0.toList.drop j).take 1).length = 1 := by
      rw [List.length_take, List.length_drop]
      have h64 : Tryz.prog.cellsOf 104 = 64 := by kernel_rfl
      rw [h64] at hlen
      omega
    obtain ⟨c, hc⟩ : ∃ c, (cs0.toList.drop j).take 1 = [c] := by
      match (cs0.toList.drop j).take 1, hlen' with
      | [c], _ => exact ⟨c, rfl⟩
    rw [hc] at hj'
    obtain ⟨k, e1, e2, _⟩ := DataW.trod_int Tryz.underlying5 hj'
    have hk : (xs.map (·.1))[j]? = some (.lit (.int .u8 k)) := by rw [List.getElem?_map, hxj, e2]; rfl
    rw [← hx.1, List.getElem?_map] at hk
    have hjl : j < Lib.deBruijn64tab.length := hj
    rw [List.getElem?_eq_getElem hjl] at hk
    have hk2 : k = ((Lib.deBruijn64tab.getD j 0 : Nat) : Int) := by
      have : ((Lib.deBruijn64tab[j] : Nat) : Int) = k := by simpa using hk
      rw [← this, List.getD_eq_getElem?_getD, List.getElem?_eq_getElem hjl]
      rfl
    have hcell := World.var?_cell hg0 hv0 j
    rw [hcell, ← hk2]
    have h3 : ((cs0.toList.drop j).take 1)[0]? = some c := by rw [hc]; rfl
    rw [List.getElem?_take, if_pos (by omega), List.getElem?_drop, Nat.add_zero, Array.getElem?_toList] at h3
    rw [h3]
    simp only [List.cons.injEq, and_true] at e1
    rw [e1]

set_option maxRecDepth 100000 in
/-- The start meets the condition. -/
theorem door_met (os : Os) (args : Array Value) : laidMetH Tryz.prog [("math/bits.deBruijn64tab", Rows.laid_math_bits_deBruijn64tab)] ((World.doorLaid Tryz.prog 400 os).forCall (fun _ _ => 0) ⟨#[], args, []⟩).memory :=
  laidMetH_of_parts3 (fuel := 8) (laidMet_of_run' 8 (by kernel_rfl) (by kernel_rfl)) (by kernel_rfl) (by kernel_rfl)

set_option maxRecDepth 100000 in
/-- An array of four words, as it was read. -/
theorem open_w4 {H : Type} {enc : TypeId × Value → H} {W : World} {base b0 : Nat} {spare : Nat → Bool} {held : Bool} {v : Value} {d : DataW H} {p : List MemPlace} (hval : Value.okWide Tryz.prog W .any b0 32 v)
    (h : DataW.Trod enc Tryz.prog W base spare held 32 v d p) : ∃ ws : List Nat, v = .agg (w4 ws) ∧ ∀ i, ws.getD i 0 < 18446744073709551616 := by
  obtain ⟨cs, rfl, hsz, _⟩ : ∃ cs, v = .agg cs ∧ cs.size = Tryz.prog.cellsOf 32 ∧ Row.okWide Tryz.prog W .any b0 32 cs := by
    simpa [Value.okWide, Tryz.underlying32] using hval
  rw [Tryz.cells_w4] at hsz
  obtain ⟨l⟩ := cs
  obtain ⟨c0, c1, c2, c3, rfl⟩ : ∃ c0 c1 c2 c3, l = [c0, c1, c2, c3] := by
    match l, hsz with
    | [a, b, c, d], _ => exact ⟨a, b, c, d, rfl⟩
  obtain ⟨fuel, hf⟩ := h
  obtain ⟨y0, y1, y2, y3, m, hx, hy0, hy1, hy2, hy3⟩ := trod_array4 Tryz.underlying32 Tryz.cells_u64 hf
  obtain ⟨x0, e0, -, w0⟩ := DataW.trod_int Tryz.underlying31 hy0
  obtain ⟨x1, e1, -, w1⟩ := DataW.trod_int Tryz.underlying31 hy1
  obtain ⟨x2, e2, -, w2⟩ := DataW.trod_int Tryz.underlying31 hy2
  obtain ⟨x3, e3, -, w3⟩ := DataW.trod_int Tryz.underlying31 hy3
  simp only [List.cons.injEq, and_true] at e0 e1 e2 e3
  subst e0 e1 e2 e3
  have b0 := bounds_u64 w0
  have b1 := bounds_u64 w1
  have b2 := bounds_u64 w2
  have b3 := bounds_u64 w3
  obtain ⟨n0, rfl⟩ := Int.eq_ofNat_of_zero_le b0.1
  obtain ⟨n1, rfl⟩ := Int.eq_ofNat_of_zero_le b1.1
  obtain ⟨n2, rfl⟩ := Int.eq_ofNat_of_zero_le b2.1
  obtain ⟨n3, rfl⟩ := Int.eq_ofNat_of_zero_le b3.1
  refine ⟨[n0, n1, n2, n3], rfl, fun i => ?_⟩
  rcases (show i = 0 ∨ i = 1 ∨ i = 2 ∨ i = 3 ∨ 4 ≤ i by omega) with rfl | rfl | rfl | rfl | hi
  · show n0 < _; omega
  · show n1 < _; omega
  · show n2 < _; omega
  · show n3 < _; omega
  · rw [List.getD_eq_getElem?_getD, List.getElem?_eq_none (by simpa using hi)]
    simp

end Go.Proofs.YtblnnedkfkiofaaGreatDoor

namespace Go.Proofs.YtblnnedkfkiofaaGreatDoor
open Go.RowKit

/-- The inode without blocks. -/
def emp (n : Ino) : Ino := { n with B := List.replicate 13 0 }

theorem zero13 (k : Nat) : (List.replicate 13 (0 : Int)).getD k 0 = 0 := by
  rw [List.getD_eq_getElem?_getD, List.getElem?_replicate]
  split <;> rfl

theorem right_emp {n : Ino} (h : RightP n) : RightP (emp n) := by
  obtain ⟨h1, h2, h3⟩ := h
  refine ⟨h1, h2, ?_⟩
  rcases h3 with ⟨hK, a1, a2, a3, a4⟩ | ⟨hK, a1, a2, a3, a4⟩
  · refine .inl ⟨hK, a1, a2, ?_, fun k hk => ?_⟩
    · show List.replicate 13 (0 : Int) = uptoL (List.replicate 13 0) (partsN n.S.toNat)
      have hp : partsN n.S.toNat ≤ 13 := by unfold partsN; omega
      unfold uptoL
      rw [List.take_replicate, List.replicate_append_replicate]
      congr 1
      omega
    · have hz := zero13
      refine ⟨?_, fun h => absurd (hz k) h⟩
      show 0 ≤ (List.replicate 13 (0 : Int)).getD k 0 ∧ (List.replicate 13 (0 : Int)).getD k 0 < 256
      rw [hz]
      omega
  · exact .inr ⟨hK, a1, a2, rfl, a4⟩

theorem build_n13 (w : World) : (Instr.build 22 #[]).run Tryz.prog w = .ok (.agg (zs (List.replicate 13 0)).toArray) w := by kernel_rfl

set_option maxRecDepth 100000 in
set_option maxHeartbeats 1000000 in
theorem empty_at (n : Ino) (v : Value) (g : Nat) (hB : n.B.length = 13) (w : World) (hE : EReads w v g n.E) :
    Calls Tryz.prog 10 #[.agg (inoC n v)] w fun e w' => e = .returned (.agg (inoC (emp n) v)) ∧ Keeps [] w w' := by
  have hb1 := (Blk.new w (inoC n v) 25).alloc (.cells (inoC inoZ (.slice none 0 0)) 25)
  have hb2 := Blk.new (w.alloc (.cells (inoC n v) 25)) (inoC inoZ (.slice none 0 0)) 25
  have hk0 : Keeps [] w ((w.alloc (.cells (inoC n v) 25)).alloc (.cells (inoC inoZ (.slice none 0 0)) 25)) := ((Keeps.refl [] w).alloc _).alloc _
  rw [show (w.alloc (.cells (inoC n v) 25)).heap.size = w.heap.size + 1 by simp] at hb2
  obtain ⟨W0, hW0⟩ : ∃ W0, (w.alloc (.cells (inoC n v) 25)).alloc (.cells (inoC inoZ (.slice none 0 0)) 25) = W0 := ⟨_, rfl⟩
  rw [hW0] at hb1 hb2 hk0
  obtain ⟨w1, q1, q2, q3⟩ := store_B (l := List.replicate 13 0) hb1 hB (by simp)
  have hb3 := hb2.keep q3 (by simp)
  obtain ⟨w2, p1, p2, p3⟩ := store_ino (n := emp n) (v := v) hb3 rfl (by simp [emp]) (reads_one hE)
  have HL1 := Lib.hid (load_ino q2 (by simp))
  have HS2 := Lib.hid p1
  have HL2 := Lib.hid (load_ino p2 (by simp [emp]))
  have HK : Hid (Keeps [] w w2) := (hk0.trans q3 (by intro x hx; rw [List.mem_singleton] at hx; omega)).trans p3 (by intro x hx; rw [List.mem_singleton] at hx; omega)
  have hlit : (zs (List.replicate 13 0)).toArray = #[.int .i64 0, .int .i64 0, .int .i64 0, .int .i64 0, .int .i64 0, .int .i64 0, .int .i64 0, .int .i64 0, .int .i64 0, .int .i64 0, .int .i64 0, .int .i64 0, .int .i64 0] := rfl
  rw [hlit] at q1
  have HS1 := Lib.hid q1
  have hzi := zero_ino
  have HW0 := Lib.hid hW0
  have HEM : Hid ({ n with B := List.replicate 13 0 } = emp n) := rfl
  rw [HEM.out] at HL1
  clear hb1 hb2 hb3 hk0 q1 q2 q3 p1 p2 p3 hE hB hW0 hlit
  generalize inoC n v = Z at *
  generalize inoC (emp n) v = ZE at *
  generalize inoC inoZ (.slice none 0 0) = ZZ at *
  go_enter Tryz.func10, Tryz.ntmps10
  go_wp2_with (first | ((with_reducible show wpList _ _ _ (⟨_, .store 22 (.tmp 4) (.tmp 3), _, _, _, _⟩ :: _) _ _); rw [HW0.out]; refine wpList_store_any rfl 22 (.tmp 4) (.tmp 3) rfl _ rfl _ rfl _ HS1.out ?_) | ((with_reducible show wpList _ _ _ (⟨_, .load 25 (.tmp 1), _, _, _, _⟩ :: _) _ _); refine wpList_load_any rfl 25 (.tmp 1) rfl _ rfl _ HL1.out ?_) | ((with_reducible show wpList _ _ _ (⟨_, .store 25 (.tmp 2) (.tmp 5), _, _, _, _⟩ :: _) _ _); refine wpList_store_any rfl 25 (.tmp 2) (.tmp 5) rfl _ rfl _ rfl _ HS2.out ?_))
  exact bodyPost_ret (results_cell Tryz.results10 rfl HL2.out) rfl ⟨rfl, HK.out⟩

theorem laid_pad : laidX [] 4 1080 = padW [] := by
  apply List.ext_getElem (by rw [laidX_len, padW_len])
  intro j h1 h2
  rw [laidX_len] at h1
  have a := laidX_get [] 4 1080 j h1
  have b := pad_get j
  rw [List.getD_eq_getElem?_getD, List.getElem?_eq_getElem (by rw [laidX_len]; exact h1), Option.getD_some] at a
  rw [List.getD_eq_getElem?_getD, List.getElem?_eq_getElem h2, Option.getD_some] at b
  rw [a, b]
  split
  · simp
  · rw [if_neg (by omega)]

/-- A sheet at which so many blocks are free, and the inode 7. -/
def SpaceAt (W0 : World) (b gp k m : Nat) (wx : World) : Prop :=
  ∃ ps, ShAt wx b gp (padW []) ps ∧ gp < wx.heap.size ∧ W0.heap.size ≤ gp ∧ ps.length = m ∧ In64 (putAll (padW []) ps) ∧ FreeP (putAll (padW []) ps) 7 ∧ (freeL (putAll (padW []) ps)).length = k ∧ Keeps [] W0 wx

theorem SpaceAt.keep {W0 wx w' : World} {b gp k m : Nat} (h : SpaceAt W0 b gp k m wx) (hk : Keeps [] wx w') : SpaceAt W0 b gp k m w' := by
  obtain ⟨ps, h1, h2, h3, h4, h5, h6, h7, h8⟩ := h
  exact ⟨ps, h1.keep hk (by simp) (by simp), Nat.lt_of_lt_of_le h2 hk.size, h3, h4, h5, h6, h7, h8.trans' hk⟩

theorem SpaceAt.keeps {W0 wx : World} {b gp k m : Nat} (h : SpaceAt W0 b gp k m wx) : Keeps [] W0 wx := by
  obtain ⟨ps, h1, h2, h3, h4, h5, h6, h7, h8⟩ := h
  exact h8

theorem space_take {W0 wx : World} {b k : Nat} (hb : W0.heap.size ≤ b) (hT : TabAt W0) (hs : ShAt wx b b (padW []) []) (hk : Keeps [] W0 wx) (hk13 : k ≤ 13) :
    Calls Tryz.prog 12 #[.pointer (some ⟨b, 0, none⟩), .int .i64 ((255 - k : Nat) : Int)] wx fun e w' => ∃ v gp m, e = .returned (.tuple #[v, .int .i64 0]) ∧ m ≤ 3000 ∧ SpaceAt W0 b gp k m w' := by
  have hl : (padW []).length = 3128 := padW_len []
  have hf := pad_free
  refine (paTake_ok hs pad_64 (hT.keep hk) hs.raw.lt (by simp) (255 - k) (by show 255 - k ≤ (freeL (padW [])).length; omega)).mono ?_
  rintro e w' ⟨v, g, rfl, hr, hg1, hg2, gp', p1, p2, hs', hk'⟩
  have hs' : ShAt w' b gp' (padW []) (takePs (padW []) ((freeL (padW [])).take (255 - k))) := hs'
  obtain ⟨t1, t2, t3⟩ := freeL_take (X := padW []) pad_64 hl (255 - k)
  have hm : ∀ c ∈ (freeL (padW [])).take (255 - k), c ≠ 0 ∧ c < 256 := own_in
  have hz0 := hk.size
  have hz := hk'.size
  have hbl := hs.raw.lt
  refine ⟨v, gp', _, rfl, ?_, _, hs', by omega, by omega, rfl, t1, ?_, ?_, hk.trans hk' (by intro y hy; simp only [List.mem_cons, List.not_mem_nil, or_false] at hy; omega)⟩
  · rw [takePs_len _ _ hm, List.length_take]
    omega
  · unfold FreeP inoAtX rowL
    apply List.ext_getElem (by simp)
    intro j h1 h2
    have hj : j < 8 := by simpa using h2
    rw [List.getElem_map, List.getElem_replicate, List.getElem_range]
    show (putAll (padW []) _).getD (824 + 8 * (7 : Int).toNat + j) 0 = 0
    rw [putAll_other _ _ _ fun p hp => ?_]
    · exact pad_get _
    · have h7 : (7 : Int).toNat = 7 := rfl
      rw [h7]
      rcases takePs_mem _ _ hm hp with h | h <;> omega
  · rw [t3, List.length_drop]
    omega

theorem space_put {W0 wx : World} {b gp k m : Nat} (hb : W0.heap.size ≤ b) (hT : TabAt W0) (h : SpaceAt W0 b gp k m wx) (hm : m ≤ 3000) (n : Ino) (v : Value) (g : Nat) (hR : RightP n) (hB : n.B.length = 13) (hE : EReads W0 v g n.E) (hN : ∀ k, k < n.E.length → (enm n.E k).size ≤ 9223372036854775807) :
    Calls Tryz.prog 14 #[.pointer (some ⟨b, 0, none⟩), .int .i64 7, .agg (inoC n v)] wx fun e w' => (k < needA n ∧ e = .returned (.int .i64 7) ∧ ∃ gp', SpaceAt W0 b gp' k m w') ∨ (needA n ≤ k ∧ e = .returned (.int .i64 0) ∧ ∃ X0 gp', (freeL X0).length = k ∧ Turn W0 b gp' X0 7 n 4000 w') := by
  obtain ⟨ps, h1, h2, h3, h4, h5, h6, h7, h8⟩ := h
  refine (inoPut_at h1 h5 (fun wy hy => turn_tab hT hb h3 h8 hy) h2 (by omega) 7 n v g hB (hE.keep h8 (by simp)) hN (turn_apart hE hb h3)).mono ?_
  rintro e w' ⟨r, qs, gp', rfl, hg, hs, hk, hq, hr⟩
  have hXl : (putAll (padW []) ps).length = 3128 := h1.raw.lx
  have hz := hk.size
  have hz0 := h8.size
  have hkk' : Keeps [] W0 w' := h8.trans hk (by intro y hy; simp only [List.mem_cons, List.not_mem_nil, or_false] at hy; omega)
  rcases hr.free ⟨by omega, by omega⟩ h6 with ⟨-, h, -⟩ | ⟨rfl, -, hf, rfl⟩ | ⟨rfl, -, hf, rfl⟩
  · exact absurd hR h
  · rw [List.append_nil] at hs
    exact .inl ⟨by omega, rfl, gp', ps, hs, by omega, by omega, h4, h5, h6, h7, hkk'⟩
  · have he := put_eff (i := 7) (own := []) h5 hXl hB ⟨by omega, by omega⟩ hR hf
    obtain ⟨o1, o2⟩ := (Over.refl h5 hXl).put he
    rw [← putAll_append] at o1 o2
    have st := he.st
    rw [← putAll_append] at st
    exact .inr ⟨by omega, rfl, putAll (padW []) ps, gp', h7, _, _, hs, by omega, by omega, by rw [List.length_append]; omega, o1, st, hkk', o2⟩

theorem space_mark {W0 wx : World} {b gp k m : Nat} (h : SpaceAt W0 b gp k m wx) :
    Calls Tryz.prog 13 #[.pointer (some ⟨b, 0, none⟩)] wx fun e w' => e = .returned (.int .i64 (m : Int)) ∧ wx = w' := by
  obtain ⟨ps, h1, h2, h3, h4, h5, h6, h7, h8⟩ := h
  rw [← h4]
  exact txMark_at h1

theorem space_free {W0 wx : World} {b gp k m : Nat} (h : SpaceAt W0 b gp k m wx) :
    Calls Tryz.prog 16 #[.pointer (some ⟨b, 0, none⟩), .int .i64 7] wx fun e w' => e = .returned (.bool true) ∧ Keeps [] wx w' := by
  obtain ⟨ps, h1, h2, h3, h4, h5, h6, h7, h8⟩ := h
  have := free_at h1 7
  rwa [decide_eq_true (show ((0 ≤ (7 : Int) ∧ (7 : Int) < 32) ∧ FreeP (putAll (padW []) ps) 7) from ⟨⟨by omega, by omega⟩, h6⟩)] at this

end Go.Proofs.YtblnnedkfkiofaaGreatDoor

namespace Go.Proofs.YtblnnedkfkiofaaGreatDoor
open Go.RowKit

set_option maxRecDepth 100000 in
set_option maxHeartbeats 4000000 in
theorem sheet6_at (ws : List Nat) (w : World) : Calls Tryz.prog 11 #[.agg (w4 ws)] w (MadeSheet w (laidX ws 4 1080)) := by
  have hcell := fun k hk => w4_get ws k hk
  have HC := Lib.hid hcell
  clear hcell
  generalize w4 ws = Z at *
  obtain ⟨mc, hmk, hoz⟩ := make_zeroW (w.alloc (.cells Z 32))
  have hz : (w.alloc (.cells Z 32)).heap.size = w.heap.size + 1 := by simp
  rw [hz] at hmk hoz
  have HO := Lib.hid hoz
  have HB : Hid (Blk ((w.alloc (.cells Z 32)).alloc (.cells mc 31)) w.heap.size Z 32) := (Blk.new w Z _).alloc _
  have HK : Hid (Keeps [] w ((w.alloc (.cells Z 32)).alloc (.cells mc 31))) := ((Keeps.refl [] w).alloc _).alloc _
  clear hoz hz
  go_enter Tryz.func11, Tryz.ntmps11
  go_wp2_with fail
  clear hmk
  go_loopg [4] 4 (fun gh s4 wx => ∃ k : Nat, k + gh = 4 ∧ s4 = .int .i64 (k : Int) ∧ Hid (Owns wx (.slice (some ⟨w.heap.size + 1, 0, none⟩) 3128 3128) (w.heap.size + 1) 31 1 3128 (u64s (laidX ws k 1080)) ∧ Blk wx w.heap.size Z 32 ∧ Keeps [] w wx))
  case atStart => exact ⟨0, by omega, rfl, by rw [← laidX_zero]; exact HO.out, HB.out, HK.out⟩
  case round =>
    clear HO HB HK
    obtain ⟨k, hk, rfl, HR⟩ := hrel
    cases gk with
    | zero =>
      obtain rfl : k = 4 := by omega
      have HN := Lib.hid (txNew_at (HR.out.1.reads))
      have HKP := Lib.hid HR.out.2.2
      clear hk HR
      go_wp2_with fail
      refine HN.out.mono ?_; rintro e w1 ⟨b, rfl, h1, h2, h3⟩
      have HM : Hid (MadeSheet w (laidX ws 4 1080) (.returned (.pointer (some ⟨b, 0, none⟩))) w1) := by
        have h2' : ShAt w1 b b (padW (laidX ws 4 1080)) [] := h2
        have hp : padW (laidX ws 4 1080) = laidX ws 4 1080 := by
          unfold padW
          rw [laidX_len, List.take_of_length_le (by rw [laidX_len]; omega), Nat.sub_self, List.replicate_zero, List.append_nil]
        rw [hp] at h2'
        exact ⟨b, rfl, Nat.le_trans HKP.out.size h1, h2', HKP.out.trans h3 (by simp)⟩
      clear h1 h2 h3
      go_wp2_with fail
      go_ret
      exact HM.out
    | succ gg =>
      have hk4 : k < 4 := by omega
      have hlt : (k : Int) < 4 := by omega
      have hk0 : (0 : Int) ≤ (k : Int) := by omega
      obtain ⟨ho, hb, hkp⟩ := HR.out
      obtain ⟨-, hc, hf⟩ := u64s_getO ho (laidX_len _ _ _) (show 816 + k < 3128 by omega)
      have c0 : wr.cell? ⟨w.heap.size, k, none⟩ = some (.int .u64 ((ws.getD k 0 : Nat) : Int)) := by rw [hb.cell, HC.out k hk4]
      have HS : Hid (Owns (wr.setCell ⟨w.heap.size + 1, 816 + k, none⟩ (.int .u64 ((ws.getD k 0 : Nat) : Int))) (.slice (some ⟨w.heap.size + 1, 0, none⟩) 3128 3128) (w.heap.size + 1) 31 1 3128 (u64s (laidX ws (k + 1) 1080))) := by
        show Owns _ _ _ _ _ _ _
        rw [← laidX_word ws k hk4]
        exact ho.set64 _ _
      have HBN : Hid (Blk (wr.setCell ⟨w.heap.size + 1, 816 + k, none⟩ (.int .u64 ((ws.getD k 0 : Nat) : Int))) w.heap.size Z 32) := hb.other (by simp) _
      have HKP := Lib.hid hkp
      clear ho hb hkp HR
      generalize (laidX ws k 1080).getD (816 + k) 0 = old at *
      generalize ws.getD k 0 = x at *
      go_wp2_with fail
      go_roundg gg
      case measure => omega
      case rel => exact ⟨k + 1, by omega, by go_num, HS.out, HBN.out, HKP.out.setCell (by simp) _⟩

end Go.Proofs.YtblnnedkfkiofaaGreatDoor

namespace Go.Proofs.YtblnnedkfkiofaaGreatDoor
open Go.RowKit

theorem build_u4 (w : World) : (Instr.build 32 #[]).run Tryz.prog w = .ok (.agg (w4 [])) w := by kernel_rfl

set_option maxRecDepth 100000 in
set_option maxHeartbeats 8000000 in
theorem inoSpace_at (n : Ino) (v : Value) (g : Nat) (hB : n.B.length = 13) (i : Int) (hi : 0 ≤ i ∧ i < 256) (w : World) (hE : EReads w v g n.E) (hT : TabAt w) :
    Calls Tryz.prog 3 #[.agg (inoC n v), .int .u8 i] w fun e w' => e = .returned (.bool true) ∧ Keeps [] w w' := by
  obtain ⟨kn, hkn, hk1, hk2, hk3, hk4, hk5⟩ : ∃ kn : Nat, kn ≤ 13 ∧ i.tmod 14 = (kn : Int) ∧ IntKind.u8.wrap (kn : Int) = (kn : Int) ∧ IntKind.i64.wrap (kn : Int) = (kn : Int) ∧ wrap64 (kn : Int) = (kn : Int) ∧ (255 : Int) - (kn : Int) = ((255 - kn : Nat) : Int) := by
    have h1 : i.tmod 14 = i % 14 := Int.tmod_eq_emod_of_nonneg hi.1
    have h2 : ((i % 14).toNat : Int) = i % 14 := by omega
    exact ⟨(i % 14).toNat, by omega, by rw [h1, h2], by rw [IntKind.wrap_u8]; omega, IntWalk.i64_in _ (by omega), by unfold wrap64; omega, by omega⟩
  have hk6 : wrap64 ((255 - kn : Nat) : Int) = ((255 - kn : Nat) : Int) := by unfold wrap64; omega
  have hk7 : IntKind.i64.wrap ((255 - kn : Nat) : Int) = ((255 - kn : Nat) : Int) := IntWalk.i64_in _ (by omega)
  have hb2 := Blk.new w (inoC n v) 25
  have hk0 : Keeps [] w (w.alloc (.cells (inoC n v) 25)) := (Keeps.refl [] w).alloc _
  obtain ⟨W0, hW0⟩ : ∃ W0, w.alloc (.cells (inoC n v) 25) = W0 := ⟨_, rfl⟩
  rw [hW0] at hb2 hk0
  have hE0 : EReads W0 v g n.E := hE.keep hk0 (by simp)
  have hT0 : TabAt W0 := hT.keep hk0
  have HEM := Lib.hid (fun wx (hk : Keeps [] W0 wx) => empty_at n v g hB wx (hE0.keep hk (by simp)))
  obtain ⟨Z, hZ⟩ : ∃ Z, inoC n v = Z := ⟨_, rfl⟩
  have HV : Hid (VarAt [] W0 w.heap.size n v Z) := ⟨by rw [← hZ]; exact hb2, hZ.symm, hB, ⟨g, hE0, by simp⟩, by simp⟩
  have HAW : Hid (∀ wx, Keeps [] W0 wx → Calls Tryz.prog 7 #[] wx fun e w' => e = .returned (.bool true) ∧ Keeps [] wx w') := fun wx hk => awake8_at (hT0.keep hk)
  have HFEW : Hid (∀ wx, Keeps [] W0 wx → Calls Tryz.prog 8 #[.agg Z] wx (FewPost wx n)) := fun wx hk => by
    rw [← hZ]
    exact refFew_at n v g hB wx (hE0.keep hk (by simp))
  have HRI : Hid ((∀ k, k < n.E.length → (enm n.E k).size ≤ 9223372036854775807) → ∀ wx, Keeps [] W0 wx → Calls Tryz.prog 9 #[.agg Z] wx fun e w' => e = .returned (.bool (decide (RightP n))) ∧ Keeps [] wx w') := fun hN wx hk => by
    rw [← hZ]
    exact refRight_at n v g hB wx (hE0.keep hk (by simp)) hN
  have HSHEET : Hid (∀ wx, Calls Tryz.prog 11 #[.agg (w4 [])] wx (MadeSheet wx (padW []))) := fun wx => by
    have := sheet6_at [] wx
    rwa [laid_pad] at this
  have HST : Hid (∀ wx, Keeps [] W0 wx → ∃ w', (storeVar 25 ⟨w.heap.size, 0, none⟩ (.agg (inoC (emp n) v))).run Tryz.prog wx = .ok () w' ∧ VarAt [] w' w.heap.size (emp n) v (inoC (emp n) v) ∧ Keeps [w.heap.size] wx w' ∧ Keeps [] w w' ∧ EReads w' v g (emp n).E ∧ TabAt w') := fun wx hk => by
    obtain ⟨w', p1, p2, p3⟩ := store_ino (n := emp n) (v := v) (hb2.keep hk (by simp)) (by rw [inoC, List.size_toArray, inoL_len, hB]) (by simp [emp]) (reads_one hE0)
    have hk' : Keeps [] w w' := (hk0.trans' hk).trans p3 (by intro x hx; rw [List.mem_singleton] at hx; omega)
    have hE' : EReads w' v g (emp n).E := hE.keep hk' (by simp)
    exact ⟨w', p1, ⟨p2, rfl, by simp [emp], ⟨g, hE', by simp⟩, by simp⟩, p3, hk', hE', hT.keep hk'⟩
  have HK0 := Lib.hid hk0
  have HW0 := Lib.hid hW0
  have HBB := Lib.hid hB
  rw [hZ] at HW0 HEM ⊢
  have hzi := zero_ino
  have hb4 := build_u4
  clear hB hE hT hi hb2 hk0 hW0 hE0 hT0 hZ
  obtain ⟨ZE, hZE⟩ : ∃ ZE, inoC (emp n) v = ZE := ⟨_, rfl⟩
  rw [hZE] at HEM HST
  have HZE := Lib.hid hZE
  clear hZE
  go_enter Tryz.func3, Tryz.ntmps3
  go_wp2_with fail
  rw [HW0.out]
  refine (HAW.out W0 (Keeps.refl _ _)).mono ?_; rintro e w1 ⟨rfl, hk1'⟩
  have HK1 := Lib.hid hk1'
  have HL1 := Lib.hid (HV.out.keep hk1').load
  clear hk1'
  go_wp2_with ((with_reducible show wpList _ _ _ (⟨_, .load 25 (.tmp 2), _, _, _, _⟩ :: _) _ _); refine wpList_load_want (by first | rfl | simp [Region.wanted, yielded]) 25 (.tmp 2) rfl _ rfl _ HL1.out ?_)
  refine (HFEW.out w1 HK1.out).mono ?_; rintro e w2 ⟨⟨fb, rfl, hfb⟩, hk2'⟩
  have HK2 := Lib.hid (HK1.out.trans' hk2')
  have HFB := Lib.hid hfb
  clear hk2' hfb HK1 HL1 HFEW
  cases fb
  · have HAW2 := Lib.hid (HAW.out w2 HK2.out)
    clear HAW HRI HEM HSHEET HST
    go_wp2_with fail
    refine HAW2.out.mono ?_; rintro e w3 ⟨rfl, hk3'⟩
    have HK3 := Lib.hid (HK0.out.trans' (HK2.out.trans' hk3'))
    clear hk3'
    go_wp2_with fail
    go_ret
    exact ⟨rfl, HK3.out⟩
  · have HNS : Hid (∀ k, k < n.E.length → (enm n.E k).size ≤ 9223372036854775807) := fun k hk => by have := (HFB.out rfl).2 k hk; omega
    have HL2 := Lib.hid (HV.out.keep HK2.out).load
    clear HFB
    go_wp2_with ((with_reducible show wpList _ _ _ (⟨_, .load 25 (.tmp 2), _, _, _, _⟩ :: _) _ _); refine wpList_load_want (by first | rfl | simp [Region.wanted, yielded]) 25 (.tmp 2) rfl _ rfl _ HL2.out ?_)
    refine (HRI.out HNS.out w2 HK2.out).mono ?_; rintro e w3 ⟨rfl, hk3'⟩
    have HK3 := Lib.hid (HK2.out.trans' hk3')
    clear hk3' HK2 HL2 HRI
    by_cases hR : RightP n
    · rw [decide_eq_true hR]
      have HR := Lib.hid (right_emp hR)
      have HL3 := Lib.hid (HV.out.keep HK3.out).load
      clear hR HAW
      go_wp2_with ((with_reducible show wpList _ _ _ (⟨_, .load 25 (.tmp 2), _, _, _, _⟩ :: _) _ _); refine wpList_load_any rfl 25 (.tmp 2) rfl _ rfl _ HL3.out ?_)
      refine (HEM.out w3 HK3.out).mono ?_; rintro e w4 ⟨rfl, hk4'⟩
      obtain ⟨w5, p1, V5, -, hk5', hE5, hT5⟩ := HST.out w4 (HK3.out.trans' hk4')
      have HS5 := Lib.hid p1
      have HV5 := Lib.hid V5
      have HK5 := Lib.hid hk5'
      have HE5 := Lib.hid hE5
      have HT5 := Lib.hid hT5
      have HBE : Hid ((emp n).B.length = 13) := by show _ = _; simp [emp]
      clear hk4' p1 V5 hk5' hE5 hT5 HST HEM HL3 HK3 HV HBB HK0 HW0
      obtain ⟨n', hn'⟩ : ∃ n', emp n = n' := ⟨_, rfl⟩
      rw [hn'] at HR HV5 HE5 HBE HZE
      have HNS' := Lib.hid (right_small HR.out)
      clear HNS hn'
      go_wp2_with ((with_reducible show wpList _ _ _ (⟨_, .store 25 (.tmp 2) (.tmp 26), _, _, _, _⟩ :: _) _ _); refine wpList_store_any rfl 25 (.tmp 2) (.tmp 26) rfl _ rfl _ rfl _ HS5.out ?_)
      refine (HSHEET.out w5).mono ?_; rintro e w6 ⟨b, rfl, hb6, hs6, hk6⟩
      have HBW : Hid (w5.heap.size ≤ b) := hb6
      have HTK := Lib.hid (space_take (k := kn) HBW.out HT5.out hs6 hk6 hkn)
      clear hb6 hs6 hk6 HSHEET hb4
      go_wp2_with fail
      refine HTK.out.mono ?_; rintro e w7 ⟨vt, gp7, m, rfl, hm, hs7⟩
      have HS7 := Lib.hid hs7
      have HMK := Lib.hid (space_mark hs7)
      have HL7 := Lib.hid (HV5.out.keep hs7.keeps).load
      have HPUT := Lib.hid (space_put HBW.out HT5.out hs7 hm n' v g HR.out HBE.out HE5.out HNS'.out)
      rw [HZE.out] at HPUT
      clear hs7 hm HTK
      go_wp2_with fail
      refine HMK.out.mono ?_; rintro e w' ⟨rfl, rfl⟩
      go_wp2_with ((with_reducible show wpList _ _ _ (⟨_, .load 25 (.tmp 2), _, _, _, _⟩ :: _) _ _); refine wpList_load_any rfl 25 (.tmp 2) rfl _ rfl _ HL7.out ?_)
      refine HPUT.out.mono ?_; rintro e w8 (⟨hlt, rfl, gp8, hs8⟩ | ⟨hle, rfl, X0, gp8, hX0, hT8⟩)
      · have HS8 := Lib.hid hs8
        have HV8 := Lib.hid (HV5.out.keep hs8.keeps)
        have HL8 := Lib.hid HV8.out.load
        have HND := Lib.hid (need_var HV8.out HR.out)
        have HKE : Hid (∀ wx, Keeps [] w8 wx → Keeps [] w wx) := fun wx hk => (HK5.out.trans' hs8.keeps).trans' hk
        have hgt : (kn : Int) < ((needA n' : Nat) : Int) := by omega
        clear hs8 HPUT HMK HL7 HS7 hlt HV5 HV8
        generalize needA n' = na at *
        go_wp2_with ((with_reducible show wpList _ _ _ (⟨_, .load 25 (.tmp 2), _, _, _, _⟩ :: _) _ _); refine wpList_load_any rfl 25 (.tmp 2) rfl _ rfl _ HL8.out ?_)
        refine HND.out.mono ?_; rintro e w9 ⟨rfl, hk9⟩
        have HK9 := Lib.hid hk9
        have HMK9 := Lib.hid (space_mark (HS8.out.keep hk9))
        have HFR9 := Lib.hid (space_free (HS8.out.keep hk9))
        clear hk9 HND HL8 HS8
        go_wp2_with fail
        refine HMK9.out.mono ?_; rintro e w' ⟨rfl, rfl⟩
        go_wp2_with fail
        refine HFR9.out.mono ?_; rintro e w10 ⟨rfl, hk10⟩
        have HKF := Lib.hid (HKE.out w10 (HK9.out.trans' hk10))
        clear hk10 HKE
        go_wp2_with fail
        go_ret
        exact ⟨rfl, HKF.out⟩
      · have HT8 := Lib.hid hT8
        have HV8 := Lib.hid (HV5.out.keep hT8.keeps.1)
        have HL8 := Lib.hid HV8.out.load
        have HND := Lib.hid (need_var HV8.out HR.out)
        have HKE : Hid (∀ wx, Keeps [] w8 wx → Keeps [] w wx) := fun wx hk => (HK5.out.trans' hT8.keeps.1).trans' hk
        have hgt : ¬ (kn : Int) < ((needA n' : Nat) : Int) := by omega
        have HX0 := Lib.hid hX0
        have HLE := Lib.hid hle
        clear hT8 HPUT HMK HL7 HS7 hle HV5 hX0
        obtain ⟨na, hna⟩ : ∃ na, needA n' = na := ⟨_, rfl⟩
        rw [hna] at hgt HND HLE
        go_wp2_with ((with_reducible show wpList _ _ _ (⟨_, .load 25 (.tmp 2), _, _, _, _⟩ :: _) _ _); refine wpList_load_any rfl 25 (.tmp 2) rfl _ rfl _ HL8.out ?_)
        refine HND.out.mono ?_; rintro e w9 ⟨rfl, hk9⟩
        have HK9 := Lib.hid hk9
        have HT9 := Lib.hid (HT8.out.keep hk9)
        clear hk9 HND HL8 HT8
        go_wp2_with fail
        refine (turn_get HT9.out).mono ?_; rintro e w10 ⟨vm, gm, om, vo, go, rfl, hEm, hgm, -, -, hk10⟩
        obtain ⟨w11, q1, V11, hk11⟩ := got_var (n := n') (l := []) HBE.out hEm (by simp) (by simp)
        have HT11 := Lib.hid ((HT9.out.keep hk10).keep hk11)
        have HK11 : Hid (Keeps [] w8 w11) := HK9.out.trans' (hk10.trans' hk11)
        have HS11 := Lib.hid q1
        have HVM := Lib.hid V11
        have HVN := Lib.hid (HV8.out.keep HK11.out)
        clear hEm hgm hk10 q1 V11 hk11 HT9 HK9 HV8
        obtain ⟨ZM, hZM⟩ : ∃ ZM, inoC n' vm = ZM := ⟨_, rfl⟩
        rw [hZM] at HS11 HVM ⊢
        clear hZM
        generalize inoC inoZ (.slice none 0 0) = ZZ at *
        have HSM : Hid (∀ wx, Keeps [] w11 wx → Calls Tryz.prog 18 #[.agg ZM, .agg ZE] wx fun e w' => e = .returned (.bool true) ∧ Keeps [] wx w') := fun wx hk => same_vars (HVM.out.keep hk) (HVN.out.keep hk)
        have HND : Hid (∀ wx, Keeps [] w11 wx → Calls Tryz.prog 15 #[.agg ZE] wx fun e w' => e = .returned (.int .i64 ((na : Nat) : Int)) ∧ Keeps [] wx w') := fun wx hk => by
          have := need_var (HVN.out.keep hk) HR.out
          rwa [hna] at this
        have HFE : Hid (∀ wx, Keeps [] w11 wx → Calls Tryz.prog 19 #[.pointer (some ⟨b, 0, none⟩)] wx fun e w' => e = .returned (.int .i64 ((kn - na : Nat) : Int)) ∧ wx = w') := fun wx hk => by
          have := turn_free (HT11.out.keep hk)
          rwa [hna, HX0.out] at this
        have HLM : Hid (∀ wx, Keeps [] w11 wx → (loadVar 25 ⟨w10.heap.size, 0, none⟩).run Tryz.prog wx = .ok (.agg ZM) wx) := fun wx hk => (HVM.out.keep hk).load
        have HLN : Hid (∀ wx, Keeps [] w11 wx → (loadVar 25 ⟨w.heap.size, 0, none⟩).run Tryz.prog wx = .ok (.agg ZE) wx) := fun wx hk => (HVN.out.keep hk).load
        have HSUB : Hid ((kn : Int) - (na : Int) = ((kn - na : Nat) : Int) ∧ wrap64 ((kn - na : Nat) : Int) = ((kn - na : Nat) : Int) ∧ IntKind.i64.wrap ((kn - na : Nat) : Int) = ((kn - na : Nat) : Int)) := ⟨by have := HLE.out; omega, by unfold wrap64; omega, IntWalk.i64_in _ (by omega)⟩
        clear HVM HVN HT11 HR HX0 hna HZE HBE HE5 HT5 HNS' HBW hk1 hk2 hk3 hk4 hk5 hk6 hk7 HK5 HLE
        go_wp2_with ((with_reducible show wpList _ _ _ (⟨_, .store 25 (.tmp 9) (.tmp 60), _, _, _, _⟩ :: _) _ _); refine wpList_store_any rfl 25 (.tmp 9) (.tmp 60) rfl _ rfl _ rfl _ HS11.out ?_)
        refine wp_region_each (S := fun wx => Keeps [] w11 wx) (by kernel_rfl) (by kernel_rfl) (fun d _ _ _ _ h => by cases d <;> exact h) ((Keeps.refl _ _).drew) (by kernel_rfl) ?_
        repeat (first
          | ((with_reducible show EachList _ _ _ _ (⟨some 70, _, _, _, _, _⟩ :: _) _); refine EachList.cons (.agg ZM) (EachIf.load rfl 25 (.tmp 9) rfl _ rfl fun wx hx => HLM.out wx hx) ?_; simp only [Act.put, List.setIfInBounds_toArray, List.set_cons_zero, List.set_cons_succ])
          | ((with_reducible show EachList _ _ _ _ (⟨some 71, _, _, _, _, _⟩ :: _) _); refine EachList.cons (.agg ZE) (EachIf.load rfl 25 (.tmp 2) rfl _ rfl fun wx hx => HLN.out wx hx) ?_; simp only [Act.put, List.setIfInBounds_toArray, List.set_cons_zero, List.set_cons_succ])
          | ((with_reducible show EachList _ _ _ _ (⟨some 78, _, _, _, _, _⟩ :: _) _); refine EachList.cons (.agg ZE) (EachIf.load rfl 25 (.tmp 2) rfl _ rfl fun wx hx => HLN.out wx hx) ?_; simp only [Act.put, List.setIfInBounds_toArray, List.set_cons_zero, List.set_cons_succ])
          | ((with_reducible show EachList _ _ _ _ (⟨some 72, _, _, _, _, _⟩ :: _) _); refine EachList.cons (.bool true) (EachIf.call rfl 18 #[.agg ZM, .agg ZE] ?he ?h) ?_; (case he => (intro wz; go_simp)); (case h => exact fun wx hx => (HSM.out wx hx).mono fun e w' he => ⟨he.1, hx.trans' he.2⟩); simp only [Act.put, List.setIfInBounds_toArray, List.set_cons_zero, List.set_cons_succ])
          | ((with_reducible show EachList _ _ _ _ (⟨some 76, _, _, _, _, _⟩ :: _) _); refine EachList.cons (.int .i64 ((kn - na : Nat) : Int)) (EachIf.call rfl 19 #[.pointer (some ⟨b, 0, none⟩)] ?he ?h) ?_; (case he => (intro wz; go_simp)); (case h => exact fun wx hx => (HFE.out wx hx).mono fun e w' he => ⟨he.1, he.2 ▸ hx⟩); simp only [Act.put, List.setIfInBounds_toArray, List.set_cons_zero, List.set_cons_succ])
          | ((with_reducible show EachList _ _ _ _ (⟨some 79, _, _, _, _, _⟩ :: _) _); refine EachList.cons (.int .i64 ((na : Nat) : Int)) (EachIf.call rfl 15 #[.agg ZE] ?he ?h) ?_; (case he => (intro wz; go_simp)); (case h => exact fun wx hx => (HND.out wx hx).mono fun e w' he => ⟨he.1, hx.trans' he.2⟩); simp only [Act.put, List.setIfInBounds_toArray, List.set_cons_zero, List.set_cons_succ])
          | ((with_reducible show EachList _ _ _ _ (⟨some 80, _, _, _, _, _⟩ :: _) _); refine EachList.cons (.int .i64 ((kn - na : Nat) : Int)) (EachIf.val rfl ?h) ?_; (case h => (intro wx hx; clear hx; go_simp; simp [HSUB.out.1, HSUB.out.2.2]; done)); simp only [Act.put, List.setIfInBounds_toArray, List.set_cons_zero, List.set_cons_succ])
          | (refine EachList.cons ?_ (EachIf.val rfl ?h) ?_; (case h => (intro wx hx; clear hx; go_simp; rfl)); simp only [Act.put, List.setIfInBounds_toArray, List.set_cons_zero, List.set_cons_succ]))
        refine EachList.done fun w12 hx => ?_
        have HKF := Lib.hid (HKE.out w12 (HK11.out.trans' hx))
        clear hx HSM HND HFE HLM HLN HKE
        go_wp2_with fail
        go_ret
        exact ⟨rfl, HKF.out⟩
    · rw [decide_eq_false hR]
      have HAW3 := Lib.hid (HAW.out w3 HK3.out)
      clear hR HAW HEM HSHEET HST
      go_wp2_with fail
      refine HAW3.out.mono ?_; rintro e w4 ⟨rfl, hk4'⟩
      have HK4 := Lib.hid (HK0.out.trans' (HK3.out.trans' hk4'))
      clear hk4'
      go_wp2_with fail
      go_ret
      exact ⟨rfl, HK4.out⟩

end Go.Proofs.YtblnnedkfkiofaaGreatDoor

namespace Go.Proofs.YtblnnedkfkiofaaGreatDoor
open Go.RowKit

/-- A file's blocks, of the first k places. -/
def filesTo (B : List Int) (k : Nat) : List Nat := ((B.take k).filter fun x => x != 0).map Int.toNat

/-- A file's blocks. -/
def filesL (n : Ino) : List Nat := filesTo n.B 13

theorem filesTo_succ (B : List Int) (k : Nat) (hk : k < B.length) : filesTo B (k + 1) = filesTo B k ++ (if B.getD k 0 = 0 then [] else [(B.getD k 0).toNat]) := by
  unfold filesTo
  rw [List.take_succ_eq_append_getElem hk, List.filter_append, List.map_append]
  congr 1
  have : B.getD k 0 = B[k] := by simp [List.getD_eq_getElem?_getD, hk]
  rw [this]
  by_cases h : B[k] = 0
  · simp [h]
  · simp [h]

theorem filesTo_le (B : List Int) (k : Nat) : (filesTo B k).length ≤ k := by
  unfold filesTo
  rw [List.length_map]
  exact Nat.le_trans (List.length_filter_le _ _) (by rw [List.length_take]; omega)

set_option maxRecDepth 100000 in
set_option maxHeartbeats 4000000 in
theorem with_at {ws w : World} (hk : Keeps [] ws w) {va : Value} {own : List Nat} (hO : w.ownsRow ws.heap.size 3 1 va own.length (i64s own)) (n : Ino) (v : Value) (hB : n.B.length = 13) (h0 : ∀ k, 0 ≤ n.B.getD k 0) (hl : own.length ≤ 1000) :
    Calls Tryz.prog 43 #[va, .agg (inoC n v)] w fun e w' => ∃ u, e = .returned u ∧ w'.ownsRow ws.heap.size 3 1 u (own ++ filesL n).length (i64s (own ++ filesL n)) ∧ Keeps [] ws w' := by
  obtain ⟨i0, hi, hz0, hz1, hz2⟩ := info_parts Tryz.info_int
  have hws := hk.size
  have hb3 := Blk.new w (inoC n v) 25
  have HLB : Hid ((loadVar 22 ⟨w.heap.size, 4, none⟩).run Tryz.prog (w.alloc (.cells (inoC n v) 25)) = .ok (.agg (zs n.B).toArray) (w.alloc (.cells (inoC n v) 25))) := load_n13 hb3 hB (inoAt v hB).f4
  have HZ : Hid (∀ k, k < 13 → (zs n.B).toArray[k]? = some (.int .i64 (n.B.getD k 0))) := fun k hk => by rw [List.getElem?_toArray, zs_get (by omega)]
  have HST : Hid ((w.alloc (.cells (inoC n v) 25)).ownsRow ws.heap.size 3 1 va (own ++ filesTo n.B 0).length (i64s (own ++ filesTo n.B 0)) ∧ Keeps [] ws (w.alloc (.cells (inoC n v) 25))) := by
    have : own ++ filesTo n.B 0 = own := by simp [filesTo]
    rw [this]
    exact ⟨hO.alloc _, hk.alloc _⟩
  have HB := Lib.hid hB
  have H0 := Lib.hid h0
  have HFL : Hid (filesTo n.B 13 = filesL n) := rfl
  clear hO hb3 hk hB h0
  generalize inoC n v = Z at *
  generalize (zs n.B).toArray = ZB at *
  go_enter Tryz.func43, Tryz.ntmps43
  go_wp2_with ((with_reducible show wpList _ _ _ (⟨_, .load 22 (.tmp 7), _, _, _, _⟩ :: _) _ _); refine wpList_load_any rfl 22 (.tmp 7) rfl _ rfl _ HLB.out ?_)
  go_loopg [0, 9] 13 (fun gh s0 s9 wx => ∃ k : Nat, k + gh = 13 ∧ s9 = .int .i64 (k : Int) ∧ Hid (wx.ownsRow ws.heap.size 3 1 s0 (own ++ filesTo n.B k).length (i64s (own ++ filesTo n.B k)) ∧ Keeps [] ws wx))
  case atStart => exact ⟨0, by omega, rfl, HST.out⟩
  case round =>
    clear HST HLB
    obtain ⟨k, hk, rfl, HP⟩ := hrel
    cases gk with
    | zero =>
      obtain rfl : k = 13 := by omega
      have HE := Lib.hid HP.out
      rw [HFL.out] at HE
      clear hk HP
      go_wp2_with fail
      go_ret
      exact ⟨_, rfl, HE.out⟩
    | succ gg =>
      have hk13 : k < 13 := by omega
      have hlt : (k : Int) < 13 := by omega
      have hk0 : (0 : Int) ≤ (k : Int) := by omega
      have hix := index_n13 hk13 (HZ.out k hk13)
      have hx0 := H0.out k
      have HS := Lib.hid (filesTo_succ n.B k (by rw [HB.out]; exact hk13))
      have hfl := filesTo_le n.B k
      generalize n.B.getD k 0 = x at *
      by_cases hx : x = 0
      · have e0 : (x != 0) = false := by rw [hx]; rfl
        have HN : Hid (wr.ownsRow ws.heap.size 3 1 u0 (own ++ filesTo n.B (k + 1)).length (i64s (own ++ filesTo n.B (k + 1))) ∧ Keeps [] ws wr) := by
          show _ ∧ _
          rw [HS.out, if_pos hx, List.append_nil]
          exact HP.out
        clear HP HS hx
        go_wp2_with fail
        go_roundg gg
        case measure => omega
        case rel => exact ⟨k + 1, by omega, by go_num, HN.out⟩
      · have e0 : (x != 0) = true := bne_iff_ne.2 hx
        have HOWN := Lib.hid HP.out.1
        have HKP := Lib.hid HP.out.2
        have hwr := HP.out.2.size
        have hql : (own ++ filesTo n.B k).length ≤ 2000 := by rw [List.length_append]; omega
        have HNX : Hid (own ++ filesTo n.B (k + 1) = (own ++ filesTo n.B k) ++ [x.toNat]) := by
          show _ = _
          rw [HS.out, if_neg hx, List.append_assoc]
        have HI : Hid (i64s ((own ++ filesTo n.B k) ++ [x.toNat]) = i64s (own ++ filesTo n.B k) ++ [.int .i64 x]) := by
          show _ = _
          have hxx : ((x.toNat : Nat) : Int) = x := by omega
          rw [i64s_append]
          show _ ++ [Value.int .i64 ((x.toNat : Nat) : Int)] = _
          rw [hxx]
        have HLL : Hid (((own ++ filesTo n.B k) ++ [x.toNat]).length = (own ++ filesTo n.B k).length + 1) := List.length_append
        clear HP HS hfl
        generalize own ++ filesTo n.B k = L at *
        generalize hq : L.length = q at *
        go_wp2_with (at_builtin; refine wpList_append_own _ rfl _ _ 33 rfl ws.heap.size 3 i0 (.int .i64 0) 1 8 Tryz.underlying33 hi hz0 hz1 hz2 rfl (by decide) u0 q _ rfl (HOWN.out.alloc _) ⟨wr.heap.size, 0, none⟩ 1 1 [.int .i64 x] rfl rfl ?c1 ?c2 (by unfold maxLen; omega) (by omega) (by simp; omega) ?_)
        case c1 => exact new_cells _ [_] _ _ rfl
        case c2 => simp [Value.oneCell']
        intro v' w1 hown1 hgrow hnil
        have HN : Hid (w1.ownsRow ws.heap.size 3 1 v' (own ++ filesTo n.B (k + 1)).length (i64s (own ++ filesTo n.B (k + 1))) ∧ Keeps [] ws w1) := by
          show _ ∧ _
          rw [HNX.out, HLL.out, HI.out]
          exact ⟨hown1, (HKP.out.alloc _).grown hgrow (ownsRow_block HOWN.out)⟩
        clear hown1 hgrow hnil HOWN HKP HNX HI HLL hx hq
        go_wp2_with fail
        go_roundg gg
        case measure => omega
        case rel => exact ⟨k + 1, by omega, by go_num, HN.out⟩


/-- The puts of Drop. -/
def dropPs (X : List Int) (i : Nat) (n : Ino) (own : List Nat) : List (Int × Int) := givePs X (own ++ filesL n) ++ rowPs (824 + 8 * i) (List.replicate 8 0) 8

/-- What Drop does. -/
def DropR (X : List Int) (i r : Int) (qs : List (Int × Int)) : Prop :=
  (r = 1 ∧ ¬ (0 ≤ i ∧ i < 32) ∧ qs = []) ∨ (r = 2 ∧ (0 ≤ i ∧ i < 32) ∧ FreeP X i ∧ qs = []) ∨ (r = 10 ∧ (0 ≤ i ∧ i < 32) ∧ ¬ FreeP X i ∧ (∀ n' own', ¬ StoreP X i n' own') ∧ qs = []) ∨
    (r = 0 ∧ ∃ n own, StoreP X i n own ∧ qs = dropPs X i.toNat n own)

/-- What Drop leaves. -/
def DropPost (w : World) (b gp : Nat) (B : List Int) (ps : List (Int × Int)) (i : Int) (e : Ending) (w' : World) : Prop :=
  ∃ r qs gp', e = .returned (.int .i64 r) ∧ (gp' = gp ∨ (w.heap.size ≤ gp' ∧ gp' < w'.heap.size)) ∧ ShAt w' b gp' B (ps ++ qs) ∧ Keeps [b, gp] w w' ∧ qs.length ≤ 700 ∧ DropR (putAll B ps) i r qs

/-- What All leaves. -/
def AllPost (w : World) (X : List Int) (i : Int) (e : Ending) (w' : World) : Prop :=
  ∃ v g l, e = .returned v ∧ Reads w' v g (i64s l) ∧ Keeps [] w w' ∧ ((∃ n own, StoreP X i n own ∧ l = own ++ filesL n) ∨ ((∀ n own, ¬ StoreP X i n own) ∧ l = []))

theorem row_lit : (u64s (List.replicate 8 0)).toArray = #[.int .u64 0, .int .u64 0, .int .u64 0, .int .u64 0, .int .u64 0, .int .u64 0, .int .u64 0, .int .u64 0] := rfl

set_option maxRecDepth 100000 in
set_option maxHeartbeats 4000000 in
theorem drop_at {w : World} {b gp : Nat} {B : List Int} {ps : List (Int × Int)} (h : ShAt w b gp B ps) (h64 : In64 (putAll B ps)) (hgp : gp < w.heap.size) (hps : ps.length ≤ 700000) (i : Int) :
    Calls Tryz.prog 21 #[.pointer (some ⟨b, 0, none⟩), .int .i64 i] w (DropPost w b gp B ps i) := by
  have HX : Hid ((putAll B ps).length = 3128) := h.raw.lx
  have hb := h.raw.lt
  have HSH := Lib.hid h
  have H64 := Lib.hid h64
  have HGET := Lib.hid (get_at h h64 i)
  have HPS := Lib.hid hps
  have HTI := Lib.hid (txInode_at i)
  have hzi := zero_ino
  clear h h64 hps
  go_enter Tryz.func21, Tryz.ntmps21
  go_wp2_with fail
  refine HGET.out.mono ?_; rintro e w1 ⟨n, v, g, own, va, ga, r, rfl, hB, hE, hg, hO, hga, hk1, hr⟩
  obtain ⟨w2, q1, q2, hE2, ⟨ga2, hO2, hga2⟩, hk2, hb2⟩ := store_own hk1 hB hE hO hga
  have HS2 := Lib.hid q1
  have HL2 := Lib.hid q2
  have HO2 := Lib.hid hO2
  have HGA := Lib.hid hga2
  have HK2 := Lib.hid hk2
  have HR := Lib.hid hr
  have HB := Lib.hid hB
  clear hB hE hg hO hga hk1 hr q1 q2 hE2 hO2 hga2 hk2 hb2 HGET
  have HNO : Hid (DropR (putAll B ps) i r [] → DropPost w b gp B ps i (.returned (.int .i64 r)) w2) := fun h =>
    ⟨r, [], gp, rfl, .inl rfl, by rw [List.append_nil]; exact HSH.out.keep HK2.out (by simp) (by simp), HK2.out.mono (by simp), by simp, h⟩
  by_cases hr0 : r = 0
  · subst hr0
    have hst : StoreP (putAll B ps) i n own := by
      rcases HR.out with ⟨h, -⟩ | ⟨h, -⟩ | ⟨h, -⟩ | ⟨-, h⟩
      · omega
      · omega
      · omega
      · exact h
    have hol : own.length ≤ 32 := by have h1 := hst.ownLen; have h2 := needA_le hst.right; omega
    have hfl : (filesL n).length ≤ 13 := filesTo_le _ _
    have hi := hst.rng
    have hin : inodeN i = ((824 + 8 * i.toNat : Nat) : Int) := by rw [inodeN, if_neg (by omega)]; omega
    rw [hin] at HTI
    have hnn : ∀ k, 0 ≤ n.B.getD k 0 := fun k => (right_len hst.right HB.out k).1
    have hrow : w2.ownsRow w.heap.size 3 1 va own.length (i64s own) := by
      obtain ⟨⟨h0, h5⟩, h2⟩ := HO2.out
      rcases h5 with h5 | ⟨g', cap, cur, e1, e2, e3⟩
      · exact ⟨h0, .inl h5⟩
      · exact ⟨h0, .inr ⟨g', cap, cur, e1, by have := HGA.out; omega, e3⟩⟩
    have HW := Lib.hid (with_at HK2.out hrow n v HB.out hnn (by omega))
    have HST := Lib.hid hst
    have HI := Lib.hid hi
    have HLEN : Hid ((own ++ filesL n).length ≤ 45) := by show _ ≤ _; rw [List.length_append]; omega
    clear HR HNO hst hol hfl hin hnn hrow hi
    generalize hzn : inoC n v = ZN at *
    clear hzn
    generalize inoC inoZ (.slice none 0 0) = ZZ at *
    go_wp2_with (first | ((with_reducible show wpList _ _ _ (⟨_, .store 25 (.tmp 5) (.tmp 12), _, _, _, _⟩ :: _) _ _); refine wpList_store_any rfl 25 (.tmp 5) (.tmp 12) rfl _ rfl _ rfl _ HS2.out ?_) | ((with_reducible show wpList _ _ _ (⟨_, .load 25 (.tmp 5), _, _, _, _⟩ :: _) _ _); refine wpList_load_any rfl 25 (.tmp 5) rfl _ rfl _ HL2.out ?_))
    refine HW.out.mono ?_; rintro e w3 ⟨u, rfl, hu, hk3⟩
    obtain ⟨gu, hru, hgu⟩ := RowI.of_row hu
    have HK3 := Lib.hid hk3
    have HGV := Lib.hid (give_at (HSH.out.keep hk3 (by simp) (by simp)) H64.out (by have := hk3.size; omega) (by have := HPS.out; omega) hru.reads (by have := HLEN.out; omega) (fun _ => by omega))
    clear hu hk3 hru hgu HW
    go_wp2_with fail
    refine HGV.out.mono ?_; rintro e w4 ⟨rfl, gp4, hg4, hs4, hk4⟩
    have hpl := givePs_len (own ++ filesL n) (putAll B ps)
    have HPR := Lib.hid (putRow_at hs4 (by have := HPS.out; have := HLEN.out; rw [List.length_append]; omega) (824 + 8 * i.toNat) (by have := HI.out; omega) (List.replicate 8 0) (by simp))
    rw [row_lit] at HPR
    have HK4 : Hid (Keeps [b, gp] w w4) := (HK3.out.mono (by simp)).trans' hk4
    have HG4 : Hid (gp4 = gp ∨ (w.heap.size ≤ gp4 ∧ gp4 < w4.heap.size)) := by
      have := HK3.out.size
      show _ ∨ _
      omega
    have HPL := Lib.hid hpl
    clear hg4 hs4 hk4 hpl HGV
    generalize ((824 + 8 * i.toNat : Nat) : Int) = pi at *
    go_wp2_with fail
    refine (HTI.out _).mono ?_; rintro e w' ⟨rfl, rfl⟩
    go_wp2_with fail
    refine HPR.out.mono ?_; rintro e w5 ⟨rfl, gp5, hg5, hs5, hk5⟩
    have HP : Hid (DropPost w b gp B ps i (.returned (.int .i64 0)) w5) := by
      have h1 := HG4.out
      have h2 := HK4.out.size
      have h3 := hk5.size
      refine ⟨0, dropPs (putAll B ps) i.toNat n own, gp5, rfl, by omega, by unfold dropPs; rw [← List.append_assoc]; exact hs5, HK4.out.trans hk5 (by intro x hx; simp only [List.mem_cons, List.not_mem_nil, or_false] at hx ⊢; omega), ?_, .inr (.inr (.inr ⟨rfl, n, own, HST.out, rfl⟩))⟩
      have h4 := HPL.out
      have h5 := HLEN.out
      unfold dropPs
      rw [List.length_append, rowPs_len]
      omega
    clear hg5 hs5 hk5 HPR
    go_wp2_with fail
    go_ret
    exact HP.out
  · have hd : DropR (putAll B ps) i r [] := by
      rcases HR.out with ⟨h1, h2, -⟩ | ⟨h1, h2, h3, -⟩ | ⟨h1, h2, h3, h4, -⟩ | ⟨h, -⟩
      · exact .inl ⟨h1, h2, rfl⟩
      · exact .inr (.inl ⟨h1, h2, h3, rfl⟩)
      · exact .inr (.inr (.inl ⟨h1, h2, h3, h4, rfl⟩))
      · exact absurd h hr0
    have HP := Lib.hid (HNO.out hd)
    have e0 : (r != 0) = true := bne_iff_ne.2 hr0
    clear hd HNO HR HTI hr0
    generalize inoC n v = ZN at *
    generalize inoC inoZ (.slice none 0 0) = ZZ at *
    go_wp2_with ((with_reducible show wpList _ _ _ (⟨_, .store 25 (.tmp 5) (.tmp 12), _, _, _, _⟩ :: _) _ _); refine wpList_store_any rfl 25 (.tmp 5) (.tmp 12) rfl _ rfl _ rfl _ HS2.out ?_)
    go_ret
    exact HP.out

set_option maxRecDepth 100000 in
set_option maxHeartbeats 4000000 in
theorem all_at {w : World} {b gp : Nat} {B : List Int} {ps : List (Int × Int)} (h : ShAt w b gp B ps) (h64 : In64 (putAll B ps)) (i : Int) :
    Calls Tryz.prog 24 #[.pointer (some ⟨b, 0, none⟩), .int .i64 i] w (AllPost w (putAll B ps) i) := by
  have HGET := Lib.hid (get_at h h64 i)
  have hzi := zero_ino
  clear h h64
  go_enter Tryz.func24, Tryz.ntmps24
  go_wp2_with fail
  refine HGET.out.mono ?_; rintro e w1 ⟨n, v, g, own, va, ga, r, rfl, hB, hE, hg, hO, hga, hk1, hr⟩
  obtain ⟨w2, q1, q2, hE2, ⟨ga2, hO2, hga2⟩, hk2, hb2⟩ := store_own hk1 hB hE hO hga
  have HS2 := Lib.hid q1
  have HL2 := Lib.hid q2
  have HO2 := Lib.hid hO2
  have HGA := Lib.hid hga2
  have HK2 := Lib.hid hk2
  have HR := Lib.hid hr
  have HB := Lib.hid hB
  clear hB hE hg hO hga hk1 hr q1 q2 hE2 hO2 hga2 hk2 hb2 HGET
  by_cases hr0 : r = 0
  · subst hr0
    have hst : StoreP (putAll B ps) i n own := by
      rcases HR.out with ⟨h, -⟩ | ⟨h, -⟩ | ⟨h, -⟩ | ⟨-, h⟩
      · omega
      · omega
      · omega
      · exact h
    have hol : own.length ≤ 32 := by have h1 := hst.ownLen; have h2 := needA_le hst.right; omega
    have hnn : ∀ k, 0 ≤ n.B.getD k 0 := fun k => (right_len hst.right HB.out k).1
    have hrow : w2.ownsRow w.heap.size 3 1 va own.length (i64s own) := by
      obtain ⟨⟨h0, h5⟩, h2⟩ := HO2.out
      rcases h5 with h5 | ⟨g', cap, cur, e1, e2, e3⟩
      · exact ⟨h0, .inl h5⟩
      · exact ⟨h0, .inr ⟨g', cap, cur, e1, by have := HGA.out; omega, e3⟩⟩
    have HW := Lib.hid (with_at HK2.out hrow n v HB.out hnn (by omega))
    have HST := Lib.hid hst
    clear HR hst hol hnn hrow
    generalize hzn : inoC n v = ZN at *
    clear hzn
    generalize inoC inoZ (.slice none 0 0) = ZZ at *
    go_wp2_with (first | ((with_reducible show wpList _ _ _ (⟨_, .store 25 (.tmp 5) (.tmp 12), _, _, _, _⟩ :: _) _ _); refine wpList_store_any rfl 25 (.tmp 5) (.tmp 12) rfl _ rfl _ rfl _ HS2.out ?_) | ((with_reducible show wpList _ _ _ (⟨_, .load 25 (.tmp 5), _, _, _, _⟩ :: _) _ _); refine wpList_load_any rfl 25 (.tmp 5) rfl _ rfl _ HL2.out ?_))
    refine HW.out.mono ?_; rintro e w3 ⟨u, rfl, hu, hk3⟩
    obtain ⟨gu, hru, hgu⟩ := RowI.of_row hu
    have HP : Hid (AllPost w (putAll B ps) i (.returned u) w3) := ⟨u, gu, _, rfl, hru.reads, hk3, .inl ⟨n, own, HST.out, rfl⟩⟩
    clear hu hk3 hru hgu HW
    go_wp2_with fail
    go_ret
    exact HP.out
  · have HP : Hid (AllPost w (putAll B ps) i (.returned (.slice none 0 0)) w2) := by
      refine ⟨_, 0, [], rfl, i64s_nil_reads _ _, HK2.out, .inr ⟨fun n' own' hs => ?_, rfl⟩⟩
      rcases HR.out with ⟨h1, h2, -⟩ | ⟨h1, h2, h3, -⟩ | ⟨h1, h2, h3, h4, -⟩ | ⟨h, -⟩
      · exact h2 hs.rng
      · exact hs.notFree h3
      · exact h4 _ _ hs
      · exact hr0 h
    have e0 : (r != 0) = true := bne_iff_ne.2 hr0
    clear HR hr0
    generalize inoC n v = ZN at *
    generalize inoC inoZ (.slice none 0 0) = ZZ at *
    go_wp2_with ((with_reducible show wpList _ _ _ (⟨_, .store 25 (.tmp 5) (.tmp 12), _, _, _, _⟩ :: _) _ _); refine wpList_store_any rfl 25 (.tmp 5) (.tmp 12) rfl _ rfl _ rfl _ HS2.out ?_)
    go_ret
    exact HP.out

end Go.Proofs.YtblnnedkfkiofaaGreatDoor
