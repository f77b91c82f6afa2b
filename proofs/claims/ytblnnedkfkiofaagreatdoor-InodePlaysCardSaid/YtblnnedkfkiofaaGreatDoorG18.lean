/-
  Layer 8: the law InodePlays. math/bits' table, out of the row's condition; an array of four words, as an argument.
-/
import Derived.Test.YtblnnedkfkiofaaGreatDoorG17
import Derived.Test.YtblnnedkfkiofaaGreatDoorG15
import Derived.Test.YtblnnedkfkiofaaGreatDoorG03
import Derived.Test.YtblnnedkfkiofaaGreatDoorG08
import Derived.Test.YtblnnedkfkiofaaGreatDoorG01
import Derived.Test.YtblnnedkfkiofaaGreatDoorRows
import Derived.ProofKit
import Derived.LaidMore
import Derived.OpenShut
import Derived.Stop.Joined
import Derived.Laws.IdiomArrays
namespace Go.Proofs.YtblnnedkfkiofaaGreatDoor
open Go.RowKit

theorem TabE.set {W : World} {T : List (Ino × Value)} (h : TabE W T) {j : Nat} (hj : j < T.length) {n : Ino} {v : Value} (he : ∃ g, EReads W v g n.E) : TabE W (T.set j (n, v)) := fun i hi => by
  rw [nT_set hj, vT_set hj]
  by_cases hij : j = i
  · rw [if_pos hij, if_pos hij]; exact he
  · rw [if_neg hij, if_neg hij]; exact h i hi

theorem PutTR.tabE {W : World} {T T' : List (Ino × Value)} {room : Nat} {i m f : Int} {n : Ino} {v : Value} (h : PutTR T room i n v T' m f) (hT : T.length = 32) {g : Nat} (hE : EReads W v g n.E) (ht : TabE W T) : TabE W T' := by
  rcases h with ⟨-, rfl, -⟩ | ⟨-, -, rfl, -⟩ | ⟨h1, -, rfl, -⟩
  · exact ht
  · exact ht
  · exact ht.set (by omega) ⟨g, hE⟩

theorem DoR.tabE {W : World} {T T' : List (Ino × Value)} {room : Nat} {k i m f : Int} {n : Ino} {v : Value} (h : DoR T room k i n v T' m f) (hT : T.length = 32) {g : Nat} (hE : EReads W v g n.E) (ht : TabE W T) : TabE W T' := by
  rcases h with ⟨-, h⟩ | ⟨-, r, -, ⟨-, rfl, -⟩ | ⟨-, h⟩⟩ | ⟨-, ⟨-, rfl, -⟩ | ⟨-, -, rfl, -⟩ | ⟨h1, -, rfl, -⟩⟩
  · exact h.tabE hT hE ht
  · exact ht
  · exact h.tabE hT hE ht
  · exact ht
  · exact ht
  · exact ht.set (by omega) ⟨0, EReads.nil _ _⟩

theorem nT_tab0 (i : Nat) : nT tab0 i = inoZ ∧ vT tab0 i = .slice none 0 0 := by
  unfold nT vT tab0
  rw [List.getD_eq_getElem?_getD, List.getElem?_replicate]
  split <;> exact ⟨rfl, rfl⟩

theorem sum_tab0 : ∀ k, sumTo tab0 k = 0
  | 0 => rfl
  | k + 1 => by
    show sumTo tab0 k + needT tab0 k = 0
    rw [sum_tab0 k]
    unfold needT
    rw [(nT_tab0 k).1]
    rfl

theorem play_start (ws : List Nat) (hws : ∀ i, ws.getD i 0 < 18446744073709551616) : PlayP (laidX ws 4 1080) tab0 (fun _ => []) (freeL (laidX ws 4 1080)).length :=
  ⟨laidX_64 ws hws, laidX_len _ _ _, fun i _ => .inl ⟨by rw [(nT_tab0 i).1]; rfl, ino_free0 (fun k hk => laidX_0 ws hk) _, rfl⟩, fun _ _ _ _ _ c hc => by simp at hc, fun _ _ c hc => by simp at hc, by rw [sum_tab0]; rfl⟩

/-- The sheet and the table behind so many operations. -/
def PlayI (W0 : World) (b gT : Nat) (B : List Int) (room k : Nat) (wx : World) : Prop :=
  ∃ gp T, Play W0 b gp B T room (700 * k + 700) wx ∧ gp ≠ gT ∧ TabAtV wx gT T ∧ TabE W0 T

theorem files_emp (n : Ino) : filesL (emp n) = [] := by
  show filesTo (List.replicate 13 0) 13 = []
  decide

set_option maxRecDepth 100000 in
set_option maxHeartbeats 16000000 in
theorem inoPlays_at (ws : List Nat) (hws : ∀ i, ws.getD i 0 < 18446744073709551616) (a0 : Option Addr) (cp mp : Nat) (l : List POp) (w : World) (hO : POps w (.slice a0 mp cp) l) (hT : TabAt w) :
    Calls Tryz.prog 4 #[.agg (w4 ws), .slice a0 mp cp] w fun e w' => e = .returned (.bool true) ∧ Keeps [] w w' := by
  obtain ⟨hml, hmp⟩ : l.length = mp ∧ mp ≤ maxLen := by
    obtain ⟨-, a', c', e, h1, h2, -⟩ := hO
    cases e
    exact ⟨rfl, by omega⟩
  have hb2 := Blk.new w (w4 ws) 32
  have hk0 : Keeps [] w (w.alloc (.cells (w4 ws) 32)) := (Keeps.refl [] w).alloc _
  obtain ⟨Wb, hWb⟩ : ∃ Wb, w.alloc (.cells (w4 ws) 32) = Wb := ⟨_, rfl⟩
  rw [hWb] at hb2 hk0
  have HL4 : Hid (∀ wx, Keeps [] Wb wx → (loadVar 32 ⟨w.heap.size, 0, none⟩).run Tryz.prog wx = .ok (.agg (w4 ws)) wx) := fun wx hk => load_w4 (hb2.keep hk (by simp))
  have HAW : Hid (∀ wx, Keeps [] Wb wx → Calls Tryz.prog 7 #[] wx fun e w' => e = .returned (.bool true) ∧ Keeps [] wx w') := fun wx hk => awake8_at (hT.keep (hk0.trans' hk))
  have HSH := Lib.hid (fun wx => sheet6_at ws wx)
  have HT0 : Hid (∀ wx, Keeps [] Wb wx → TabAt wx) := fun wx hk => hT.keep (hk0.trans' hk)
  have HOG : Hid (∀ wx, Keeps [] Wb wx → ∀ j, j < mp → ∃ g off, a0 = some ⟨g, off, none⟩ ∧ POpOk wx (l.getD j default) ∧ ∀ wy, Keeps [] wx wy → (loadVar 50 ⟨g, off + j * 20, none⟩).run Tryz.prog wy = .ok (.agg (opC (l.getD j default).k (l.getD j default).i (l.getD j default).n (l.getD j default).v)) wy) := fun wx hk j hj => by
    obtain ⟨g, off, e1, e2, e3⟩ := hO.get (j := j) (by omega)
    exact ⟨g, off, e1, e2.keep (hk0.trans' hk), fun wy hy => e3 wy ((hk0.trans' hk).trans' hy)⟩
  have HST := Lib.hid (play_start ws hws)
  have HRM : Hid ((freeL (laidX ws 4 1080)).length ≤ 255) := by
    have := freeL_len (laidX ws 4 1080)
    show _ ≤ _
    omega
  have HK0 := Lib.hid hk0
  have HW0b := Lib.hid hWb
  unfold maxLen at hmp
  clear hO hT hb2 hk0 hWb hws hml
  generalize w4 ws = Z4 at *
  generalize laidX ws 4 1080 = B at *
  obtain ⟨room, hroom⟩ : ∃ room, (freeL B).length = room := ⟨_, rfl⟩
  have HROOM := Lib.hid hroom
  rw [hroom] at HST HRM
  clear hroom
  go_enter Tryz.func4, Tryz.ntmps4
  go_wp2_with fail
  rw [HW0b.out]
  refine (HAW.out Wb (Keeps.refl _ _)).mono ?_; rintro e w1 ⟨rfl, hk1⟩
  have HK1 := Lib.hid hk1
  clear hk1
  by_cases h60 : 60 < mp
  · have h60i : (60 : Int) < (mp : Int) := by omega
    have HAW1 := Lib.hid (HAW.out w1 HK1.out)
    clear HAW HOG HST HSH HL4
    go_wp2_with fail
    refine HAW1.out.mono ?_; rintro e w2 ⟨rfl, hk2⟩
    have HK2 := Lib.hid (HK0.out.trans' (HK1.out.trans' hk2))
    clear hk2
    go_wp2_with fail
    go_ret
    exact ⟨rfl, HK2.out⟩
  · have h60i : ¬ (60 : Int) < (mp : Int) := by omega
    have HM60 : Hid (mp ≤ 60) := by show mp ≤ 60; omega
    have HL41 := Lib.hid (HL4.out w1 HK1.out)
    clear HAW HL4 h60
    go_wp2_with ((with_reducible show wpList _ _ _ (⟨_, .load 32 (.tmp 2), _, _, _, _⟩ :: _) _ _); refine wpList_load_any rfl 32 (.tmp 2) rfl _ rfl _ HL41.out ?_)
    refine (HSH.out w1).mono ?_; rintro e w2 ⟨b, rfl, hb2, hs2, hk2⟩
    have HTW := Lib.hid (HT0.out w1 HK1.out)
    have HKW := Lib.hid (HK0.out.trans' HK1.out)
    have HOG1 : Hid (∀ j, j < mp → ∃ g off, a0 = some ⟨g, off, none⟩ ∧ POpOk w1 (l.getD j default) ∧ ∀ wy, Keeps [] w1 wy → (loadVar 50 ⟨g, off + j * 20, none⟩).run Tryz.prog wy = .ok (.agg (opC (l.getD j default).k (l.getD j default).i (l.getD j default).n (l.getD j default).v)) wy) := HOG.out w1 HK1.out
    obtain ⟨W0, hW0⟩ : ∃ W0, w1 = W0 := ⟨_, rfl⟩
    rw [hW0] at hb2 hk2 HTW HKW HOG1
    have HBW := Lib.hid hb2
    have HFRE : Hid (Calls Tryz.prog 19 #[.pointer (some ⟨b, 0, none⟩)] w2 fun e w' => e = .returned (.int .i64 (room : Int)) ∧ w2 = w') := by
      have := paFree_at hs2 HST.out.w64
      rwa [show (freeL (putAll B [])).length = room from HROOM.out] at this
    have HTV3 : Hid (TabAtV (w2.alloc (.cells (tabC tab0) 48)) w2.heap.size tab0) := ⟨Blk.new w2 _ _, tab0_ok, by simp [tab0]⟩
    have hz2 := hk2.size
    have hbl := hs2.raw.lt
    have HI0 : Hid (PlayI W0 b w2.heap.size B room 0 (w2.alloc (.cells (tabC tab0) 48))) :=
      ⟨b, tab0, ⟨[], fun _ => [], hs2.keep ((Keeps.refl [] w2).alloc (.cells (tabC tab0) 48)) (by simp) (by simp), by simp; omega, HBW.out, by simp, HST.out, hk2.alloc _⟩, by omega, HTV3.out, fun i hi => ⟨0, by rw [(nT_tab0 i).1, (nT_tab0 i).2]; exact EReads.nil _ _⟩⟩
    have HGT : Hid (W0.heap.size ≤ w2.heap.size ∧ b < w2.heap.size) := ⟨hz2, hbl⟩
    have hzt := zero_tab
    have hzo := zero_op
    have hzi := zero_ino
    clear hb2 hs2 hk2 HOG HSH HST HT0 HK1 HK0 hW0 hz2 hbl HTV3 HROOM
    obtain ⟨Z0, hZ0⟩ : ∃ Z0, tabC tab0 = Z0 := ⟨_, rfl⟩
    have HZ0 := Lib.hid hZ0
    have hzt2 : ∀ w : World, (zeroValue 48).run Tryz.prog w = .ok (.agg Z0) w := fun w => by rw [← hZ0]; exact hzt w
    rw [hZ0] at HI0
    obtain ⟨ZO0, hZO0⟩ : ∃ ZO0, opC 0 0 inoZ (.slice none 0 0) = ZO0 := ⟨_, rfl⟩
    have HZO0 := Lib.hid hZO0
    have hzo2 : ∀ w : World, (zeroValue 50).run Tryz.prog w = .ok (.agg ZO0) w := fun w => by rw [← hZO0]; exact hzo w
    obtain ⟨ZI0, hZI0⟩ : ∃ ZI0, inoC inoZ (.slice none 0 0) = ZI0 := ⟨_, rfl⟩
    have HZI0 := Lib.hid hZI0
    have hzi2 : ∀ w : World, (zeroValue 25).run Tryz.prog w = .ok (.agg ZI0) w := fun w => by rw [← hZI0]; exact hzi w
    clear hzt hzo hzi hZ0 hZO0 hZI0
    go_wp2_with fail
    refine HFRE.out.mono ?_; rintro e w' ⟨rfl, rfl⟩
    clear HFRE HL41
    go_wp2_with fail
    obtain ⟨gT, hgT⟩ : ∃ gT, w2.heap.size = gT := ⟨_, rfl⟩
    rw [hgT] at HI0 HGT ⊢
    clear hgT
    go_loopg [8] mp (fun gh s8 wx => ∃ k : Nat, k + gh = mp ∧ s8 = .int .i64 (k : Int) ∧ Hid (PlayI W0 b gT B room k wx))
    case atStart => exact ⟨0, by omega, rfl, HI0.out⟩
    case round =>
      clear HI0
      obtain ⟨k, hk, rfl, HI⟩ := hrel
      cases gk with
      | succ gg =>
        have hkm : k < mp := by omega
        have hki : (k : Int) < (mp : Int) := by omega
        have hkn : (0 : Int) ≤ (k : Int) := by omega
        obtain ⟨gp, T, hpl, hgpT, htv, hte⟩ := HI.out
        obtain ⟨go, offo, rfl, hpo, hlo⟩ := HOG1.out k hkm
        obtain ⟨hkb, hBB, gE, hEE⟩ := hpo
        generalize (l.getD k default).k = kd at *
        generalize (l.getD k default).i = ix at *
        generalize (l.getD k default).n = n at *
        generalize (l.getD k default).v = v at *
        have HLO := Lib.hid (hlo wr hpl.keeps.1)
        obtain ⟨w5, q1, q2, q3⟩ := store_op (k := kd) (i := ix) (n := n) (v := v) (Blk.new wr ZO0 50) (by rw [← HZO0.out]; rfl) hBB (reads_one hEE)
        have hk5 : Keeps [] wr w5 := ((Keeps.refl [] wr).alloc _).trans q3 (by intro x hx; rw [List.mem_singleton] at hx; omega)
        have HS5 := Lib.hid q1
        have HOP5 := Lib.hid q2
        have HPL5 := Lib.hid (hpl.keep (l := []) hk5 (by simp))
        have HTV5 := Lib.hid (htv.keep hk5 (by simp))
        have HL5 := Lib.hid q2.loadI
        have HTE0 := Lib.hid hte
        have HGPT0 := Lib.hid hgpT
        have HE := Lib.hid hEE
        have HBN0 := Lib.hid hBB
        have HKD := Lib.hid hkb
        have HG9 : Hid (b < wr.heap.size ∧ gp < wr.heap.size ∧ gT < wr.heap.size) := ⟨hpl.keeps.2.2, hpl.keeps.2.1, htv.blk.lt⟩
        have HFEW := Lib.hid (refFew_at n v gE hBB w5 (hEE.keep HPL5.out.keeps.1 (by simp)))
        clear hpl hgpT htv hte hkb hBB hEE hlo q1 q2 q3 hk5 HI
        obtain ⟨ZP, hZP⟩ : ∃ ZP, opC kd ix n v = ZP := ⟨_, rfl⟩
        rw [hZP] at HLO HS5
        obtain ⟨ZN, hZN⟩ : ∃ ZN, inoC n v = ZN := ⟨_, rfl⟩
        rw [hZN] at HL5 HFEW
        clear hZP
        go_wp2_with (first | ((with_reducible show wpList _ _ _ (⟨_, .load 50 (.tmp 41), _, _, _, _⟩ :: _) _ _); refine wpList_load_any rfl 50 (.tmp 41) rfl _ rfl _ HLO.out ?_) | ((with_reducible show wpList _ _ _ (⟨_, .store 50 (.tmp 9) (.tmp 42), _, _, _, _⟩ :: _) _ _); refine wpList_store_any rfl 50 (.tmp 9) (.tmp 42) rfl _ rfl _ rfl _ HS5.out ?_) | ((with_reducible show wpList _ _ _ (⟨_, .load 25 (.tmp 43), _, _, _, _⟩ :: _) _ _); refine wpList_load_any rfl 25 (.tmp 43) rfl _ rfl _ HL5.out ?_))
        refine HFEW.out.mono ?_; rintro e w6 ⟨⟨fb, rfl, hfb⟩, hk6⟩
        have HPL6 := Lib.hid (HPL5.out.keep (l := []) hk6 (by simp))
        have HTV6 := Lib.hid (HTV5.out.keep hk6 (by simp))
        have HOP6 := Lib.hid (HOP5.out.keep hk6 (by simp))
        have HFB := Lib.hid hfb
        clear hfb hk6 HFEW HPL5 HTV5 HOP5 HL5 HS5 HLO
        cases fb
        · have HKF := Lib.hid (HKW.out.trans' HPL6.out.keeps.1)
          clear HPL6 HTV6 HOP6
          go_wp2_with fail
          go_ret
          exact ⟨rfl, HKF.out⟩
        · have HNS : Hid (∀ k, k < (emp n).E.length → (enm (emp n).E k).size ≤ 9223372036854775807) := fun k hk => by have := (HFB.out rfl).2 k hk; show (enm n.E k).size ≤ _; omega
          have HL6 := Lib.hid HOP6.out.loadI
          have HEM := Lib.hid (empty_at n v gE HBN0.out w6 (HE.out.keep HPL6.out.keeps.1 (by simp)))
          have HBN : Hid ((emp n).B.length = 13) := by show _ = _; simp [emp]
          have HFL := Lib.hid (files_emp n)
          have HEN : Hid (EReads W0 v gE (emp n).E) := HE.out
          obtain ⟨n', hn'⟩ : ∃ n', emp n = n' := ⟨_, rfl⟩
          rw [hn'] at HNS HEM HBN HFL HEN
          rw [hZN] at HL6 HEM
          clear HFB hn'
          go_wp2_with ((with_reducible show wpList _ _ _ (⟨_, .load 25 (.tmp 47), _, _, _, _⟩ :: _) _ _); refine wpList_load_any rfl 25 (.tmp 47) rfl _ rfl _ HL6.out ?_)
          refine HEM.out.mono ?_; rintro e w7 ⟨rfl, hk7⟩
          obtain ⟨w8, q1, q2, q3⟩ := (HOP6.out.keep hk7 (by simp)).storeI (n' := n') (v' := v) HBN.out (reads_one HEN.out)
          have hg9r : wr.heap.size ≠ b ∧ wr.heap.size ≠ gp ∧ wr.heap.size ≠ gT := by have := HG9.out; omega
          have HPL7 := Lib.hid (HPL6.out.keep (l := []) hk7 (by simp))
          have HPL8 : Hid (Play W0 b gp B T room (700 * k + 700) w8) := HPL7.out.keep q3 (by intro x hx; rw [List.mem_singleton] at hx; subst hx; have h1 := HG9.out; have h2 := HBW.out; exact ⟨by omega, hg9r.1, hg9r.2.1⟩)
          have HTV8 : Hid (TabAtV w8 gT T) := (HTV6.out.keep hk7 (by simp)).keep q3 (by rw [List.mem_singleton]; exact fun e => hg9r.2.2 e.symm)
          have HOP8 := Lib.hid q2
          have HS8 := Lib.hid q1
          have HL8 := Lib.hid q2.loadI
          have c0 := q2.kind
          have c1 := q2.idx
          have HGG : Hid (gT ≠ b ∧ gT ≠ gp ∧ W0.heap.size ≤ gT ∧ b < gT) := by have h1 := HGT.out; have h2 := HGPT0.out; show _ ∧ _; omega
          clear HGT
          have HGT := HGG
          have HGB : Hid (wr.heap.size ≠ b ∧ wr.heap.size ≠ gp) := ⟨hg9r.1, hg9r.2.1⟩
          have HPGP : Hid (W0.heap.size ≤ gp) := by obtain ⟨_, _, _, _, h, _⟩ := HPL8.out; exact h
          clear HGG hk7 q1 q2 q3 hg9r HPL6 HPL7 HTV6 HOP6 HEM HL6 HG9 HE HBN0 hZN
          have HG9 := HGB
          clear HGB
          obtain ⟨g9, hg9⟩ : ∃ g9, wr.heap.size = g9 := ⟨_, rfl⟩
          rw [hg9] at HOP8 HS8 HL8 c0 c1 HG9 ⊢
          clear hg9
          obtain ⟨ZE, hZE⟩ : ∃ ZE, inoC n' v = ZE := ⟨_, rfl⟩
          rw [hZE] at HS8 HL8 ⊢
          have HZE := Lib.hid hZE
          clear hZE
          have hmod : kd.tmod 3 = kd % 3 := Int.tmod_eq_emod_of_nonneg HKD.out.1
          have hm700 : 700 * k + 700 ≤ 600000 := by have := HM60.out; omega
          rcases (show kd % 3 = 0 ∨ kd % 3 = 1 ∨ kd % 3 = 2 by omega) with hm | hm | hm
          · rw [hm] at hmod
            have HC := Lib.hid (play_put_at HBW.out HTW.out HPL8.out hm700 HTV8.out.len hm ix n' v gE HBN.out HFL.out HEN.out HNS.out)
            rw [HZE.out] at HC
            clear hm hm700
            go_wp2_with (first | ((with_reducible show wpList _ _ _ (⟨_, .store 25 (.tmp 50) (.tmp 49), _, _, _, _⟩ :: _) _ _); refine wpList_store_any rfl 25 (.tmp 50) (.tmp 49) rfl _ rfl _ rfl _ HS8.out ?_) | ((with_reducible show wpList _ _ _ (⟨_, .load 25 (.tmp 63), _, _, _, _⟩ :: _) _ _); refine wpList_load_any rfl 25 (.tmp 63) rfl _ rfl _ HL8.out ?_))
            refine HC.out.mono ?_; rintro e w9 ⟨r, rfl, hpd⟩
            have HPD := Lib.hid hpd
            have c9 : w9.cell? ⟨g9, 1, none⟩ = some (.int .i64 ix) := (HOP8.out.keep hpd.1 (by have := HG9.out; simp only [List.mem_cons, List.not_mem_nil, or_false]; omega)).idx
            clear hpd HC HS8 HL8 c0 c1 hmod
            have HTV9 : Hid (TabAtV w9 gT T) := HTV8.out.keep HPD.out.1 (by have := HGT.out; simp only [List.mem_cons, List.not_mem_nil, or_false]; omega)
            have HOP9 : Hid (OpAt w9 g9 kd ix n' v) := HOP8.out.keep HPD.out.1 (by have := HG9.out; simp only [List.mem_cons, List.not_mem_nil, or_false]; omega)
            have HLT9 := Lib.hid HTV9.out.load
            have HLO9 := Lib.hid HOP9.out.load
            have HK09 : Hid (Keeps [] W0 w9) := HPL8.out.keeps.1.trans HPD.out.1 (by intro x hx; have h1 := HBW.out; have h2 := HPGP.out; simp only [List.mem_cons, List.not_mem_nil, or_false] at hx; omega)
            have HDO := Lib.hid (do_at (w := w9) HTV9.out.ok HTV9.out.len HPL8.out.right.1 (HTE0.out.keep HK09.out) room HRM.out kd ix (by have := HKD.out; omega) n' v gE HBN.out (HEN.out.keep HK09.out (by simp)) HNS.out)
            generalize hto : tabC T = ZT at *
            generalize hzo : opC kd ix n' v = ZO at *
            clear hto hzo
            go_wp2_with (first | ((with_reducible show wpList _ _ _ (⟨_, .load 48 (.tmp 7), _, _, _, _⟩ :: _) _ _); refine wpList_load_any rfl 48 (.tmp 7) rfl _ rfl _ HLT9.out ?_) | ((with_reducible show wpList _ _ _ (⟨_, .load 50 (.tmp 9), _, _, _, _⟩ :: _) _ _); refine wpList_load_any rfl 50 (.tmp 9) rfl _ rfl _ HLO9.out ?_))
            refine HDO.out.mono ?_; rintro e w10 ⟨T', y, f, rfl, hdo, hok', hlen', hk10⟩
            obtain ⟨gp9, hg9, hpl⟩ := HPD.out.2
            obtain ⟨rfl, hxy, hpl9⟩ := hpl T' y f hdo
            obtain ⟨w11, q1, q2, q3⟩ := store_tab (T := T') (Blk.new w10 (tabC tab0) 48) (tabC_size tab0_ok (by simp [tab0])) hok' hlen'
            have hk11 : Keeps [] w10 w11 := ((Keeps.refl [] w10).alloc _).trans q3 (by intro x hx; rw [List.mem_singleton] at hx; omega)
            have hk911 : Keeps [] w9 w11 := hk10.trans' hk11
            have htv11 : TabAtV w11 gT T := HTV9.out.keep hk911 (by simp)
            obtain ⟨w12, p1, p2, p3⟩ := store_tab (T := T') htv11.blk (tabC_size htv11.ok htv11.len) hok' hlen'
            have hgpT : gp9 ≠ gT := by have h1 := HGT.out; have h2 := htv11.blk.lt; have h3 := hg9; have h4 := HTV8.out.blk.lt; omega
            have hpl11 : Play W0 b gp9 B T' room (700 * k + 700 + 700) w11 := hpl9.keep (l := []) hk911 (by simp)
            have HPLN : Hid (Play W0 b gp9 B T' room (700 * (k + 1) + 700) w12) := hpl11.keep p3 (by intro x hx; rw [List.mem_singleton] at hx; subst hx; have h1 := HGT.out; exact ⟨by omega, by omega, fun e => hgpT e.symm⟩)
            have HTE : Hid (TabE W0 T') := hdo.tabE HTV9.out.len HEN.out HTE0.out
            have HTN := Lib.hid p2
            have HGPT := Lib.hid hgpT
            have HXY := Lib.hid hxy
            rw [HZ0.out] at q1
            have HS11 := Lib.hid q1
            have HL11 := Lib.hid q2.load
            have HS12 := Lib.hid p1
            have HLT : Hid (∀ wx, Keeps [] w12 wx → (loadVar 48 ⟨gT, 0, none⟩).run Tryz.prog wx = .ok (.agg (tabC T')) wx) := fun wx hk => (HTN.out.keep hk (by simp)).load
            have HFR : Hid (∀ wx, Keeps [] w12 wx → Calls Tryz.prog 19 #[.pointer (some ⟨b, 0, none⟩)] wx fun e w' => e = .returned (.int .i64 ((room - sumTo T' 32 : Nat) : Int)) ∧ Keeps [] wx w') := fun wx hk => (play_free (HPLN.out.keep (l := []) hk (by simp))).mono fun e w' he => ⟨he.1, he.2 ▸ Keeps.refl _ _⟩
            have HUS : Hid (∀ wx, Keeps [] w12 wx → Calls Tryz.prog 23 #[.agg (tabC T')] wx fun e w' => e = .returned (.int .i64 ((sumTo T' 32 : Nat) : Int)) ∧ Keeps [] wx w') := fun wx hk => used_at HTN.out.ok HTN.out.len HPLN.out.right.1 (HTE.out.keep (HPLN.out.keeps.1.trans' hk))
            have hsr := HPLN.out.right.2
            have hrm := HRM.out
            have HSUB : Hid ((room : Int) - ((sumTo T' 32 : Nat) : Int) = ((room - sumTo T' 32 : Nat) : Int) ∧ IntKind.i64.wrap ((room - sumTo T' 32 : Nat) : Int) = ((room - sumTo T' 32 : Nat) : Int)) := ⟨by omega, IntWalk.i64_in _ (by omega)⟩
            clear hdo hok' hlen' hk10 hg9 hpl hxy hpl9 q1 q2 q3 hk11 hk911 htv11 p1 p2 p3 hgpT hpl11 hsr hrm HDO HLT9 HLO9 HTV9 HOP9 HK09 HPD
            obtain ⟨ZS, hZS⟩ : ∃ ZS, tabC T' = ZS := ⟨_, rfl⟩
            rw [hZS] at HS11 HL11 HS12 HLT HUS ⊢
            clear hZS
            obtain ⟨fr, hfr⟩ : ∃ fr, room - sumTo T' 32 = fr := ⟨_, rfl⟩
            rw [hfr] at HFR HSUB
            obtain ⟨su, hsu⟩ : ∃ su, sumTo T' 32 = su := ⟨_, rfl⟩
            rw [hsu] at HUS HSUB
            clear hfr hsu
            go_wp2_with (first | ((with_reducible show wpList _ _ _ (⟨_, .store 48 (.tmp 14) (.tmp 84), _, _, _, _⟩ :: _) _ _); refine wpList_store_any rfl 48 (.tmp 14) (.tmp 84) rfl _ rfl _ rfl _ HS11.out ?_) | ((with_reducible show wpList _ _ _ (⟨_, .load 48 (.tmp 14), _, _, _, _⟩ :: _) _ _); refine wpList_load_any rfl 48 (.tmp 14) rfl _ rfl _ HL11.out ?_) | ((with_reducible show wpList _ _ _ (⟨_, .store 48 (.tmp 7) (.tmp 87), _, _, _, _⟩ :: _) _ _); refine wpList_store_any rfl 48 (.tmp 7) (.tmp 87) rfl _ rfl _ rfl _ HS12.out ?_))
            by_cases hr0 : r = 0
            · obtain rfl := HXY.out hr0
              subst hr0
              clear HXY HS11 HL11 HS12
              refine wp_region_each (S := fun wx => Keeps [] w12 wx) (by kernel_rfl) (by kernel_rfl) (fun d _ _ _ _ h => by cases d <;> exact h) ((Keeps.refl _ _).drew) (by kernel_rfl) ?_
              repeat (first
                | ((with_reducible show EachList _ _ _ _ (⟨some 104, _, _, _, _, _⟩ :: _) _); refine EachList.cons (.agg ZS) (EachIf.load rfl 48 (.tmp 7) rfl _ rfl fun wx hx => HLT.out wx hx) ?_; simp only [Act.put, List.setIfInBounds_toArray, List.set_cons_zero, List.set_cons_succ])
                | ((with_reducible show EachList _ _ _ _ (⟨some 102, _, _, _, _, _⟩ :: _) _); refine EachList.cons (.int .i64 (fr : Int)) (EachIf.call rfl 19 #[.pointer (some ⟨b, 0, none⟩)] ?he ?h) ?_; (case he => (intro wz; go_simp)); (case h => exact fun wx hx => (HFR.out wx hx).mono fun e w' he => ⟨he.1, hx.trans' he.2⟩); simp only [Act.put, List.setIfInBounds_toArray, List.set_cons_zero, List.set_cons_succ])
                | ((with_reducible show EachList _ _ _ _ (⟨some 105, _, _, _, _, _⟩ :: _) _); refine EachList.cons (.int .i64 (su : Int)) (EachIf.call rfl 23 #[.agg ZS] ?he ?h) ?_; (case he => (intro wz; go_simp)); (case h => exact fun wx hx => (HUS.out wx hx).mono fun e w' he => ⟨he.1, hx.trans' he.2⟩); simp only [Act.put, List.setIfInBounds_toArray, List.set_cons_zero, List.set_cons_succ])
                | ((with_reducible show EachList _ _ _ _ (⟨some 106, _, _, _, _, _⟩ :: _) _); refine EachList.cons (.int .i64 (fr : Int)) (EachIf.val rfl ?h) ?_; (case h => (intro wx hx; clear hx; go_simp; simp [HSUB.out.1, HSUB.out.2]; done)); simp only [Act.put, List.setIfInBounds_toArray, List.set_cons_zero, List.set_cons_succ])
                | (refine EachList.cons ?_ (EachIf.val rfl ?h) ?_; (case h => (intro wx hx; clear hx; go_simp; rfl)); simp only [Act.put, List.setIfInBounds_toArray, List.set_cons_zero, List.set_cons_succ]))
              refine EachList.done fun w13 hx => ?_
              have HI : Hid (PlayI W0 b gT B room (k + 1) w13) := ⟨gp9, T', HPLN.out.keep (l := []) hx (by simp), HGPT.out, HTN.out.keep hx (by simp), HTE.out⟩
              clear hx HLT HFR HUS HSUB HPLN HGPT HTN HTE
              go_wp2_with fail
              go_roundg gg
              case measure => omega
              case rel => exact ⟨k + 1, by omega, by go_num, HI.out⟩
            · have e0 : (r == 0) = false := by simpa using hr0
              clear HXY HS11 HL11 HS12 hr0
              refine wp_region_each (S := fun wx => Keeps [] w12 wx) (by kernel_rfl) (by kernel_rfl) (fun d _ _ _ _ h => by cases d <;> exact h) ((Keeps.refl _ _).drew) (by kernel_rfl) ?_
              repeat (first
                | ((with_reducible show EachList _ _ _ _ (⟨some 104, _, _, _, _, _⟩ :: _) _); refine EachList.cons (.agg ZS) (EachIf.load rfl 48 (.tmp 7) rfl _ rfl fun wx hx => HLT.out wx hx) ?_; simp only [Act.put, List.setIfInBounds_toArray, List.set_cons_zero, List.set_cons_succ])
                | ((with_reducible show EachList _ _ _ _ (⟨some 102, _, _, _, _, _⟩ :: _) _); refine EachList.cons (.int .i64 (fr : Int)) (EachIf.call rfl 19 #[.pointer (some ⟨b, 0, none⟩)] ?he ?h) ?_; (case he => (intro wz; go_simp)); (case h => exact fun wx hx => (HFR.out wx hx).mono fun e w' he => ⟨he.1, hx.trans' he.2⟩); simp only [Act.put, List.setIfInBounds_toArray, List.set_cons_zero, List.set_cons_succ])
                | ((with_reducible show EachList _ _ _ _ (⟨some 105, _, _, _, _, _⟩ :: _) _); refine EachList.cons (.int .i64 (su : Int)) (EachIf.call rfl 23 #[.agg ZS] ?he ?h) ?_; (case he => (intro wz; go_simp)); (case h => exact fun wx hx => (HUS.out wx hx).mono fun e w' he => ⟨he.1, hx.trans' he.2⟩); simp only [Act.put, List.setIfInBounds_toArray, List.set_cons_zero, List.set_cons_succ])
                | ((with_reducible show EachList _ _ _ _ (⟨some 106, _, _, _, _, _⟩ :: _) _); refine EachList.cons (.int .i64 (fr : Int)) (EachIf.val rfl ?h) ?_; (case h => (intro wx hx; clear hx; go_simp; simp [HSUB.out.1, HSUB.out.2]; done)); simp only [Act.put, List.setIfInBounds_toArray, List.set_cons_zero, List.set_cons_succ])
                | (refine EachList.cons undef (EachIf.off rfl) ?_; simp only [Act.put, List.setIfInBounds_toArray, List.set_cons_zero, List.set_cons_succ])
                | (refine EachList.cons ?_ (EachIf.val rfl ?h) ?_; (case h => (intro wx hx; clear hx; go_simp; rfl)); simp only [Act.put, List.setIfInBounds_toArray, List.set_cons_zero, List.set_cons_succ]))
              refine EachList.done fun w13 hx => ?_
              have HI : Hid (PlayI W0 b gT B room (k + 1) w13) := ⟨gp9, T', HPLN.out.keep (l := []) hx (by simp), HGPT.out, HTN.out.keep hx (by simp), HTE.out⟩
              clear hx HLT HFR HUS HSUB HPLN HGPT HTN HTE
              go_wp2_with fail
              go_roundg gg
              case measure => omega
              case rel => exact ⟨k + 1, by omega, by go_num, HI.out⟩
          · rw [hm] at hmod
            have HC := Lib.hid (play_new_at HBW.out HTW.out HPL8.out hm700 HTV8.out.len hm ix n' v gE HBN.out HFL.out HEN.out HNS.out)
            rw [HZE.out] at HC
            clear hm hm700
            go_wp2_with (first | ((with_reducible show wpList _ _ _ (⟨_, .store 25 (.tmp 50) (.tmp 49), _, _, _, _⟩ :: _) _ _); refine wpList_store_any rfl 25 (.tmp 50) (.tmp 49) rfl _ rfl _ rfl _ HS8.out ?_) | ((with_reducible show wpList _ _ _ (⟨_, .load 25 (.tmp 72), _, _, _, _⟩ :: _) _ _); refine wpList_load_any rfl 25 (.tmp 72) rfl _ rfl _ HL8.out ?_))
            refine HC.out.mono ?_; rintro e w9 ⟨xr, r, rfl, hpd⟩
            have HPD := Lib.hid hpd
            clear hpd HC HS8 HL8 c0 c1 hmod
            have HTV9 : Hid (TabAtV w9 gT T) := HTV8.out.keep HPD.out.1 (by have := HGT.out; simp only [List.mem_cons, List.not_mem_nil, or_false]; omega)
            have HOP9 : Hid (OpAt w9 g9 kd ix n' v) := HOP8.out.keep HPD.out.1 (by have := HG9.out; simp only [List.mem_cons, List.not_mem_nil, or_false]; omega)
            have HLT9 := Lib.hid HTV9.out.load
            have HLO9 := Lib.hid HOP9.out.load
            have HK09 : Hid (Keeps [] W0 w9) := HPL8.out.keeps.1.trans HPD.out.1 (by intro x hx; have h1 := HBW.out; have h2 := HPGP.out; simp only [List.mem_cons, List.not_mem_nil, or_false] at hx; omega)
            have HDO := Lib.hid (do_at (w := w9) HTV9.out.ok HTV9.out.len HPL8.out.right.1 (HTE0.out.keep HK09.out) room HRM.out kd ix (by have := HKD.out; omega) n' v gE HBN.out (HEN.out.keep HK09.out (by simp)) HNS.out)
            generalize hto : tabC T = ZT at *
            generalize hzo : opC kd ix n' v = ZO at *
            clear hto hzo
            go_wp2_with (first | ((with_reducible show wpList _ _ _ (⟨_, .load 48 (.tmp 7), _, _, _, _⟩ :: _) _ _); refine wpList_load_any rfl 48 (.tmp 7) rfl _ rfl _ HLT9.out ?_) | ((with_reducible show wpList _ _ _ (⟨_, .load 50 (.tmp 9), _, _, _, _⟩ :: _) _ _); refine wpList_load_any rfl 50 (.tmp 9) rfl _ rfl _ HLO9.out ?_))
            refine HDO.out.mono ?_; rintro e w10 ⟨T', y, f, rfl, hdo, hok', hlen', hk10⟩
            obtain ⟨gp9, hg9, hpl⟩ := HPD.out.2
            obtain ⟨rfl, hxy, hpl9⟩ := hpl T' y f hdo
            obtain ⟨w11, q1, q2, q3⟩ := store_tab (T := T') (Blk.new w10 (tabC tab0) 48) (tabC_size tab0_ok (by simp [tab0])) hok' hlen'
            have hk11 : Keeps [] w10 w11 := ((Keeps.refl [] w10).alloc _).trans q3 (by intro x hx; rw [List.mem_singleton] at hx; omega)
            have hk911 : Keeps [] w9 w11 := hk10.trans' hk11
            have htv11 : TabAtV w11 gT T := HTV9.out.keep hk911 (by simp)
            obtain ⟨w12, p1, p2, p3⟩ := store_tab (T := T') htv11.blk (tabC_size htv11.ok htv11.len) hok' hlen'
            have hgpT : gp9 ≠ gT := by have h1 := HGT.out; have h2 := htv11.blk.lt; have h3 := hg9; have h4 := HTV8.out.blk.lt; omega
            have hpl11 : Play W0 b gp9 B T' room (700 * k + 700 + 700) w11 := hpl9.keep (l := []) hk911 (by simp)
            have HPLN : Hid (Play W0 b gp9 B T' room (700 * (k + 1) + 700) w12) := hpl11.keep p3 (by intro x hx; rw [List.mem_singleton] at hx; subst hx; have h1 := HGT.out; exact ⟨by omega, by omega, fun e => hgpT e.symm⟩)
            have HTE : Hid (TabE W0 T') := hdo.tabE HTV9.out.len HEN.out HTE0.out
            have HTN := Lib.hid p2
            have HGPT := Lib.hid hgpT
            have HXY := Lib.hid hxy
            rw [HZ0.out] at q1
            have HS11 := Lib.hid q1
            have HL11 := Lib.hid q2.load
            have HS12 := Lib.hid p1
            have HLT : Hid (∀ wx, Keeps [] w12 wx → (loadVar 48 ⟨gT, 0, none⟩).run Tryz.prog wx = .ok (.agg (tabC T')) wx) := fun wx hk => (HTN.out.keep hk (by simp)).load
            have HFR : Hid (∀ wx, Keeps [] w12 wx → Calls Tryz.prog 19 #[.pointer (some ⟨b, 0, none⟩)] wx fun e w' => e = .returned (.int .i64 ((room - sumTo T' 32 : Nat) : Int)) ∧ Keeps [] wx w') := fun wx hk => (play_free (HPLN.out.keep (l := []) hk (by simp))).mono fun e w' he => ⟨he.1, he.2 ▸ Keeps.refl _ _⟩
            have HUS : Hid (∀ wx, Keeps [] w12 wx → Calls Tryz.prog 23 #[.agg (tabC T')] wx fun e w' => e = .returned (.int .i64 ((sumTo T' 32 : Nat) : Int)) ∧ Keeps [] wx w') := fun wx hk => used_at HTN.out.ok HTN.out.len HPLN.out.right.1 (HTE.out.keep (HPLN.out.keeps.1.trans' hk))
            have hsr := HPLN.out.right.2
            have hrm := HRM.out
            have HSUB : Hid ((room : Int) - ((sumTo T' 32 : Nat) : Int) = ((room - sumTo T' 32 : Nat) : Int) ∧ IntKind.i64.wrap ((room - sumTo T' 32 : Nat) : Int) = ((room - sumTo T' 32 : Nat) : Int)) := ⟨by omega, IntWalk.i64_in _ (by omega)⟩
            clear hdo hok' hlen' hk10 hg9 hpl hxy hpl9 q1 q2 q3 hk11 hk911 htv11 p1 p2 p3 hgpT hpl11 hsr hrm HDO HLT9 HLO9 HTV9 HOP9 HK09 HPD
            obtain ⟨ZS, hZS⟩ : ∃ ZS, tabC T' = ZS := ⟨_, rfl⟩
            rw [hZS] at HS11 HL11 HS12 HLT HUS ⊢
            clear hZS
            obtain ⟨fr, hfr⟩ : ∃ fr, room - sumTo T' 32 = fr := ⟨_, rfl⟩
            rw [hfr] at HFR HSUB
            obtain ⟨su, hsu⟩ : ∃ su, sumTo T' 32 = su := ⟨_, rfl⟩
            rw [hsu] at HUS HSUB
            clear hfr hsu
            go_wp2_with (first | ((with_reducible show wpList _ _ _ (⟨_, .store 48 (.tmp 14) (.tmp 84), _, _, _, _⟩ :: _) _ _); refine wpList_store_any rfl 48 (.tmp 14) (.tmp 84) rfl _ rfl _ rfl _ HS11.out ?_) | ((with_reducible show wpList _ _ _ (⟨_, .load 48 (.tmp 14), _, _, _, _⟩ :: _) _ _); refine wpList_load_any rfl 48 (.tmp 14) rfl _ rfl _ HL11.out ?_) | ((with_reducible show wpList _ _ _ (⟨_, .store 48 (.tmp 7) (.tmp 87), _, _, _, _⟩ :: _) _ _); refine wpList_store_any rfl 48 (.tmp 7) (.tmp 87) rfl _ rfl _ rfl _ HS12.out ?_))
            by_cases hr0 : r = 0
            · obtain rfl := HXY.out hr0
              subst hr0
              clear HXY HS11 HL11 HS12
              refine wp_region_each (S := fun wx => Keeps [] w12 wx) (by kernel_rfl) (by kernel_rfl) (fun d _ _ _ _ h => by cases d <;> exact h) ((Keeps.refl _ _).drew) (by kernel_rfl) ?_
              repeat (first
                | ((with_reducible show EachList _ _ _ _ (⟨some 104, _, _, _, _, _⟩ :: _) _); refine EachList.cons (.agg ZS) (EachIf.load rfl 48 (.tmp 7) rfl _ rfl fun wx hx => HLT.out wx hx) ?_; simp only [Act.put, List.setIfInBounds_toArray, List.set_cons_zero, List.set_cons_succ])
                | ((with_reducible show EachList _ _ _ _ (⟨some 102, _, _, _, _, _⟩ :: _) _); refine EachList.cons (.int .i64 (fr : Int)) (EachIf.call rfl 19 #[.pointer (some ⟨b, 0, none⟩)] ?he ?h) ?_; (case he => (intro wz; go_simp)); (case h => exact fun wx hx => (HFR.out wx hx).mono fun e w' he => ⟨he.1, hx.trans' he.2⟩); simp only [Act.put, List.setIfInBounds_toArray, List.set_cons_zero, List.set_cons_succ])
                | ((with_reducible show EachList _ _ _ _ (⟨some 105, _, _, _, _, _⟩ :: _) _); refine EachList.cons (.int .i64 (su : Int)) (EachIf.call rfl 23 #[.agg ZS] ?he ?h) ?_; (case he => (intro wz; go_simp)); (case h => exact fun wx hx => (HUS.out wx hx).mono fun e w' he => ⟨he.1, hx.trans' he.2⟩); simp only [Act.put, List.setIfInBounds_toArray, List.set_cons_zero, List.set_cons_succ])
                | ((with_reducible show EachList _ _ _ _ (⟨some 106, _, _, _, _, _⟩ :: _) _); refine EachList.cons (.int .i64 (fr : Int)) (EachIf.val rfl ?h) ?_; (case h => (intro wx hx; clear hx; go_simp; simp [HSUB.out.1, HSUB.out.2]; done)); simp only [Act.put, List.setIfInBounds_toArray, List.set_cons_zero, List.set_cons_succ])
                | (refine EachList.cons ?_ (EachIf.val rfl ?h) ?_; (case h => (intro wx hx; clear hx; go_simp; rfl)); simp only [Act.put, List.setIfInBounds_toArray, List.set_cons_zero, List.set_cons_succ]))
              refine EachList.done fun w13 hx => ?_
              have HI : Hid (PlayI W0 b gT B room (k + 1) w13) := ⟨gp9, T', HPLN.out.keep (l := []) hx (by simp), HGPT.out, HTN.out.keep hx (by simp), HTE.out⟩
              clear hx HLT HFR HUS HSUB HPLN HGPT HTN HTE
              go_wp2_with fail
              go_roundg gg
              case measure => omega
              case rel => exact ⟨k + 1, by omega, by go_num, HI.out⟩
            · have e0 : (r == 0) = false := by simpa using hr0
              clear HXY HS11 HL11 HS12 hr0
              refine wp_region_each (S := fun wx => Keeps [] w12 wx) (by kernel_rfl) (by kernel_rfl) (fun d _ _ _ _ h => by cases d <;> exact h) ((Keeps.refl _ _).drew) (by kernel_rfl) ?_
              repeat (first
                | ((with_reducible show EachList _ _ _ _ (⟨some 104, _, _, _, _, _⟩ :: _) _); refine EachList.cons (.agg ZS) (EachIf.load rfl 48 (.tmp 7) rfl _ rfl fun wx hx => HLT.out wx hx) ?_; simp only [Act.put, List.setIfInBounds_toArray, List.set_cons_zero, List.set_cons_succ])
                | ((with_reducible show EachList _ _ _ _ (⟨some 102, _, _, _, _, _⟩ :: _) _); refine EachList.cons (.int .i64 (fr : Int)) (EachIf.call rfl 19 #[.pointer (some ⟨b, 0, none⟩)] ?he ?h) ?_; (case he => (intro wz; go_simp)); (case h => exact fun wx hx => (HFR.out wx hx).mono fun e w' he => ⟨he.1, hx.trans' he.2⟩); simp only [Act.put, List.setIfInBounds_toArray, List.set_cons_zero, List.set_cons_succ])
                | ((with_reducible show EachList _ _ _ _ (⟨some 105, _, _, _, _, _⟩ :: _) _); refine EachList.cons (.int .i64 (su : Int)) (EachIf.call rfl 23 #[.agg ZS] ?he ?h) ?_; (case he => (intro wz; go_simp)); (case h => exact fun wx hx => (HUS.out wx hx).mono fun e w' he => ⟨he.1, hx.trans' he.2⟩); simp only [Act.put, List.setIfInBounds_toArray, List.set_cons_zero, List.set_cons_succ])
                | ((with_reducible show EachList _ _ _ _ (⟨some 106, _, _, _, _, _⟩ :: _) _); refine EachList.cons (.int .i64 (fr : Int)) (EachIf.val rfl ?h) ?_; (case h => (intro wx hx; clear hx; go_simp; simp [HSUB.out.1, HSUB.out.2]; done)); simp only [Act.put, List.setIfInBounds_toArray, List.set_cons_zero, List.set_cons_succ])
                | (refine EachList.cons undef (EachIf.off rfl) ?_; simp only [Act.put, List.setIfInBounds_toArray, List.set_cons_zero, List.set_cons_succ])
                | (refine EachList.cons ?_ (EachIf.val rfl ?h) ?_; (case h => (intro wx hx; clear hx; go_simp; rfl)); simp only [Act.put, List.setIfInBounds_toArray, List.set_cons_zero, List.set_cons_succ]))
              refine EachList.done fun w13 hx => ?_
              have HI : Hid (PlayI W0 b gT B room (k + 1) w13) := ⟨gp9, T', HPLN.out.keep (l := []) hx (by simp), HGPT.out, HTN.out.keep hx (by simp), HTE.out⟩
              clear hx HLT HFR HUS HSUB HPLN HGPT HTN HTE
              go_wp2_with fail
              go_roundg gg
              case measure => omega
              case rel => exact ⟨k + 1, by omega, by go_num, HI.out⟩
          · rw [hm] at hmod
            have HC := Lib.hid (play_drop_at HBW.out HPL8.out hm700 HTV8.out.len hm ix n' v)
            clear hm hm700
            go_wp2_with (first | ((with_reducible show wpList _ _ _ (⟨_, .store 25 (.tmp 50) (.tmp 49), _, _, _, _⟩ :: _) _ _); refine wpList_store_any rfl 25 (.tmp 50) (.tmp 49) rfl _ rfl _ rfl _ HS8.out ?_))
            refine HC.out.mono ?_; rintro e w9 ⟨r, rfl, hpd⟩
            have HPD := Lib.hid hpd
            clear hpd HC HS8 HL8 c0 c1 hmod
            have HTV9 : Hid (TabAtV w9 gT T) := HTV8.out.keep HPD.out.1 (by have := HGT.out; simp only [List.mem_cons, List.not_mem_nil, or_false]; omega)
            have HOP9 : Hid (OpAt w9 g9 kd ix n' v) := HOP8.out.keep HPD.out.1 (by have := HG9.out; simp only [List.mem_cons, List.not_mem_nil, or_false]; omega)
            have HLT9 := Lib.hid HTV9.out.load
            have HLO9 := Lib.hid HOP9.out.load
            have HK09 : Hid (Keeps [] W0 w9) := HPL8.out.keeps.1.trans HPD.out.1 (by intro x hx; have h1 := HBW.out; have h2 := HPGP.out; simp only [List.mem_cons, List.not_mem_nil, or_false] at hx; omega)
            have HDO := Lib.hid (do_at (w := w9) HTV9.out.ok HTV9.out.len HPL8.out.right.1 (HTE0.out.keep HK09.out) room HRM.out kd ix (by have := HKD.out; omega) n' v gE HBN.out (HEN.out.keep HK09.out (by simp)) HNS.out)
            generalize hto : tabC T = ZT at *
            generalize hzo : opC kd ix n' v = ZO at *
            clear hto hzo
            go_wp2_with (first | ((with_reducible show wpList _ _ _ (⟨_, .load 48 (.tmp 7), _, _, _, _⟩ :: _) _ _); refine wpList_load_any rfl 48 (.tmp 7) rfl _ rfl _ HLT9.out ?_) | ((with_reducible show wpList _ _ _ (⟨_, .load 50 (.tmp 9), _, _, _, _⟩ :: _) _ _); refine wpList_load_any rfl 50 (.tmp 9) rfl _ rfl _ HLO9.out ?_))
            refine HDO.out.mono ?_; rintro e w10 ⟨T', y, f, rfl, hdo, hok', hlen', hk10⟩
            obtain ⟨gp9, hg9, hpl⟩ := HPD.out.2
            obtain ⟨rfl, hxy, hpl9⟩ := hpl T' y f hdo
            obtain ⟨w11, q1, q2, q3⟩ := store_tab (T := T') (Blk.new w10 (tabC tab0) 48) (tabC_size tab0_ok (by simp [tab0])) hok' hlen'
            have hk11 : Keeps [] w10 w11 := ((Keeps.refl [] w10).alloc _).trans q3 (by intro x hx; rw [List.mem_singleton] at hx; omega)
            have hk911 : Keeps [] w9 w11 := hk10.trans' hk11
            have htv11 : TabAtV w11 gT T := HTV9.out.keep hk911 (by simp)
            obtain ⟨w12, p1, p2, p3⟩ := store_tab (T := T') htv11.blk (tabC_size htv11.ok htv11.len) hok' hlen'
            have hgpT : gp9 ≠ gT := by have h1 := HGT.out; have h2 := htv11.blk.lt; have h3 := hg9; have h4 := HTV8.out.blk.lt; omega
            have hpl11 : Play W0 b gp9 B T' room (700 * k + 700 + 700) w11 := hpl9.keep (l := []) hk911 (by simp)
            have HPLN : Hid (Play W0 b gp9 B T' room (700 * (k + 1) + 700) w12) := hpl11.keep p3 (by intro x hx; rw [List.mem_singleton] at hx; subst hx; have h1 := HGT.out; exact ⟨by omega, by omega, fun e => hgpT e.symm⟩)
            have HTE : Hid (TabE W0 T') := hdo.tabE HTV9.out.len HEN.out HTE0.out
            have HTN := Lib.hid p2
            have HGPT := Lib.hid hgpT
            have HXY := Lib.hid hxy
            rw [HZ0.out] at q1
            have HS11 := Lib.hid q1
            have HL11 := Lib.hid q2.load
            have HS12 := Lib.hid p1
            have HLT : Hid (∀ wx, Keeps [] w12 wx → (loadVar 48 ⟨gT, 0, none⟩).run Tryz.prog wx = .ok (.agg (tabC T')) wx) := fun wx hk => (HTN.out.keep hk (by simp)).load
            have HFR : Hid (∀ wx, Keeps [] w12 wx → Calls Tryz.prog 19 #[.pointer (some ⟨b, 0, none⟩)] wx fun e w' => e = .returned (.int .i64 ((room - sumTo T' 32 : Nat) : Int)) ∧ Keeps [] wx w') := fun wx hk => (play_free (HPLN.out.keep (l := []) hk (by simp))).mono fun e w' he => ⟨he.1, he.2 ▸ Keeps.refl _ _⟩
            have HUS : Hid (∀ wx, Keeps [] w12 wx → Calls Tryz.prog 23 #[.agg (tabC T')] wx fun e w' => e = .returned (.int .i64 ((sumTo T' 32 : Nat) : Int)) ∧ Keeps [] wx w') := fun wx hk => used_at HTN.out.ok HTN.out.len HPLN.out.right.1 (HTE.out.keep (HPLN.out.keeps.1.trans' hk))
            have hsr := HPLN.out.right.2
            have hrm := HRM.out
            have HSUB : Hid ((room : Int) - ((sumTo T' 32 : Nat) : Int) = ((room - sumTo T' 32 : Nat) : Int) ∧ IntKind.i64.wrap ((room - sumTo T' 32 : Nat) : Int) = ((room - sumTo T' 32 : Nat) : Int)) := ⟨by omega, IntWalk.i64_in _ (by omega)⟩
            clear hdo hok' hlen' hk10 hg9 hpl hxy hpl9 q1 q2 q3 hk11 hk911 htv11 p1 p2 p3 hgpT hpl11 hsr hrm HDO HLT9 HLO9 HTV9 HOP9 HK09 HPD
            obtain ⟨ZS, hZS⟩ : ∃ ZS, tabC T' = ZS := ⟨_, rfl⟩
            rw [hZS] at HS11 HL11 HS12 HLT HUS ⊢
            clear hZS
            obtain ⟨fr, hfr⟩ : ∃ fr, room - sumTo T' 32 = fr := ⟨_, rfl⟩
            rw [hfr] at HFR HSUB
            obtain ⟨su, hsu⟩ : ∃ su, sumTo T' 32 = su := ⟨_, rfl⟩
            rw [hsu] at HUS HSUB
            clear hfr hsu
            go_wp2_with (first | ((with_reducible show wpList _ _ _ (⟨_, .store 48 (.tmp 14) (.tmp 84), _, _, _, _⟩ :: _) _ _); refine wpList_store_any rfl 48 (.tmp 14) (.tmp 84) rfl _ rfl _ rfl _ HS11.out ?_) | ((with_reducible show wpList _ _ _ (⟨_, .load 48 (.tmp 14), _, _, _, _⟩ :: _) _ _); refine wpList_load_any rfl 48 (.tmp 14) rfl _ rfl _ HL11.out ?_) | ((with_reducible show wpList _ _ _ (⟨_, .store 48 (.tmp 7) (.tmp 87), _, _, _, _⟩ :: _) _ _); refine wpList_store_any rfl 48 (.tmp 7) (.tmp 87) rfl _ rfl _ rfl _ HS12.out ?_))
            by_cases hr0 : r = 0
            · obtain rfl := HXY.out hr0
              subst hr0
              clear HXY HS11 HL11 HS12
              refine wp_region_each (S := fun wx => Keeps [] w12 wx) (by kernel_rfl) (by kernel_rfl) (fun d _ _ _ _ h => by cases d <;> exact h) ((Keeps.refl _ _).drew) (by kernel_rfl) ?_
              repeat (first
                | ((with_reducible show EachList _ _ _ _ (⟨some 104, _, _, _, _, _⟩ :: _) _); refine EachList.cons (.agg ZS) (EachIf.load rfl 48 (.tmp 7) rfl _ rfl fun wx hx => HLT.out wx hx) ?_; simp only [Act.put, List.setIfInBounds_toArray, List.set_cons_zero, List.set_cons_succ])
                | ((with_reducible show EachList _ _ _ _ (⟨some 102, _, _, _, _, _⟩ :: _) _); refine EachList.cons (.int .i64 (fr : Int)) (EachIf.call rfl 19 #[.pointer (some ⟨b, 0, none⟩)] ?he ?h) ?_; (case he => (intro wz; go_simp)); (case h => exact fun wx hx => (HFR.out wx hx).mono fun e w' he => ⟨he.1, hx.trans' he.2⟩); simp only [Act.put, List.setIfInBounds_toArray, List.set_cons_zero, List.set_cons_succ])
                | ((with_reducible show EachList _ _ _ _ (⟨some 105, _, _, _, _, _⟩ :: _) _); refine EachList.cons (.int .i64 (su : Int)) (EachIf.call rfl 23 #[.agg ZS] ?he ?h) ?_; (case he => (intro wz; go_simp)); (case h => exact fun wx hx => (HUS.out wx hx).mono fun e w' he => ⟨he.1, hx.trans' he.2⟩); simp only [Act.put, List.setIfInBounds_toArray, List.set_cons_zero, List.set_cons_succ])
                | ((with_reducible show EachList _ _ _ _ (⟨some 106, _, _, _, _, _⟩ :: _) _); refine EachList.cons (.int .i64 (fr : Int)) (EachIf.val rfl ?h) ?_; (case h => (intro wx hx; clear hx; go_simp; simp [HSUB.out.1, HSUB.out.2]; done)); simp only [Act.put, List.setIfInBounds_toArray, List.set_cons_zero, List.set_cons_succ])
                | (refine EachList.cons ?_ (EachIf.val rfl ?h) ?_; (case h => (intro wx hx; clear hx; go_simp; rfl)); simp only [Act.put, List.setIfInBounds_toArray, List.set_cons_zero, List.set_cons_succ]))
              refine EachList.done fun w13 hx => ?_
              have HI : Hid (PlayI W0 b gT B room (k + 1) w13) := ⟨gp9, T', HPLN.out.keep (l := []) hx (by simp), HGPT.out, HTN.out.keep hx (by simp), HTE.out⟩
              clear hx HLT HFR HUS HSUB HPLN HGPT HTN HTE
              go_wp2_with fail
              go_roundg gg
              case measure => omega
              case rel => exact ⟨k + 1, by omega, by go_num, HI.out⟩
            · have e0 : (r == 0) = false := by simpa using hr0
              clear HXY HS11 HL11 HS12 hr0
              refine wp_region_each (S := fun wx => Keeps [] w12 wx) (by kernel_rfl) (by kernel_rfl) (fun d _ _ _ _ h => by cases d <;> exact h) ((Keeps.refl _ _).drew) (by kernel_rfl) ?_
              repeat (first
                | ((with_reducible show EachList _ _ _ _ (⟨some 104, _, _, _, _, _⟩ :: _) _); refine EachList.cons (.agg ZS) (EachIf.load rfl 48 (.tmp 7) rfl _ rfl fun wx hx => HLT.out wx hx) ?_; simp only [Act.put, List.setIfInBounds_toArray, List.set_cons_zero, List.set_cons_succ])
                | ((with_reducible show EachList _ _ _ _ (⟨some 102, _, _, _, _, _⟩ :: _) _); refine EachList.cons (.int .i64 (fr : Int)) (EachIf.call rfl 19 #[.pointer (some ⟨b, 0, none⟩)] ?he ?h) ?_; (case he => (intro wz; go_simp)); (case h => exact fun wx hx => (HFR.out wx hx).mono fun e w' he => ⟨he.1, hx.trans' he.2⟩); simp only [Act.put, List.setIfInBounds_toArray, List.set_cons_zero, List.set_cons_succ])
                | ((with_reducible show EachList _ _ _ _ (⟨some 105, _, _, _, _, _⟩ :: _) _); refine EachList.cons (.int .i64 (su : Int)) (EachIf.call rfl 23 #[.agg ZS] ?he ?h) ?_; (case he => (intro wz; go_simp)); (case h => exact fun wx hx => (HUS.out wx hx).mono fun e w' he => ⟨he.1, hx.trans' he.2⟩); simp only [Act.put, List.setIfInBounds_toArray, List.set_cons_zero, List.set_cons_succ])
                | ((with_reducible show EachList _ _ _ _ (⟨some 106, _, _, _, _, _⟩ :: _) _); refine EachList.cons (.int .i64 (fr : Int)) (EachIf.val rfl ?h) ?_; (case h => (intro wx hx; clear hx; go_simp; simp [HSUB.out.1, HSUB.out.2]; done)); simp only [Act.put, List.setIfInBounds_toArray, List.set_cons_zero, List.set_cons_succ])
                | (refine EachList.cons undef (EachIf.off rfl) ?_; simp only [Act.put, List.setIfInBounds_toArray, List.set_cons_zero, List.set_cons_succ])
                | (refine EachList.cons ?_ (EachIf.val rfl ?h) ?_; (case h => (intro wx hx; clear hx; go_simp; rfl)); simp only [Act.put, List.setIfInBounds_toArray, List.set_cons_zero, List.set_cons_succ]))
              refine EachList.done fun w13 hx => ?_
              have HI : Hid (PlayI W0 b gT B room (k + 1) w13) := ⟨gp9, T', HPLN.out.keep (l := []) hx (by simp), HGPT.out, HTN.out.keep hx (by simp), HTE.out⟩
              clear hx HLT HFR HUS HSUB HPLN HGPT HTN HTE
              go_wp2_with fail
              go_roundg gg
              case measure => omega
              case rel => exact ⟨k + 1, by omega, by go_num, HI.out⟩
      | zero =>
        obtain rfl : k = mp := by omega
        obtain ⟨gp, T, hpl, hgT, htv, hte⟩ := HI.out
        have HPL := Lib.hid hpl
        have HTV := Lib.hid htv
        have HKE : Hid (∀ wx, Keeps [] wr wx → Keeps [] w wx) := fun wx hk => (HKW.out.trans' hpl.keeps.1).trans' hk
        have HTEE := Lib.hid (hte.keep hpl.keeps.1)
        clear hpl hgT htv hte HI hk HOG1
        generalize hwE : wr = wE at *
        clear hwE
        go_wp2_with fail
        go_loopg [17] 34 (fun gh s17 wx => ∃ (q : Nat) (z : Int), q + gh = 34 ∧ z = (q : Int) - 1 ∧ s17 = .int .i64 z ∧ Hid (Keeps [] wE wx))
        case atStart => exact ⟨0, -1, by omega, rfl, rfl, Keeps.refl _ _⟩
        case round =>
          obtain ⟨q, z, hq, hz, rfl, HP⟩ := hrel
          cases gk with
          | zero =>
            have hlt : ¬ z < 33 := by omega
            have HKF := Lib.hid (HKE.out wr HP.out)
            clear hq hz HPL HTV HKE HTEE
            go_wp2_with fail
            go_ret
            exact ⟨rfl, HKF.out⟩
          | succ gg =>
            have hlt : z < 33 := by omega
            have HZQ : Hid (q + (gg + 1) = 34 ∧ z = (q : Int) - 1) := ⟨hq, hz⟩
            have HGE := Lib.hid (play_get (HPL.out.keep (l := []) HP.out (by simp)) z)
            have hz0 : -1 ≤ z := by omega
            have hw1 : wrap64 (z + 1) = z + 1 := by unfold wrap64; omega
            have hw2 : IntKind.i64.wrap (z + 1) = z + 1 := IntWalk.i64_in _ (by omega)
            clear hq hz
            go_wp2_with fail
            refine HGE.out.mono ?_; rintro e w5 ⟨m, vm, gm, ao, c, co, r, rfl, hmB, hmE, hgt, hk5⟩
            obtain ⟨w6, q1, V6, hk6⟩ := got_var (n := m) (l := []) hmB hmE (by simp) (by simp)
            have HP6 : Hid (Keeps [] wE w6) := HP.out.trans' (hk5.trans' hk6)
            have HPL6 := Lib.hid (HPL.out.keep (l := []) HP6.out (by simp))
            have HTV6 := Lib.hid (HTV.out.keep HP6.out (by simp))
            rw [HZI0.out] at q1
            have HS6 := Lib.hid q1
            have HV6 := Lib.hid V6
            have HGT2 := Lib.hid hgt
            clear hmB hmE hgt hk5 hk6 q1 V6 HGE
            obtain ⟨ZM, hZM⟩ : ∃ ZM, inoC m vm = ZM := ⟨_, rfl⟩
            rw [hZM] at HS6 HV6 ⊢
            clear hZM
            by_cases hout : z < 0 ∨ 31 < z
            · have hr1 : r = 1 := by
                rcases HGT2.out with ⟨-, h, -⟩ | ⟨h, -⟩ | ⟨h, -⟩
                · exact h
                · omega
                · omega
              subst hr1
              have HFR := Lib.hid (play_isFree HPL6.out z)
              rw [decide_eq_false (show ¬ ((0 ≤ z ∧ z < 32) ∧ (nT T z.toNat).F = 0) from fun h => by omega)] at HFR
              clear HGT2 HV6
              have hcases : (z < 0) ∨ (¬ z < 0 ∧ 31 < z) := by omega
              clear hout
              rcases hcases with hn | ⟨hn, hp⟩
              all_goals
                go_wp2_with (((with_reducible show wpList _ _ _ (⟨_, .store 25 (.tmp 18) (.tmp 117), _, _, _, _⟩ :: _) _ _); refine wpList_store_any rfl 25 (.tmp 18) (.tmp 117) rfl _ rfl _ rfl _ HS6.out ?_))
                refine HFR.out.mono ?_; rintro e w7 ⟨rfl, hk7⟩
                have HP7 := Lib.hid (HP6.out.trans' hk7)
                clear hk7 HFR HS6
                go_wp2_with fail
                go_roundg gg
                case measure => omega
                case rel => exact ⟨q + 1, z + 1, by have := HZQ.out; omega, by have := HZQ.out; omega, by first | go_num | rw [hw1] | rw [hw2], HP7.out⟩
            · have hn : ¬ z < 0 := by omega
              have hp : ¬ 31 < z := by omega
              obtain ⟨j, rfl⟩ := Int.eq_ofNat_of_zero_le (show 0 ≤ z by omega)
              have hj : j < 32 := by omega
              have hj0 : (0 : Int) ≤ (j : Int) := by omega
              have hj1 : (j : Int) < 32 := by omega
              have hj31 : (j : Int) ≤ 31 := by omega
              have cF := HTV6.out.form hj
              clear hout
              by_cases hF : (nT T j).F = 0
              · rw [hF] at cF
                have hr2 : r = 2 := by
                  rcases HGT2.out with ⟨h, -⟩ | ⟨-, -, h, -⟩ | ⟨-, h, -⟩
                  · exact absurd ⟨hj0, hj1⟩ h
                  · exact h
                  · rw [Int.toNat_natCast] at h; omega
                subst hr2
                have HFR := Lib.hid (play_isFree HPL6.out (j : Int))
                rw [decide_eq_true (show ((0 ≤ (j : Int) ∧ (j : Int) < 32) ∧ (nT T (j : Int).toNat).F = 0) from ⟨⟨hj0, hj1⟩, by rw [Int.toNat_natCast]; exact hF⟩)] at HFR
                have hn0 : needT T j = 0 := if_neg (by omega)
                have HN0 := Lib.hid hn0
                clear HGT2 HV6 hF hn0
                go_wp2_with (((with_reducible show wpList _ _ _ (⟨_, .store 25 (.tmp 18) (.tmp 117), _, _, _, _⟩ :: _) _ _); refine wpList_store_any rfl 25 (.tmp 18) (.tmp 117) rfl _ rfl _ rfl _ HS6.out ?_))
                refine HFR.out.mono ?_; rintro e w7 ⟨rfl, hk7⟩
                have HAL := Lib.hid (play_all (HPL6.out.keep (l := []) hk7 (by simp)) hj)
                rw [HN0.out] at HAL
                have HP7 := Lib.hid (HP6.out.trans' hk7)
                clear hk7 HFR HS6
                go_wp2_with fail
                refine HAL.out.mono ?_; rintro e w8 ⟨aa, ca, rfl, hk8⟩
                have HP8 := Lib.hid (HP7.out.trans' hk8)
                clear hk8 HAL
                go_wp2_with fail
                go_roundg gg
                case measure => omega
                case rel => exact ⟨q + 1, (j : Int) + 1, by have := HZQ.out; omega, by have := HZQ.out; omega, by first | go_num | rw [hw1] | rw [hw2], HP8.out⟩
              · have e0 : ((nT T j).F == 0) = false := by simpa using hF
                have hg3 : r = 0 ∧ 0 < (nT T j).F ∧ m = nT T j ∧ c = needA m := by
                  rcases HGT2.out with ⟨h, -⟩ | ⟨-, h, -⟩ | ⟨-, h1, h2, h3, h4⟩
                  · exact absurd ⟨hj0, hj1⟩ h
                  · rw [Int.toNat_natCast] at h; exact absurd h hF
                  · rw [Int.toNat_natCast] at h1 h3
                    exact ⟨h2, h1, h3, h4⟩
                obtain ⟨rfl, hpos, hme, hcc⟩ := hg3
                have hRm : RightP m := by rw [hme]; exact HPL6.out.right.1 j hj hpos
                obtain ⟨gj, hej⟩ := HTEE.out j hj
                have HVJ : Hid (∀ wx, Keeps [] w6 wx → Calls Tryz.prog 18 #[.agg ZM, .agg (inoC (nT T j) (vT T j))] wx fun e w' => e = .returned (.bool true) ∧ Keeps [] wx w') := fun wx hk => by
                  have hv := HV6.out.keep hk
                  obtain ⟨g6, he6, -⟩ := hv.ent
                  rw [hv.eq, ← hme]
                  exact refSame_at m vm (vT T j) g6 gj hv.len wx he6 (by rw [hme]; exact hej.keep (HP6.out.trans' hk) (by simp))
                have hnt : needT T j = needA m := by rw [hme]; exact if_pos hpos
                have HND : Hid (∀ wx, Keeps [] w6 wx → Calls Tryz.prog 15 #[.agg ZM] wx fun e w' => e = .returned (.int .i64 ((needA m : Nat) : Int)) ∧ Keeps [] wx w') := fun wx hk => need_var (HV6.out.keep hk) hRm
                have HAL : Hid (∀ wx, Keeps [] w6 wx → Calls Tryz.prog 24 #[.pointer (some ⟨b, 0, none⟩), .int .i64 (j : Int)] wx fun e w' => ∃ a cap, e = .returned (.slice a (needA m) cap) ∧ Keeps [] wx w') := fun wx hk => by
                  have := play_all (HPL6.out.keep (l := []) hk (by simp)) hj
                  rwa [hnt] at this
                have HLM : Hid (∀ wx, Keeps [] w6 wx → (loadVar 25 ⟨w5.heap.size, 0, none⟩).run Tryz.prog wx = .ok (.agg ZM) wx) := fun wx hk => (HV6.out.keep hk).load
                have HLJ : Hid (∀ wx, Keeps [] w6 wx → (loadVar 25 ⟨gT, j * 18, none⟩).run Tryz.prog wx = .ok (.agg (inoC (nT T j) (vT T j))) wx) := fun wx hk => (HTV6.out.keep hk (by simp)).loadI hj
                clear HGT2 HV6 hpos hRm hej hnt hF HTEE
                generalize inoC (nT T j) (vT T j) = ZJ at *
                generalize (nT T j).F = fj at cF e0
                have HSM := HVJ
                clear HVJ hme
                rw [← hcc] at HND HAL
                clear hcc
                go_wp2_with (((with_reducible show wpList _ _ _ (⟨_, .store 25 (.tmp 18) (.tmp 117), _, _, _, _⟩ :: _) _ _); refine wpList_store_any rfl 25 (.tmp 18) (.tmp 117) rfl _ rfl _ rfl _ HS6.out ?_))
                refine wp_region_loose ((List.range 20) ++ [22, 23]) [20, 21, 24, 25] 25 (l := [_, _, _, _, _, _, _, _, _, _, _, _, _, _, _, _, _, _, _, _, _, _]) (o := _) (rest := [_, _, _]) (S := fun wx => Keeps [] w6 wx) (by kernel_rfl) (by kernel_rfl) (by kernel_rfl) rfl rfl (by kernel_rfl) rfl rfl rfl (fun d _ _ _ _ h => by cases d <;> exact h) ((Keeps.refl _ _).drew) ?_
                simp only [List.getElem_toArray, List.getElem_cons_succ, List.getElem_cons_zero]
                repeat (first
                  | ((with_reducible show EachList _ _ _ _ (⟨some 156, _, _, _, _, _⟩ :: _) _); refine EachList.cons (.agg ZM) (EachIf.load rfl 25 (.tmp 18) rfl _ rfl fun wx hx => HLM.out wx hx) ?_; simp only [Act.put, List.setIfInBounds_toArray, List.set_cons_zero, List.set_cons_succ])
                  | ((with_reducible show EachList _ _ _ _ (⟨some 159, _, _, _, _, _⟩ :: _) _); refine EachList.cons (.agg ZJ) (EachIf.load rfl 25 (.tmp 158) rfl _ rfl fun wx hx => HLJ.out wx hx) ?_; simp only [Act.put, List.setIfInBounds_toArray, List.set_cons_zero, List.set_cons_succ])
                  | ((with_reducible show EachList _ _ _ _ (⟨some 160, _, _, _, _, _⟩ :: _) _); refine EachList.cons (.bool true) (EachIf.call rfl 18 #[.agg ZM, .agg ZJ] ?he ?h) ?_; (case he => (intro wz; go_simp)); (case h => exact fun wx hx => (HSM.out wx hx).mono fun e w' he => ⟨he.1, hx.trans' he.2⟩); simp only [Act.put, List.setIfInBounds_toArray, List.set_cons_zero, List.set_cons_succ])
                  | ((with_reducible show EachList _ _ _ _ (⟨some 166, _, _, _, _, _⟩ :: _) _); refine EachList.cons (.agg ZM) (EachIf.load rfl 25 (.tmp 18) rfl _ rfl fun wx hx => HLM.out wx hx) ?_; simp only [Act.put, List.setIfInBounds_toArray, List.set_cons_zero, List.set_cons_succ])
                  | ((with_reducible show EachList _ _ _ _ (⟨some 167, _, _, _, _, _⟩ :: _) _); refine EachList.cons (.int .i64 (c : Int)) (EachIf.call rfl 15 #[.agg ZM] ?he ?h) ?_; (case he => (intro wz; go_simp)); (case h => exact fun wx hx => (HND.out wx hx).mono fun e w' he => ⟨he.1, hx.trans' he.2⟩); simp only [Act.put, List.setIfInBounds_toArray, List.set_cons_zero, List.set_cons_succ])
                  | (refine EachList.cons ?_ (EachIf.val rfl ?h) ?_; (case h => (intro wx hx; clear hx; go_simp; rfl)); simp only [Act.put, List.setIfInBounds_toArray, List.set_cons_zero, List.set_cons_succ]))
                refine EachList.done fun w7 hx => ?_
                have HX7 := Lib.hid hx
                clear hx
                go_wp2_with fail
                refine (HAL.out w7 HX7.out).mono ?_; rintro e w8 ⟨aa, ca, rfl, hk8⟩
                have HX8 := Lib.hid (HX7.out.trans' hk8)
                clear hk8 HAL HX7
                go_wp2_with fail
                refine ⟨HX8.out, fun wy hy => ?_⟩
                have HY := Lib.hid hy
                clear hy
                go_wp2_with fail
                refine ⟨HY.out, fun wz hz => ?_⟩
                have HZ := Lib.hid hz
                clear hz
                go_wp2_with fail
                refine ⟨HZ.out, fun wu hu => ?_⟩
                have HU := Lib.hid hu
                clear hu
                go_wp2_with fail
                refine ⟨HU.out, fun wv hv => ?_⟩
                have HP9 := Lib.hid (HP6.out.trans' hv)
                clear hv HX8 HY HZ HU HSM HND HLM HLJ HS6
                go_wp2_with fail
                go_roundg gg
                case measure => omega
                case rel => exact ⟨q + 1, (j : Int) + 1, by have := HZQ.out; omega, by have := HZQ.out; omega, by first | go_num | rw [hw1] | rw [hw2], HP9.out⟩

end Go.Proofs.YtblnnedkfkiofaaGreatDoor

namespace Go.Proofs.YtblnnedkfkiofaaGreatDoor
open Go.ChangeShapes Go.WideShapes Go.ChangeAt Go.WideMaps Go.WideElems Go.RowKit

theorem Tryz.gTab : Tryz.prog.globalNamed "math/bits.deBruijn64tab" = some 0 := by kernel_rfl
theorem Tryz.tTab : (Tryz.prog.globals[0]?).map (·.type) = some 104 := by kernel_rfl
theorem Tryz.cells_u8 : Tryz.prog.cellsOf 5 = 1 := by kernel_rfl
theorem Tryz.cells_u64 : Tryz.prog.cellsOf 31 = 1 := by kernel_rfl
theorem Tryz.cells_w4 : Tryz.prog.cellsOf 32 = 4 := by kernel_rfl

theorem tabList {H : Type} : Rows.laid_math_bits_deBruijn64tab (H := H) = .agg (Lib.deBruijn64tab.map fun n : Nat => .lit (.int .u8 (n : Int))) := rfl

/-- What the condition gives the walks. -/
theorem tab_of_laid {W : World} (h : laidMetH Tryz.prog [("math/bits.deBruijn64tab", Rows.laid_math_bits_deBruijn64tab)] W) : TabAt W := by
  rw [MakeChecks.laidMetH_plain _ _ _ (by kernel_rfl)] at h
  obtain ⟨ps, ⟨g0, t0, cs0, f0, p0, q0, hg0, ht0, hv0, hd0, _, _⟩, _, _⟩ := h
  obtain rfl := Option.some.inj (Tryz.gTab.symm.trans hg0)
  obtain rfl := Option.some.inj (Tryz.tTab.symm.trans ht0)
  obtain ⟨xs, m, rfl, hx, hlen, hn, hel⟩ := DataW.trod_array Tryz.underlying104 hd0
  rw [tabList] at hx
  simp only [Prod.mk.injEq, DataW.agg.injEq] at hx
  intro j hj
  have hj' := hel j hj
  rw [Tryz.cells_u8, Nat.mul_one] at hj'
  cases hxj : xs[j]? with
  | none => rw [List.getElem?_eq_none_iff] at hxj; omega
  | some y =>
    rw [hxj] at hj'
    have hlen' : ((cs0.toList.drop j).take 1).length = 1 := by
      rw [List.length_take, List.length_drop]
      have h64 : Tryz.prog.cellsOf 104 = 64 := by kernel_rfl
      rw [h64] at hlen
      omega
    obtain ⟨c, hc⟩ : ∃ c, (cs0.toList.drop j).take 1 = [c] := by
      match (cs0.toList.drop j).take 1, hlen' with
      | [c], _ => exact ⟨c, rfl⟩
    rw [hc] at hj'
    obtain ⟨k, e1, e2, _⟩ := DataW.trod_int Tryz.underlying5 hj'
    have hk : (xs.map (·.1))[j]? = some (.lit (.int .u8 k)) := by rw [List.getElem?_map, hxj, e2]; rfl
    rw [← hx.1, List.getElem?_map] at hk
    have hjl : j < Lib.deBruijn64tab.length := hj
    rw [List.getElem?_eq_getElem hjl] at hk
    have hk2 : k = ((Lib.deBruijn64tab.getD j 0 : Nat) : Int) := by
      have : ((Lib.deBruijn64tab[j] : Nat) : Int) = k := by simpa using hk
      rw [← this, List.getD_eq_getElem?_getD, List.getElem?_eq_getElem hjl]
      rfl
    have hcell := World.var?_cell hg0 hv0 j
    rw [hcell, ← hk2]
    have h3 : ((cs0.toList.drop j).take 1)[0]? = some c := by rw [hc]; rfl
    rw [List.getElem?_take, if_pos (by omega), List.getElem?_drop, Nat.add_zero, Array.getElem?_toList] at h3
    rw [h3]
    simp only [List.cons.injEq, and_true] at e1
    rw [e1]

set_option maxRecDepth 100000 in
/-- The start meets the condition. -/
theorem door_met (os : Os) (args : Array Value) : laidMetH Tryz.prog [("math/bits.deBruijn64tab", Rows.laid_math_bits_deBruijn64tab)] ((World.doorLaid Tryz.prog 400 os).forCall (fun _ _ => 0) ⟨#[], args, []⟩).memory :=
  laidMetH_of_parts3 (fuel := 8) (laidMet_of_run' 8 (by kernel_rfl) (by kernel_rfl)) (by kernel_rfl) (by kernel_rfl)

set_option maxRecDepth 100000 in
/-- An array of four words, as it was read. -/
theorem open_w4 {H : Type} {enc : TypeId × Value → H} {W : World} {base b0 : Nat} {spare : Nat → Bool} {held : Bool} {v : Value} {d : DataW H} {p : List MemPlace} (hval : Value.okWide Tryz.prog W .any b0 32 v)
    (h : DataW.Trod enc Tryz.prog W base spare held 32 v d p) : ∃ ws : List Nat, v = .agg (w4 ws) ∧ ∀ i, ws.getD i 0 < 18446744073709551616 := by
  obtain ⟨cs, rfl, hsz, _⟩ : ∃ cs, v = .agg cs ∧ cs.size = Tryz.prog.cellsOf 32 ∧ Row.okWide Tryz.prog W .any b0 32 cs := by
    simpa [Value.okWide, Tryz.underlying32] using hval
  rw [Tryz.cells_w4] at hsz
  obtain ⟨l⟩ := cs
  obtain ⟨c0, c1, c2, c3, rfl⟩ : ∃ c0 c1 c2 c3, l = [c0, c1, c2, c3] := by
    match l, hsz with
    | [a, b, c, d], _ => exact ⟨a, b, c, d, rfl⟩
  obtain ⟨fuel, hf⟩ := h
  obtain ⟨y0, y1, y2, y3, m, hx, hy0, hy1, hy2, hy3⟩ := trod_array4 Tryz.underlying32 Tryz.cells_u64 hf
  obtain ⟨x0, e0, -, w0⟩ := DataW.trod_int Tryz.underlying31 hy0
  obtain ⟨x1, e1, -, w1⟩ := DataW.trod_int Tryz.underlying31 hy1
  obtain ⟨x2, e2, -, w2⟩ := DataW.trod_int Tryz.underlying31 hy2
  obtain ⟨x3, e3, -, w3⟩ := DataW.trod_int Tryz.underlying31 hy3
  simp only [List.cons.injEq, and_true] at e0 e1 e2 e3
  subst e0 e1 e2 e3
  have b0 := bounds_u64 w0
  have b1 := bounds_u64 w1
  have b2 := bounds_u64 w2
  have b3 := bounds_u64 w3
  obtain ⟨n0, rfl⟩ := Int.eq_ofNat_of_zero_le b0.1
  obtain ⟨n1, rfl⟩ := Int.eq_ofNat_of_zero_le b1.1
  obtain ⟨n2, rfl⟩ := Int.eq_ofNat_of_zero_le b2.1
  obtain ⟨n3, rfl⟩ := Int.eq_ofNat_of_zero_le b3.1
  refine ⟨[n0, n1, n2, n3], rfl, fun i => ?_⟩
  rcases (show i = 0 ∨ i = 1 ∨ i = 2 ∨ i = 3 ∨ 4 ≤ i by omega) with rfl | rfl | rfl | rfl | hi
  · show n0 < _; omega
  · show n1 < _; omega
  · show n2 < _; omega
  · show n3 < _; omega
  · rw [List.getD_eq_getElem?_getD, List.getElem?_eq_none (by simpa using hi)]
    simp

end Go.Proofs.YtblnnedkfkiofaaGreatDoor
