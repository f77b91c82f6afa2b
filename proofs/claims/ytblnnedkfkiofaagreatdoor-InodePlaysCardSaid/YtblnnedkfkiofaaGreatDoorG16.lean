/-
  Layer 8, the reference's table: Do. Layer 8: an inode without its blocks (empty); the law InodeSpace: the sheet behind each call. Layer 8, plain: the words behind a row of operations, held against the reference's table.
-/
import Derived.Test.YtblnnedkfkiofaaGreatDoorG14
import Derived.Test.YtblnnedkfkiofaaGreatDoorG15
import Derived.Test.YtblnnedkfkiofaaGreatDoorG03
import Derived.Test.YtblnnedkfkiofaaGreatDoorG07
import Derived.Test.YtblnnedkfkiofaaGreatDoorG08
namespace Go.Proofs.YtblnnedkfkiofaaGreatDoor
open Go.RowKit

/-- What a put does to the table. -/
def PutTR (T : List (Ino × Value)) (room : Nat) (i : Int) (n : Ino) (v : Value) (T' : List (Ino × Value)) (m f : Int) : Prop :=
  (¬ ((0 ≤ i ∧ i < 32) ∧ RightP n) ∧ T' = T ∧ m = 0 ∧ f = 1) ∨
  (((0 ≤ i ∧ i < 32) ∧ RightP n) ∧ room + needT T i.toNat < needA n + sumTo T 32 ∧ T' = T ∧ m = 0 ∧ f = 7) ∨
  (((0 ≤ i ∧ i < 32) ∧ RightP n) ∧ needA n + sumTo T 32 ≤ room + needT T i.toNat ∧ T' = T.set i.toNat (n, v) ∧ m = i ∧ f = 0)

/-- What an operation does to the table. -/
def DoR (T : List (Ino × Value)) (room : Nat) (k i : Int) (n : Ino) (v : Value) (T' : List (Ino × Value)) (m f : Int) : Prop :=
  (k % 3 = 0 ∧ PutTR T room i n v T' m f) ∨
  (k % 3 = 1 ∧ ∃ r, FirstR T r ∧ ((r = -1 ∧ T' = T ∧ m = 0 ∧ f = 7) ∨ (0 ≤ r ∧ PutTR T room r n v T' m f))) ∨
  (k % 3 = 2 ∧ ((¬ (0 ≤ i ∧ i < 32) ∧ T' = T ∧ m = 0 ∧ f = 1) ∨ ((0 ≤ i ∧ i < 32) ∧ (nT T i.toNat).F = 0 ∧ T' = T ∧ m = 0 ∧ f = 2) ∨ ((0 ≤ i ∧ i < 32) ∧ (nT T i.toNat).F ≠ 0 ∧ T' = T.set i.toNat (inoZ, .slice none 0 0) ∧ m = 0 ∧ f = 0)))

/-- What Do leaves. -/
def DoPost (w : World) (T : List (Ino × Value)) (room : Nat) (k i : Int) (n : Ino) (v : Value) (e : Ending) (w' : World) : Prop :=
  ∃ T' m f, e = .returned (.tuple #[.agg (tabC T'), .int .i64 m, .int .i64 f]) ∧ DoR T room k i n v T' m f ∧ TabOk T' ∧ T'.length = 32 ∧ Keeps [] w w'

theorem tab_lit_ino : inoC inoZ (.slice none 0 0) = #[.int .i64 0, .int .i64 0, .int .i64 0, .int .i64 0, .int .i64 0, .int .i64 0, .int .i64 0, .int .i64 0, .int .i64 0, .int .i64 0, .int .i64 0, .int .i64 0, .int .i64 0, .int .i64 0, .int .i64 0, .int .i64 0, .int .i64 0, .slice none 0 0] := rfl

set_option maxRecDepth 100000 in
set_option maxHeartbeats 16000000 in
theorem do_at {w : World} {T : List (Ino × Value)} (hok : TabOk T) (hlen : T.length = 32) (hTR : TabR T) (hTE : TabE w T) (room : Nat) (hrm : room ≤ 255) (k i : Int) (hk : 0 ≤ k ∧ k < 256) (n : Ino) (v : Value) (g : Nat) (hB : n.B.length = 13) (hE : EReads w v g n.E)
    (hN : ∀ k, k < n.E.length → (enm n.E k).size ≤ 9223372036854775807) :
    Calls Tryz.prog 22 #[.agg (tabC T), .agg (opC k i n v), .int .i64 (room : Int)] w (DoPost w T room k i n v) := by
  have hmod : k.tmod 3 = k % 3 := Int.tmod_eq_emod_of_nonneg hk.1
  have hb3 := ((Blk.new w (tabC T) 48).alloc (.cells (opC k i n v) 50)).alloc (.cells (tabC tab0) 48)
  have hb4 := (Blk.new (w.alloc (.cells (tabC T) 48)) (opC k i n v) 50).alloc (.cells (tabC tab0) 48)
  have hb6 := Blk.new ((w.alloc (.cells (tabC T) 48)).alloc (.cells (opC k i n v) 50)) (tabC tab0) 48
  have hk0 : Keeps [] w (((w.alloc (.cells (tabC T) 48)).alloc (.cells (opC k i n v) 50)).alloc (.cells (tabC tab0) 48)) := (((Keeps.refl _ _).alloc _).alloc _).alloc _
  rw [show (w.alloc (.cells (tabC T) 48)).heap.size = w.heap.size + 1 by simp] at hb4
  rw [show ((w.alloc (.cells (tabC T) 48)).alloc (.cells (opC k i n v) 50)).heap.size = w.heap.size + 1 + 1 by simp] at hb6
  obtain ⟨W0, hW0⟩ : ∃ W0, ((w.alloc (.cells (tabC T) 48)).alloc (.cells (opC k i n v) 50)).alloc (.cells (tabC tab0) 48) = W0 := ⟨_, rfl⟩
  rw [hW0] at hb3 hb4 hb6 hk0
  have HTV : Hid (∀ wx, Keeps [] W0 wx → TabAtV wx w.heap.size T) := fun wx hk => ⟨hb3.keep hk (by simp), hok, hlen⟩
  have hop : OpAt W0 (w.heap.size + 1) k i n v := ⟨hb4, hB⟩
  have HBR : Hid (∀ wx, Keeps [] W0 wx → Blk wx (w.heap.size + 1 + 1) (tabC tab0) 48) := fun wx hk => hb6.keep hk (by simp)
  have HT0 : Hid ((tabC tab0).size = 576) := tabC_size tab0_ok (by simp [tab0])
  have c40 := hop.kind
  have c41 := hop.idx
  rw [← hW0] at c40 c41
  have HLD : Hid (∀ wx, Keeps [] W0 wx → (loadVar 48 ⟨w.heap.size, 0, none⟩).run Tryz.prog wx = .ok (.agg (tabC T)) wx) := fun wx hk => (HTV.out wx hk).load
  have HLN : Hid (∀ wx, Keeps [] W0 wx → (loadVar 25 ⟨w.heap.size + 1, 2, none⟩).run Tryz.prog wx = .ok (.agg (inoC n v)) wx) := fun wx hk => (hop.keep hk (by simp)).loadI
  have HLI : Hid (∀ wx, Keeps [] W0 wx → ∀ i, i < 32 → (loadVar 25 ⟨w.heap.size, i * 18, none⟩).run Tryz.prog wx = .ok (.agg (inoC (nT T i) (vT T i))) wx) := fun wx hk i hi => (HTV.out wx hk).loadI hi
  have HFO : Hid (∀ wx, Keeps [] W0 wx → ∀ i, i < 32 → wx.cell? ⟨w.heap.size, i * 18, none⟩ = some (.int .i64 (nT T i).F)) := fun wx hk i hi => (HTV.out wx hk).form hi
  have HRT : Hid (∀ wx, Keeps [] W0 wx → Calls Tryz.prog 9 #[.agg (inoC n v)] wx fun e w' => e = .returned (.bool (decide (RightP n))) ∧ Keeps [] wx w') := fun wx hk => refRight_at n v g hB wx (hE.keep (hk0.trans' hk) (by simp)) hN
  have HND : Hid (RightP n → ∀ wx, Keeps [] W0 wx → Calls Tryz.prog 15 #[.agg (inoC n v)] wx fun e w' => e = .returned (.int .i64 ((needA n : Nat) : Int)) ∧ Keeps [] wx w') := fun hR wx hk => need8_at n v g hB hR wx (hE.keep (hk0.trans' hk) (by simp))
  have HNT : Hid (∀ wx, Keeps [] W0 wx → ∀ i, i < 32 → 0 < (nT T i).F → Calls Tryz.prog 15 #[.agg (inoC (nT T i) (vT T i))] wx fun e w' => e = .returned (.int .i64 ((needT T i : Nat) : Int)) ∧ Keeps [] wx w') := fun wx hk i hi hf => by
    obtain ⟨g, he⟩ := hTE i hi
    have := need8_at (nT T i) (vT T i) g (nT_len hok i) (hTR i hi hf) wx (he.keep (hk0.trans' hk) (by simp))
    rwa [show needA (nT T i) = needT T i from (if_pos hf).symm] at this
  have HUS : Hid (∀ wx, Keeps [] W0 wx → Calls Tryz.prog 23 #[.agg (tabC T)] wx fun e w' => e = .returned (.int .i64 ((sumTo T 32 : Nat) : Int)) ∧ Keeps [] wx w') := fun wx hk => used_at hok hlen hTR (hTE.keep (hk0.trans' hk))
  have HFI : Hid (∀ wx, Keeps [] W0 wx → Calls Tryz.prog 45 #[.agg (tabC T)] wx fun e w' => ∃ r, e = .returned (.int .i64 r) ∧ FirstR T r ∧ Keeps [] wx w') := fun wx hk => first_at hok hlen
  have HSL : Hid (sumTo T 32 ≤ 1024) := by have := sumTo_le hTR 32 (by omega); show _ ≤ _; omega
  have HNLE := Lib.hid (fun i hi => needT_le hTR (i := i) hi)
  have HRM := Lib.hid hrm
  have HFIN : Hid (∀ wx, Keeps [] W0 wx → ∃ w', (storeVar 48 ⟨w.heap.size + 1 + 1, 0, none⟩ (.agg (tabC T))).run Tryz.prog wx = .ok () w' ∧ (loadVar 48 ⟨w.heap.size + 1 + 1, 0, none⟩).run Tryz.prog w' = .ok (.agg (tabC T)) w' ∧ Keeps [] w w') := fun wx hk => by
    obtain ⟨w', q1, q2, q3⟩ := store_tab (T := T) (HBR.out wx hk) HT0.out hok hlen
    exact ⟨w', q1, q2.load, (hk0.trans' hk).trans q3 (by intro x hx; rw [List.mem_singleton] at hx; omega)⟩
  have HTOK := Lib.hid hok
  have HTLEN := Lib.hid hlen
  have HBN := Lib.hid hB
  have HV1 : Hid (v.oneCell' = true) := reads_one hE
  have HK0 := Lib.hid hk0
  have HW0 := Lib.hid hW0
  have hzt := zero_tab
  clear hok hlen hTR hTE hrm hB hE hN hk0 hW0 hb3 hb4 hb6 hop
  obtain ⟨ZN, hZN⟩ : ∃ ZN, inoC n v = ZN := ⟨_, rfl⟩
  obtain ⟨ZT, hZT⟩ : ∃ ZT, tabC T = ZT := ⟨_, rfl⟩
  rw [hZN] at HLN HRT HND
  have HZN := Lib.hid hZN
  have HZT := Lib.hid hZT
  rw [hZT] at HLD HUS HFI HFIN HW0 c40 c41 ⊢
  obtain ⟨Z0, hZ0⟩ : ∃ Z0, tabC tab0 = Z0 := ⟨_, rfl⟩
  rw [hZ0] at HBR HT0 HW0 c40 c41
  have hzt2 : ∀ w : World, (zeroValue 48).run Tryz.prog w = .ok (.agg Z0) w := fun w => by rw [← hZ0]; exact hzt w
  obtain ⟨ZO, hZO⟩ : ∃ ZO, opC k i n v = ZO := ⟨_, rfl⟩
  rw [hZO] at HW0 c40 c41 ⊢
  clear hzt hZN hZT hZ0 hZO
  rcases (show k % 3 = 0 ∨ k % 3 = 1 ∨ k % 3 = 2 by omega) with hm | hm | hm
  · rw [hm] at hmod
    obtain ⟨ix, hix⟩ : ∃ ix, ix = i := ⟨_, rfl⟩
    have HIX := Lib.hid hix
    rw [← hix] at c41
    have HD : Hid (∀ T' m f, PutTR T room ix n v T' m f → DoR T room k i n v T' m f) := fun T' m f h => by rw [HIX.out] at h; exact .inl ⟨hm, h⟩
    have HM := Lib.hid hm
    clear HFI hix hm
    go_enter Tryz.func22, Tryz.ntmps22
    by_cases hi : 0 ≤ ix ∧ ix < 32
    · have hi1 : ¬ ix < 0 := by omega
      have hi2 : ¬ 31 < ix := by omega
      have HLN1 := Lib.hid (HLN.out W0 (Keeps.refl [] W0))
      have HRT1 := Lib.hid (HRT.out W0 (Keeps.refl [] W0))
      by_cases hR : RightP n
      · rw [decide_eq_true hR] at HRT1
        obtain ⟨j, rfl⟩ := Int.eq_ofNat_of_zero_le hi.1
        have hj : j < 32 := by omega
        have hj0 : (0 : Int) ≤ (j : Int) := by omega
        have hj1 : (j : Int) < 32 := by omega
        have hj31 : (j : Int) ≤ 31 := by omega
        go_wp2_with ((with_reducible show wpList _ _ _ (⟨_, .load 25 (.tmp 49), _, _, _, _⟩ :: _) _ _); (try rw [HW0.out]); refine wpList_load_want (by first | rfl | (simp [Region.wanted, yielded]; done) | (simp [Region.wanted, yielded]; omega)) 25 (.tmp 49) rfl _ rfl _ HLN1.out ?_)
        refine HRT1.out.mono ?_; rintro e wA ⟨rfl, hkA⟩
        have HKA := Lib.hid ((Keeps.refl [] W0).trans' hkA)
        have cA := HFO.out wA HKA.out j hj
        clear hkA HRT1 HLN1
        by_cases hf : 0 < (nT T j).F
        · have HNA := Lib.hid (HNT.out wA HKA.out j hj hf)
          have HLA := Lib.hid (HLI.out wA HKA.out j hj)
          generalize inoC (nT T j) (vT T j) = ZI at *
          have hcmp : (0 : Int) < (nT T j).F := hf
          clear hf
          obtain ⟨fj, hfj⟩ : ∃ fj, (nT T j).F = fj := ⟨_, rfl⟩
          rw [hfj] at cA hcmp
          go_wp2_with (((with_reducible show wpList _ _ _ (⟨_, .load 25 (.tmp 61), _, _, _, _⟩ :: _) _ _); (try rw [HW0.out]); refine wpList_load_any rfl 25 (.tmp 61) rfl _ rfl _ HLA.out ?_))
          refine HNA.out.mono ?_; rintro e wB ⟨rfl, hkB⟩
          have HKB := Lib.hid (HKA.out.trans' hkB)
          clear hkB HNA HLA hcmp cA hfj
          have HNN := Lib.hid (HND.out hR)
          have HUS2 := HUS
          have HSUM : Hid (∀ z : Int, -3000 ≤ z → z ≤ 3000 → wrap64 z = z ∧ IntKind.i64.wrap z = z) := fun z h1 h2 => ⟨by unfold wrap64; omega, IntWalk.i64_in _ (by omega)⟩
          have hs1 := HSL.out
          have hs2 := HNLE.out j hj
          have hna := needA_le hR
          obtain ⟨a1, a2⟩ := HSUM.out ((room : Int) - ((sumTo T 32 : Nat) : Int)) (by have := HRM.out; omega) (by have := HRM.out; omega)
          obtain ⟨a3, a4⟩ := HSUM.out ((room : Int) - ((sumTo T 32 : Nat) : Int) + ((needT T j : Nat) : Int)) (by have := HRM.out; omega) (by have := HRM.out; omega)
          obtain ⟨cb, hcb⟩ : ∃ cb, cb = decide ((room : Int) - ((sumTo T 32 : Nat) : Int) + ((needT T j : Nat) : Int) < ((needA n : Nat) : Int)) := ⟨_, rfl⟩
          have HCB := Lib.hid hcb
          have HSS := Lib.hid (show (needT T j : Int) = ((needT T j : Nat) : Int) from rfl)
          clear hs1 hs2 hna hcb HSUM
          obtain ⟨su, hsu⟩ : ∃ su, sumTo T 32 = su := ⟨_, rfl⟩
          obtain ⟨na, hna⟩ : ∃ na, needA n = na := ⟨_, rfl⟩
          rw [hsu] at a1 a2 a3 a4 HCB HUS
          rw [hna] at HCB HNN
          obtain ⟨ol, hol⟩ : ∃ ol, needT T j = ol := ⟨_, rfl⟩
          rw [hol] at a3 a4 HCB HSS ⊢
          go_wp2_with fail
          refine wp_region_each (S := fun wx => Keeps [] wB wx) (by kernel_rfl) (by kernel_rfl) (fun d _ _ _ _ h => by cases d <;> exact h) ((Keeps.refl _ _).drew) (by kernel_rfl) ?_
          repeat (first
            | ((with_reducible show EachList _ _ _ _ (⟨some 65, _, _, _, _, _⟩ :: _) _); refine EachList.cons (.agg ZN) (EachIf.load rfl 25 (.tmp 64) rfl _ rfl fun wx hx => HLN.out wx (HKB.out.trans' hx)) ?_; simp only [Act.put, List.setIfInBounds_toArray, List.set_cons_zero, List.set_cons_succ])
            | ((with_reducible show EachList _ _ _ _ (⟨some 68, _, _, _, _, _⟩ :: _) _); refine EachList.cons (.agg ZT) (EachIf.load rfl 48 (.tmp 3) rfl _ rfl fun wx hx => HLD.out wx (HKB.out.trans' hx)) ?_; simp only [Act.put, List.setIfInBounds_toArray, List.set_cons_zero, List.set_cons_succ])
            | ((with_reducible show EachList _ _ _ _ (⟨some 66, _, _, _, _, _⟩ :: _) _); refine EachList.cons (.int .i64 ((na : Nat) : Int)) (EachIf.call rfl 15 #[.agg ZN] ?he ?h) ?_; (case he => (intro wz; go_simp)); (case h => exact fun wx hx => (HNN.out wx (HKB.out.trans' hx)).mono fun e w' he => ⟨he.1, hx.trans' he.2⟩); simp only [Act.put, List.setIfInBounds_toArray, List.set_cons_zero, List.set_cons_succ])
            | ((with_reducible show EachList _ _ _ _ (⟨some 69, _, _, _, _, _⟩ :: _) _); refine EachList.cons (.int .i64 ((su : Nat) : Int)) (EachIf.call rfl 23 #[.agg ZT] ?he ?h) ?_; (case he => (intro wz; go_simp)); (case h => exact fun wx hx => (HUS.out wx (HKB.out.trans' hx)).mono fun e w' he => ⟨he.1, hx.trans' he.2⟩); simp only [Act.put, List.setIfInBounds_toArray, List.set_cons_zero, List.set_cons_succ])
            | ((with_reducible show EachList _ _ _ _ (⟨some 70, _, _, _, _, _⟩ :: _) _); refine EachList.cons (.int .i64 ((room : Int) - (su : Int))) (EachIf.val rfl ?h) ?_; (case h => (intro wx hx; clear hx; first | (go_simp; done) | (go_simp; simp [a1, a2]; done))); simp only [Act.put, List.setIfInBounds_toArray, List.set_cons_zero, List.set_cons_succ])
            | ((with_reducible show EachList _ _ _ _ (⟨some 72, _, _, _, _, _⟩ :: _) _); refine EachList.cons (.int .i64 ((room : Int) - (su : Int) + (ol : Int))) (EachIf.val rfl ?h) ?_; (case h => (intro wx hx; clear hx; first | (go_simp; done) | (go_simp; simp [a3, a4]; done))); simp only [Act.put, List.setIfInBounds_toArray, List.set_cons_zero, List.set_cons_succ])
            | ((with_reducible show EachList _ _ _ _ (⟨some 73, _, _, _, _, _⟩ :: _) _); refine EachList.cons (.bool cb) (EachIf.val rfl ?h) ?_; (case h => (intro wx hx; clear hx; first | (go_simp; rw [HCB.out]; done) | (go_simp; simp [HCB.out]; done) | (rw [HCB.out]; go_simp; done))); simp only [Act.put, List.setIfInBounds_toArray, List.set_cons_zero, List.set_cons_succ])
            | (refine EachList.cons ?_ (EachIf.val rfl ?h) ?_; (case h => (intro wx hx; clear hx; go_simp; rfl)); simp only [Act.put, List.setIfInBounds_toArray, List.set_cons_zero, List.set_cons_succ]))
          refine EachList.done fun wD hx => ?_
          have HKD := Lib.hid (HKB.out.trans' hx)
          clear hx a1 a2 a3 a4
          cases hcc : cb with
          | true =>
            have hlt : room + needT T j < needA n + sumTo T 32 := by
              have h1 := of_decide_eq_true (HCB.out.symm.trans hcc)
              have h2 := HSS.out
              omega
            have HLT := Lib.hid hlt
            subst hcc
            obtain ⟨w9, q1, q2, q3⟩ := HFIN.out wD HKD.out
            have HS9 := Lib.hid q1
            have HL9 := Lib.hid q2
            have HK9 := Lib.hid q3
            have HLTB := Lib.hid (HLD.out wD HKD.out)
            have HDO : Hid (DoR T room k i n v T 0 7) := HD.out _ _ _ (.inr (.inl ⟨⟨hi, hR⟩, by rw [Int.toNat_natCast]; exact HLT.out, rfl, rfl, rfl⟩))
            have HDP : Hid (DoPost w T room k i n v (.returned (.tuple #[.agg ZT, .int .i64 0, .int .i64 7])) w9) := by
              rw [← HZT.out]
              exact ⟨T, 0, 7, rfl, HDO.out, HTOK.out, HTLEN.out, HK9.out⟩
            clear q1 q2 q3 HFIN HLD HDO
            go_wp2_with (first | ((with_reducible show wpList _ _ _ (⟨_, .load 48 (.tmp 3), _, _, _, _⟩ :: _) _ _); (try rw [HW0.out]); refine wpList_load_any rfl 48 (.tmp 3) rfl _ rfl _ HLTB.out ?_) | ((with_reducible show wpList _ _ _ (⟨_, .store 48 (.tmp 6) (.tmp 74), _, _, _, _⟩ :: _) _ _); refine wpList_store_any rfl 48 (.tmp 6) (.tmp 74) rfl _ rfl _ rfl _ HS9.out ?_))
            all_goals exact bodyPost_ret (results_cell3 Tryz.results22 rfl HL9.out rfl rfl) rfl HDP.out

          | false =>
            have hge : needA n + sumTo T 32 ≤ room + needT T j := by
              have h1 := of_decide_eq_false (HCB.out.symm.trans hcc)
              have h2 := HSS.out
              omega
            have HGE := Lib.hid hge
            subst hcc
            obtain ⟨wE, e1, e2, e3⟩ := (HTV.out wD HKD.out).storeI hj HBN.out HV1.out
            rw [HZN.out] at e1
            obtain ⟨wF, f1, f2, f3⟩ := store_tab (T := T.set j (n, v)) ((HBR.out wD HKD.out).keep e3 (by rw [List.mem_singleton]; omega)) HT0.out e2.ok e2.len
            have HSE := Lib.hid e1
            have HLE := Lib.hid e2.load
            have HSF := Lib.hid f1
            have HLF := Lib.hid f2.load
            have HOKF := Lib.hid e2.ok
            have HLENF := Lib.hid e2.len
            have HLND := Lib.hid (HLN.out wD HKD.out)
            have HKF : Hid (Keeps [] w wF) := ((HK0.out.trans' HKD.out).trans e3 (by intro x hx; rw [List.mem_singleton] at hx; omega)).trans f3 (by intro x hx; rw [List.mem_singleton] at hx; omega)
            have HDO : Hid (DoR T room k i n v (T.set j (n, v)) (j : Int) 0) := HD.out _ _ _ (.inr (.inr ⟨⟨hi, hR⟩, by rw [Int.toNat_natCast]; exact HGE.out, by rw [Int.toNat_natCast], rfl, rfl⟩))
            have HDP : Hid (DoPost w T room k i n v (.returned (.tuple #[.agg (tabC (T.set j (n, v))), .int .i64 (j : Int), .int .i64 0])) wF) := ⟨_, _, _, rfl, HDO.out, HOKF.out, HLENF.out, HKF.out⟩
            clear e1 e2 e3 f1 f2 f3 hge HFIN HLD HTV HBR HDO
            generalize tabC (T.set j (n, v)) = ZS at *
            go_wp2_with (first | ((with_reducible show wpList _ _ _ (⟨_, .load 25 (.tmp 76), _, _, _, _⟩ :: _) _ _); (try rw [HW0.out]); refine wpList_load_any rfl 25 (.tmp 76) rfl _ rfl _ HLND.out ?_) | ((with_reducible show wpList _ _ _ (⟨_, .store 25 (.tmp 78) (.tmp 77), _, _, _, _⟩ :: _) _ _); refine wpList_store_any rfl 25 (.tmp 78) (.tmp 77) rfl _ rfl _ rfl _ HSE.out ?_) | ((with_reducible show wpList _ _ _ (⟨_, .load 48 (.tmp 3), _, _, _, _⟩ :: _) _ _); (try rw [HW0.out]); refine wpList_load_any rfl 48 (.tmp 3) rfl _ rfl _ HLE.out ?_) | ((with_reducible show wpList _ _ _ (⟨_, .store 48 (.tmp 6) (.tmp 79), _, _, _, _⟩ :: _) _ _); refine wpList_store_any rfl 48 (.tmp 6) (.tmp 79) rfl _ rfl _ rfl _ HSF.out ?_))
            exact bodyPost_ret (results_cell3 Tryz.results22 rfl HLF.out rfl rfl) rfl HDP.out
        · have hn0 : needT T j = 0 := if_neg hf
          have hcmp : ¬ (0 : Int) < (nT T j).F := hf
          clear hf
          obtain ⟨fj, hfj⟩ : ∃ fj, (nT T j).F = fj := ⟨_, rfl⟩
          rw [hfj] at cA hcmp
          have HKB := HKA
          obtain ⟨wB, hwB⟩ : ∃ wB, wA = wB := ⟨_, rfl⟩
          subst hwB
          go_wp2_with fail
          clear hcmp cA hfj
          have HNN := Lib.hid (HND.out hR)
          have HUS2 := HUS
          have HSUM : Hid (∀ z : Int, -3000 ≤ z → z ≤ 3000 → wrap64 z = z ∧ IntKind.i64.wrap z = z) := fun z h1 h2 => ⟨by unfold wrap64; omega, IntWalk.i64_in _ (by omega)⟩
          have hs1 := HSL.out
          have hs2 := HNLE.out j hj
          have hna := needA_le hR
          obtain ⟨a1, a2⟩ := HSUM.out ((room : Int) - ((sumTo T 32 : Nat) : Int)) (by have := HRM.out; omega) (by have := HRM.out; omega)
          obtain ⟨a3, a4⟩ := HSUM.out ((room : Int) - ((sumTo T 32 : Nat) : Int) + (0 : Int)) (by have := HRM.out; omega) (by have := HRM.out; omega)
          obtain ⟨cb, hcb⟩ : ∃ cb, cb = decide ((room : Int) - ((sumTo T 32 : Nat) : Int) + (0 : Int) < ((needA n : Nat) : Int)) := ⟨_, rfl⟩
          have HCB := Lib.hid hcb
          have HSS := Lib.hid (show (needT T j : Int) = (0 : Int) from by rw [hn0]; rfl)
          clear hs1 hs2 hna hcb HSUM
          obtain ⟨su, hsu⟩ : ∃ su, sumTo T 32 = su := ⟨_, rfl⟩
          obtain ⟨na, hna⟩ : ∃ na, needA n = na := ⟨_, rfl⟩
          rw [hsu] at a1 a2 a3 a4 HCB HUS
          rw [hna] at HCB HNN

          refine wp_region_each (S := fun wx => Keeps [] wA wx) (by kernel_rfl) (by kernel_rfl) (fun d _ _ _ _ h => by cases d <;> exact h) ((Keeps.refl _ _).drew) (by kernel_rfl) ?_
          repeat (first
            | ((with_reducible show EachList _ _ _ _ (⟨some 65, _, _, _, _, _⟩ :: _) _); refine EachList.cons (.agg ZN) (EachIf.load rfl 25 (.tmp 64) rfl _ rfl fun wx hx => HLN.out wx (HKA.out.trans' hx)) ?_; simp only [Act.put, List.setIfInBounds_toArray, List.set_cons_zero, List.set_cons_succ])
            | ((with_reducible show EachList _ _ _ _ (⟨some 68, _, _, _, _, _⟩ :: _) _); refine EachList.cons (.agg ZT) (EachIf.load rfl 48 (.tmp 3) rfl _ rfl fun wx hx => HLD.out wx (HKA.out.trans' hx)) ?_; simp only [Act.put, List.setIfInBounds_toArray, List.set_cons_zero, List.set_cons_succ])
            | ((with_reducible show EachList _ _ _ _ (⟨some 66, _, _, _, _, _⟩ :: _) _); refine EachList.cons (.int .i64 ((na : Nat) : Int)) (EachIf.call rfl 15 #[.agg ZN] ?he ?h) ?_; (case he => (intro wz; go_simp)); (case h => exact fun wx hx => (HNN.out wx (HKA.out.trans' hx)).mono fun e w' he => ⟨he.1, hx.trans' he.2⟩); simp only [Act.put, List.setIfInBounds_toArray, List.set_cons_zero, List.set_cons_succ])
            | ((with_reducible show EachList _ _ _ _ (⟨some 69, _, _, _, _, _⟩ :: _) _); refine EachList.cons (.int .i64 ((su : Nat) : Int)) (EachIf.call rfl 23 #[.agg ZT] ?he ?h) ?_; (case he => (intro wz; go_simp)); (case h => exact fun wx hx => (HUS.out wx (HKA.out.trans' hx)).mono fun e w' he => ⟨he.1, hx.trans' he.2⟩); simp only [Act.put, List.setIfInBounds_toArray, List.set_cons_zero, List.set_cons_succ])
            | ((with_reducible show EachList _ _ _ _ (⟨some 70, _, _, _, _, _⟩ :: _) _); refine EachList.cons (.int .i64 ((room : Int) - (su : Int))) (EachIf.val rfl ?h) ?_; (case h => (intro wx hx; clear hx; first | (go_simp; done) | (go_simp; simp [a1, a2]; done))); simp only [Act.put, List.setIfInBounds_toArray, List.set_cons_zero, List.set_cons_succ])
            | ((with_reducible show EachList _ _ _ _ (⟨some 72, _, _, _, _, _⟩ :: _) _); refine EachList.cons (.int .i64 ((room : Int) - (su : Int) + 0)) (EachIf.val rfl ?h) ?_; (case h => (intro wx hx; clear hx; first | (go_simp; done) | (go_simp; simp [a3, a4]; done))); simp only [Act.put, List.setIfInBounds_toArray, List.set_cons_zero, List.set_cons_succ])
            | ((with_reducible show EachList _ _ _ _ (⟨some 73, _, _, _, _, _⟩ :: _) _); refine EachList.cons (.bool cb) (EachIf.val rfl ?h) ?_; (case h => (intro wx hx; clear hx; first | (go_simp; rw [HCB.out]; done) | (go_simp; simp [HCB.out]; done) | (rw [HCB.out]; go_simp; done))); simp only [Act.put, List.setIfInBounds_toArray, List.set_cons_zero, List.set_cons_succ])
            | (refine EachList.cons ?_ (EachIf.val rfl ?h) ?_; (case h => (intro wx hx; clear hx; go_simp; rfl)); simp only [Act.put, List.setIfInBounds_toArray, List.set_cons_zero, List.set_cons_succ]))
          refine EachList.done fun wD hx => ?_
          have HKD := Lib.hid (HKA.out.trans' hx)
          clear hx a1 a2 a3 a4
          cases hcc : cb with
          | true =>
            have hlt : room + needT T j < needA n + sumTo T 32 := by
              have h1 := of_decide_eq_true (HCB.out.symm.trans hcc)
              have h2 := HSS.out
              omega
            have HLT := Lib.hid hlt
            subst hcc
            obtain ⟨w9, q1, q2, q3⟩ := HFIN.out wD HKD.out
            have HS9 := Lib.hid q1
            have HL9 := Lib.hid q2
            have HK9 := Lib.hid q3
            have HLTB := Lib.hid (HLD.out wD HKD.out)
            have HDO : Hid (DoR T room k i n v T 0 7) := HD.out _ _ _ (.inr (.inl ⟨⟨hi, hR⟩, by rw [Int.toNat_natCast]; exact HLT.out, rfl, rfl, rfl⟩))
            have HDP : Hid (DoPost w T room k i n v (.returned (.tuple #[.agg ZT, .int .i64 0, .int .i64 7])) w9) := by
              rw [← HZT.out]
              exact ⟨T, 0, 7, rfl, HDO.out, HTOK.out, HTLEN.out, HK9.out⟩
            clear q1 q2 q3 HFIN HLD HDO
            go_wp2_with (first | ((with_reducible show wpList _ _ _ (⟨_, .load 48 (.tmp 3), _, _, _, _⟩ :: _) _ _); (try rw [HW0.out]); refine wpList_load_any rfl 48 (.tmp 3) rfl _ rfl _ HLTB.out ?_) | ((with_reducible show wpList _ _ _ (⟨_, .store 48 (.tmp 6) (.tmp 74), _, _, _, _⟩ :: _) _ _); refine wpList_store_any rfl 48 (.tmp 6) (.tmp 74) rfl _ rfl _ rfl _ HS9.out ?_))
            all_goals exact bodyPost_ret (results_cell3 Tryz.results22 rfl HL9.out rfl rfl) rfl HDP.out

          | false =>
            have hge : needA n + sumTo T 32 ≤ room + needT T j := by
              have h1 := of_decide_eq_false (HCB.out.symm.trans hcc)
              have h2 := HSS.out
              omega
            have HGE := Lib.hid hge
            subst hcc
            obtain ⟨wE, e1, e2, e3⟩ := (HTV.out wD HKD.out).storeI hj HBN.out HV1.out
            rw [HZN.out] at e1
            obtain ⟨wF, f1, f2, f3⟩ := store_tab (T := T.set j (n, v)) ((HBR.out wD HKD.out).keep e3 (by rw [List.mem_singleton]; omega)) HT0.out e2.ok e2.len
            have HSE := Lib.hid e1
            have HLE := Lib.hid e2.load
            have HSF := Lib.hid f1
            have HLF := Lib.hid f2.load
            have HOKF := Lib.hid e2.ok
            have HLENF := Lib.hid e2.len
            have HLND := Lib.hid (HLN.out wD HKD.out)
            have HKF : Hid (Keeps [] w wF) := ((HK0.out.trans' HKD.out).trans e3 (by intro x hx; rw [List.mem_singleton] at hx; omega)).trans f3 (by intro x hx; rw [List.mem_singleton] at hx; omega)
            have HDO : Hid (DoR T room k i n v (T.set j (n, v)) (j : Int) 0) := HD.out _ _ _ (.inr (.inr ⟨⟨hi, hR⟩, by rw [Int.toNat_natCast]; exact HGE.out, by rw [Int.toNat_natCast], rfl, rfl⟩))
            have HDP : Hid (DoPost w T room k i n v (.returned (.tuple #[.agg (tabC (T.set j (n, v))), .int .i64 (j : Int), .int .i64 0])) wF) := ⟨_, _, _, rfl, HDO.out, HOKF.out, HLENF.out, HKF.out⟩
            clear e1 e2 e3 f1 f2 f3 hge HFIN HLD HTV HBR HDO
            generalize tabC (T.set j (n, v)) = ZS at *
            go_wp2_with (first | ((with_reducible show wpList _ _ _ (⟨_, .load 25 (.tmp 76), _, _, _, _⟩ :: _) _ _); (try rw [HW0.out]); refine wpList_load_any rfl 25 (.tmp 76) rfl _ rfl _ HLND.out ?_) | ((with_reducible show wpList _ _ _ (⟨_, .store 25 (.tmp 78) (.tmp 77), _, _, _, _⟩ :: _) _ _); refine wpList_store_any rfl 25 (.tmp 78) (.tmp 77) rfl _ rfl _ rfl _ HSE.out ?_) | ((with_reducible show wpList _ _ _ (⟨_, .load 48 (.tmp 3), _, _, _, _⟩ :: _) _ _); (try rw [HW0.out]); refine wpList_load_any rfl 48 (.tmp 3) rfl _ rfl _ HLE.out ?_) | ((with_reducible show wpList _ _ _ (⟨_, .store 48 (.tmp 6) (.tmp 79), _, _, _, _⟩ :: _) _ _); refine wpList_store_any rfl 48 (.tmp 6) (.tmp 79) rfl _ rfl _ rfl _ HSF.out ?_))
            exact bodyPost_ret (results_cell3 Tryz.results22 rfl HLF.out rfl rfl) rfl HDP.out
      · rw [decide_eq_false hR] at HRT1
        go_wp2_with ((with_reducible show wpList _ _ _ (⟨_, .load 25 (.tmp 49), _, _, _, _⟩ :: _) _ _); (try rw [HW0.out]); refine wpList_load_want (by first | rfl | (simp [Region.wanted, yielded]; done) | (simp [Region.wanted, yielded]; omega)) 25 (.tmp 49) rfl _ rfl _ HLN1.out ?_)
        refine HRT1.out.mono ?_; rintro e wA ⟨rfl, hkA⟩
        have HKA := Lib.hid ((Keeps.refl [] W0).trans' hkA)
        clear hkA HRT1 HLN1
        obtain ⟨w9, q1, q2, q3⟩ := HFIN.out wA HKA.out
        have HS9 := Lib.hid q1
        have HL9 := Lib.hid q2
        have HK9 := Lib.hid q3
        have HLTB := Lib.hid (HLD.out wA HKA.out)
        have HDO : Hid (DoR T room k i n v T 0 1) := HD.out _ _ _ (.inl ⟨fun h => hR h.2, rfl, rfl, rfl⟩)
        have HDP : Hid (DoPost w T room k i n v (.returned (.tuple #[.agg ZT, .int .i64 0, .int .i64 1])) w9) := by
          rw [← HZT.out]
          exact ⟨T, 0, 1, rfl, HDO.out, HTOK.out, HTLEN.out, HK9.out⟩
        clear q1 q2 q3 HFIN HLD HDO
        go_wp2_with (first | ((with_reducible show wpList _ _ _ (⟨_, .load 48 (.tmp 3), _, _, _, _⟩ :: _) _ _); (try rw [HW0.out]); refine wpList_load_any rfl 48 (.tmp 3) rfl _ rfl _ HLTB.out ?_) | ((with_reducible show wpList _ _ _ (⟨_, .store 48 (.tmp 6) (.tmp 54), _, _, _, _⟩ :: _) _ _); refine wpList_store_any rfl 48 (.tmp 6) (.tmp 54) rfl _ rfl _ rfl _ HS9.out ?_))
        all_goals exact bodyPost_ret (results_cell3 Tryz.results22 rfl HL9.out rfl rfl) rfl HDP.out

    · by_cases hneg : ix < 0
      · have hi1 : ix < 0 := hneg
        obtain ⟨w9, q1, q2, q3⟩ := HFIN.out W0 (Keeps.refl [] W0)
        have HS9 := Lib.hid q1
        have HL9 := Lib.hid q2
        have HK9 := Lib.hid q3
        have HLTB := Lib.hid (HLD.out W0 (Keeps.refl [] W0))
        have HDO : Hid (DoR T room k i n v T 0 1) := HD.out _ _ _ (.inl ⟨fun h => hi h.1, rfl, rfl, rfl⟩)
        have HDP : Hid (DoPost w T room k i n v (.returned (.tuple #[.agg ZT, .int .i64 0, .int .i64 1])) w9) := by
          rw [← HZT.out]
          exact ⟨T, 0, 1, rfl, HDO.out, HTOK.out, HTLEN.out, HK9.out⟩
        clear q1 q2 q3 HFIN HLD HDO
        go_wp2_with (first | ((with_reducible show wpList _ _ _ (⟨_, .load 48 (.tmp 3), _, _, _, _⟩ :: _) _ _); (try rw [HW0.out]); refine wpList_load_any rfl 48 (.tmp 3) rfl _ rfl _ HLTB.out ?_) | ((with_reducible show wpList _ _ _ (⟨_, .store 48 (.tmp 6) (.tmp 54), _, _, _, _⟩ :: _) _ _); refine wpList_store_any rfl 48 (.tmp 6) (.tmp 54) rfl _ rfl _ rfl _ HS9.out ?_))
        all_goals exact bodyPost_ret (results_cell3 Tryz.results22 rfl HL9.out rfl rfl) rfl HDP.out

      · have hi1 : ¬ ix < 0 := hneg
        have hi2 : 31 < ix := by omega
        obtain ⟨w9, q1, q2, q3⟩ := HFIN.out W0 (Keeps.refl [] W0)
        have HS9 := Lib.hid q1
        have HL9 := Lib.hid q2
        have HK9 := Lib.hid q3
        have HLTB := Lib.hid (HLD.out W0 (Keeps.refl [] W0))
        have HDO : Hid (DoR T room k i n v T 0 1) := HD.out _ _ _ (.inl ⟨fun h => hi h.1, rfl, rfl, rfl⟩)
        have HDP : Hid (DoPost w T room k i n v (.returned (.tuple #[.agg ZT, .int .i64 0, .int .i64 1])) w9) := by
          rw [← HZT.out]
          exact ⟨T, 0, 1, rfl, HDO.out, HTOK.out, HTLEN.out, HK9.out⟩
        clear q1 q2 q3 HFIN HLD HDO
        go_wp2_with (first | ((with_reducible show wpList _ _ _ (⟨_, .load 48 (.tmp 3), _, _, _, _⟩ :: _) _ _); (try rw [HW0.out]); refine wpList_load_any rfl 48 (.tmp 3) rfl _ rfl _ HLTB.out ?_) | ((with_reducible show wpList _ _ _ (⟨_, .store 48 (.tmp 6) (.tmp 54), _, _, _, _⟩ :: _) _ _); refine wpList_store_any rfl 48 (.tmp 6) (.tmp 54) rfl _ rfl _ rfl _ HS9.out ?_))
        all_goals exact bodyPost_ret (results_cell3 Tryz.results22 rfl HL9.out rfl rfl) rfl HDP.out
  · rw [hm] at hmod
    have HLD0 := Lib.hid (HLD.out W0 (Keeps.refl _ _))
    have HFI0 := Lib.hid (HFI.out W0 (Keeps.refl _ _))
    go_enter Tryz.func22, Tryz.ntmps22
    go_wp2_with ((with_reducible show wpList _ _ _ (⟨_, .load 48 (.tmp 3), _, _, _, _⟩ :: _) _ _); (try rw [HW0.out]); refine wpList_load_any rfl 48 (.tmp 3) rfl _ rfl _ HLD0.out ?_)
    refine HFI0.out.mono ?_; rintro e w1 ⟨r, rfl, hfr, hk1⟩
    have HK1 := Lib.hid hk1
    rcases (show r = -1 ∨ 0 ≤ r by rcases hfr with ⟨j, hj, rfl, -⟩ | ⟨rfl, -⟩ <;> omega) with hr | hr
    · subst hr
      have HM : Hid (∃ r, FirstR T r ∧ ((r = -1 ∧ T = T ∧ (0 : Int) = 0 ∧ (7 : Int) = 7) ∨ (0 ≤ r ∧ PutTR T room r n v T 0 7))) := ⟨-1, hfr, .inl ⟨rfl, rfl, rfl, rfl⟩⟩
      clear hfr hk1 HFI HFI0 HLD0
      obtain ⟨w9, q1, q2, q3⟩ := HFIN.out w1 HK1.out
      have HS9 := Lib.hid q1
      have HL9 := Lib.hid q2
      have HK9 := Lib.hid q3
      have HLTB := Lib.hid (HLD.out w1 HK1.out)
      have HDO : Hid (DoR T room k i n v T 0 7) := .inr (.inl ⟨hm, HM.out⟩)
      have HDP : Hid (DoPost w T room k i n v (.returned (.tuple #[.agg ZT, .int .i64 0, .int .i64 7])) w9) := by
        rw [← HZT.out]
        exact ⟨T, 0, 7, rfl, HDO.out, HTOK.out, HTLEN.out, HK9.out⟩
      clear q1 q2 q3 HFIN HLD HDO
      go_wp2_with (first | ((with_reducible show wpList _ _ _ (⟨_, .load 48 (.tmp 3), _, _, _, _⟩ :: _) _ _); (try rw [HW0.out]); refine wpList_load_any rfl 48 (.tmp 3) rfl _ rfl _ HLTB.out ?_) | ((with_reducible show wpList _ _ _ (⟨_, .store 48 (.tmp 6) (.tmp 22), _, _, _, _⟩ :: _) _ _); refine wpList_store_any rfl 48 (.tmp 6) (.tmp 22) rfl _ rfl _ rfl _ HS9.out ?_))
      all_goals exact bodyPost_ret (results_cell3 Tryz.results22 rfl HL9.out rfl rfl) rfl HDP.out
    · obtain ⟨ix, hix⟩ : ∃ ix, ix = r := ⟨_, rfl⟩
      subst hix
      have HD : Hid (∀ T' m f, PutTR T room ix n v T' m f → DoR T room k i n v T' m f) := fun T' m f h => .inr (.inl ⟨hm, ix, hfr, .inr ⟨hr, h⟩⟩)
      have e1 : ¬ ix < 0 := by omega
      clear hfr hr hk1 hm HFI HFI0 HLD0
      by_cases hi : 0 ≤ ix ∧ ix < 32
      · have hi1 : ¬ ix < 0 := by omega
        have hi2 : ¬ 31 < ix := by omega
        have HLN1 := Lib.hid (HLN.out w1 HK1.out)
        have HRT1 := Lib.hid (HRT.out w1 HK1.out)
        by_cases hR : RightP n
        · rw [decide_eq_true hR] at HRT1
          obtain ⟨j, rfl⟩ := Int.eq_ofNat_of_zero_le hi.1
          have hj : j < 32 := by omega
          have hj0 : (0 : Int) ≤ (j : Int) := by omega
          have hj1 : (j : Int) < 32 := by omega
          have hj31 : (j : Int) ≤ 31 := by omega
          go_wp2_with ((with_reducible show wpList _ _ _ (⟨_, .load 25 (.tmp 49), _, _, _, _⟩ :: _) _ _); (try rw [HW0.out]); refine wpList_load_want (by first | rfl | (simp [Region.wanted, yielded]; done) | (simp [Region.wanted, yielded]; omega)) 25 (.tmp 49) rfl _ rfl _ HLN1.out ?_)
          refine HRT1.out.mono ?_; rintro e wA ⟨rfl, hkA⟩
          have HKA := Lib.hid (HK1.out.trans' hkA)
          have cA := HFO.out wA HKA.out j hj
          clear hkA HRT1 HLN1
          by_cases hf : 0 < (nT T j).F
          · have HNA := Lib.hid (HNT.out wA HKA.out j hj hf)
            have HLA := Lib.hid (HLI.out wA HKA.out j hj)
            generalize inoC (nT T j) (vT T j) = ZI at *
            have hcmp : (0 : Int) < (nT T j).F := hf
            clear hf
            obtain ⟨fj, hfj⟩ : ∃ fj, (nT T j).F = fj := ⟨_, rfl⟩
            rw [hfj] at cA hcmp
            go_wp2_with (((with_reducible show wpList _ _ _ (⟨_, .load 25 (.tmp 61), _, _, _, _⟩ :: _) _ _); (try rw [HW0.out]); refine wpList_load_any rfl 25 (.tmp 61) rfl _ rfl _ HLA.out ?_))
            refine HNA.out.mono ?_; rintro e wB ⟨rfl, hkB⟩
            have HKB := Lib.hid (HKA.out.trans' hkB)
            clear hkB HNA HLA hcmp cA hfj
            have HNN := Lib.hid (HND.out hR)
            have HUS2 := HUS
            have HSUM : Hid (∀ z : Int, -3000 ≤ z → z ≤ 3000 → wrap64 z = z ∧ IntKind.i64.wrap z = z) := fun z h1 h2 => ⟨by unfold wrap64; omega, IntWalk.i64_in _ (by omega)⟩
            have hs1 := HSL.out
            have hs2 := HNLE.out j hj
            have hna := needA_le hR
            obtain ⟨a1, a2⟩ := HSUM.out ((room : Int) - ((sumTo T 32 : Nat) : Int)) (by have := HRM.out; omega) (by have := HRM.out; omega)
            obtain ⟨a3, a4⟩ := HSUM.out ((room : Int) - ((sumTo T 32 : Nat) : Int) + ((needT T j : Nat) : Int)) (by have := HRM.out; omega) (by have := HRM.out; omega)
            obtain ⟨cb, hcb⟩ : ∃ cb, cb = decide ((room : Int) - ((sumTo T 32 : Nat) : Int) + ((needT T j : Nat) : Int) < ((needA n : Nat) : Int)) := ⟨_, rfl⟩
            have HCB := Lib.hid hcb
            have HSS := Lib.hid (show (needT T j : Int) = ((needT T j : Nat) : Int) from rfl)
            clear hs1 hs2 hna hcb HSUM
            obtain ⟨su, hsu⟩ : ∃ su, sumTo T 32 = su := ⟨_, rfl⟩
            obtain ⟨na, hna⟩ : ∃ na, needA n = na := ⟨_, rfl⟩
            rw [hsu] at a1 a2 a3 a4 HCB HUS
            rw [hna] at HCB HNN
            obtain ⟨ol, hol⟩ : ∃ ol, needT T j = ol := ⟨_, rfl⟩
            rw [hol] at a3 a4 HCB HSS ⊢
            go_wp2_with fail
            refine wp_region_each (S := fun wx => Keeps [] wB wx) (by kernel_rfl) (by kernel_rfl) (fun d _ _ _ _ h => by cases d <;> exact h) ((Keeps.refl _ _).drew) (by kernel_rfl) ?_
            repeat (first
              | ((with_reducible show EachList _ _ _ _ (⟨some 65, _, _, _, _, _⟩ :: _) _); refine EachList.cons (.agg ZN) (EachIf.load rfl 25 (.tmp 64) rfl _ rfl fun wx hx => HLN.out wx (HKB.out.trans' hx)) ?_; simp only [Act.put, List.setIfInBounds_toArray, List.set_cons_zero, List.set_cons_succ])
              | ((with_reducible show EachList _ _ _ _ (⟨some 68, _, _, _, _, _⟩ :: _) _); refine EachList.cons (.agg ZT) (EachIf.load rfl 48 (.tmp 3) rfl _ rfl fun wx hx => HLD.out wx (HKB.out.trans' hx)) ?_; simp only [Act.put, List.setIfInBounds_toArray, List.set_cons_zero, List.set_cons_succ])
              | ((with_reducible show EachList _ _ _ _ (⟨some 66, _, _, _, _, _⟩ :: _) _); refine EachList.cons (.int .i64 ((na : Nat) : Int)) (EachIf.call rfl 15 #[.agg ZN] ?he ?h) ?_; (case he => (intro wz; go_simp)); (case h => exact fun wx hx => (HNN.out wx (HKB.out.trans' hx)).mono fun e w' he => ⟨he.1, hx.trans' he.2⟩); simp only [Act.put, List.setIfInBounds_toArray, List.set_cons_zero, List.set_cons_succ])
              | ((with_reducible show EachList _ _ _ _ (⟨some 69, _, _, _, _, _⟩ :: _) _); refine EachList.cons (.int .i64 ((su : Nat) : Int)) (EachIf.call rfl 23 #[.agg ZT] ?he ?h) ?_; (case he => (intro wz; go_simp)); (case h => exact fun wx hx => (HUS.out wx (HKB.out.trans' hx)).mono fun e w' he => ⟨he.1, hx.trans' he.2⟩); simp only [Act.put, List.setIfInBounds_toArray, List.set_cons_zero, List.set_cons_succ])
              | ((with_reducible show EachList _ _ _ _ (⟨some 70, _, _, _, _, _⟩ :: _) _); refine EachList.cons (.int .i64 ((room : Int) - (su : Int))) (EachIf.val rfl ?h) ?_; (case h => (intro wx hx; clear hx; first | (go_simp; done) | (go_simp; simp [a1, a2]; done))); simp only [Act.put, List.setIfInBounds_toArray, List.set_cons_zero, List.set_cons_succ])
              | ((with_reducible show EachList _ _ _ _ (⟨some 72, _, _, _, _, _⟩ :: _) _); refine EachList.cons (.int .i64 ((room : Int) - (su : Int) + (ol : Int))) (EachIf.val rfl ?h) ?_; (case h => (intro wx hx; clear hx; first | (go_simp; done) | (go_simp; simp [a3, a4]; done))); simp only [Act.put, List.setIfInBounds_toArray, List.set_cons_zero, List.set_cons_succ])
              | ((with_reducible show EachList _ _ _ _ (⟨some 73, _, _, _, _, _⟩ :: _) _); refine EachList.cons (.bool cb) (EachIf.val rfl ?h) ?_; (case h => (intro wx hx; clear hx; first | (go_simp; rw [HCB.out]; done) | (go_simp; simp [HCB.out]; done) | (rw [HCB.out]; go_simp; done))); simp only [Act.put, List.setIfInBounds_toArray, List.set_cons_zero, List.set_cons_succ])
              | (refine EachList.cons ?_ (EachIf.val rfl ?h) ?_; (case h => (intro wx hx; clear hx; go_simp; rfl)); simp only [Act.put, List.setIfInBounds_toArray, List.set_cons_zero, List.set_cons_succ]))
            refine EachList.done fun wD hx => ?_
            have HKD := Lib.hid (HKB.out.trans' hx)
            clear hx a1 a2 a3 a4
            cases hcc : cb with
            | true =>
              have hlt : room + needT T j < needA n + sumTo T 32 := by
                have h1 := of_decide_eq_true (HCB.out.symm.trans hcc)
                have h2 := HSS.out
                omega
              have HLT := Lib.hid hlt
              subst hcc
              obtain ⟨w9, q1, q2, q3⟩ := HFIN.out wD HKD.out
              have HS9 := Lib.hid q1
              have HL9 := Lib.hid q2
              have HK9 := Lib.hid q3
              have HLTB := Lib.hid (HLD.out wD HKD.out)
              have HDO : Hid (DoR T room k i n v T 0 7) := HD.out _ _ _ (.inr (.inl ⟨⟨hi, hR⟩, by rw [Int.toNat_natCast]; exact HLT.out, rfl, rfl, rfl⟩))
              have HDP : Hid (DoPost w T room k i n v (.returned (.tuple #[.agg ZT, .int .i64 0, .int .i64 7])) w9) := by
                rw [← HZT.out]
                exact ⟨T, 0, 7, rfl, HDO.out, HTOK.out, HTLEN.out, HK9.out⟩
              clear q1 q2 q3 HFIN HLD HDO
              go_wp2_with (first | ((with_reducible show wpList _ _ _ (⟨_, .load 48 (.tmp 3), _, _, _, _⟩ :: _) _ _); (try rw [HW0.out]); refine wpList_load_any rfl 48 (.tmp 3) rfl _ rfl _ HLTB.out ?_) | ((with_reducible show wpList _ _ _ (⟨_, .store 48 (.tmp 6) (.tmp 74), _, _, _, _⟩ :: _) _ _); refine wpList_store_any rfl 48 (.tmp 6) (.tmp 74) rfl _ rfl _ rfl _ HS9.out ?_))
              all_goals exact bodyPost_ret (results_cell3 Tryz.results22 rfl HL9.out rfl rfl) rfl HDP.out

            | false =>
              have hge : needA n + sumTo T 32 ≤ room + needT T j := by
                have h1 := of_decide_eq_false (HCB.out.symm.trans hcc)
                have h2 := HSS.out
                omega
              have HGE := Lib.hid hge
              subst hcc
              obtain ⟨wE, e1, e2, e3⟩ := (HTV.out wD HKD.out).storeI hj HBN.out HV1.out
              rw [HZN.out] at e1
              obtain ⟨wF, f1, f2, f3⟩ := store_tab (T := T.set j (n, v)) ((HBR.out wD HKD.out).keep e3 (by rw [List.mem_singleton]; omega)) HT0.out e2.ok e2.len
              have HSE := Lib.hid e1
              have HLE := Lib.hid e2.load
              have HSF := Lib.hid f1
              have HLF := Lib.hid f2.load
              have HOKF := Lib.hid e2.ok
              have HLENF := Lib.hid e2.len
              have HLND := Lib.hid (HLN.out wD HKD.out)
              have HKF : Hid (Keeps [] w wF) := ((HK0.out.trans' HKD.out).trans e3 (by intro x hx; rw [List.mem_singleton] at hx; omega)).trans f3 (by intro x hx; rw [List.mem_singleton] at hx; omega)
              have HDO : Hid (DoR T room k i n v (T.set j (n, v)) (j : Int) 0) := HD.out _ _ _ (.inr (.inr ⟨⟨hi, hR⟩, by rw [Int.toNat_natCast]; exact HGE.out, by rw [Int.toNat_natCast], rfl, rfl⟩))
              have HDP : Hid (DoPost w T room k i n v (.returned (.tuple #[.agg (tabC (T.set j (n, v))), .int .i64 (j : Int), .int .i64 0])) wF) := ⟨_, _, _, rfl, HDO.out, HOKF.out, HLENF.out, HKF.out⟩
              clear e1 e2 e3 f1 f2 f3 hge HFIN HLD HTV HBR HDO
              generalize tabC (T.set j (n, v)) = ZS at *
              go_wp2_with (first | ((with_reducible show wpList _ _ _ (⟨_, .load 25 (.tmp 76), _, _, _, _⟩ :: _) _ _); (try rw [HW0.out]); refine wpList_load_any rfl 25 (.tmp 76) rfl _ rfl _ HLND.out ?_) | ((with_reducible show wpList _ _ _ (⟨_, .store 25 (.tmp 78) (.tmp 77), _, _, _, _⟩ :: _) _ _); refine wpList_store_any rfl 25 (.tmp 78) (.tmp 77) rfl _ rfl _ rfl _ HSE.out ?_) | ((with_reducible show wpList _ _ _ (⟨_, .load 48 (.tmp 3), _, _, _, _⟩ :: _) _ _); (try rw [HW0.out]); refine wpList_load_any rfl 48 (.tmp 3) rfl _ rfl _ HLE.out ?_) | ((with_reducible show wpList _ _ _ (⟨_, .store 48 (.tmp 6) (.tmp 79), _, _, _, _⟩ :: _) _ _); refine wpList_store_any rfl 48 (.tmp 6) (.tmp 79) rfl _ rfl _ rfl _ HSF.out ?_))
              exact bodyPost_ret (results_cell3 Tryz.results22 rfl HLF.out rfl rfl) rfl HDP.out
          · have hn0 : needT T j = 0 := if_neg hf
            have hcmp : ¬ (0 : Int) < (nT T j).F := hf
            clear hf
            obtain ⟨fj, hfj⟩ : ∃ fj, (nT T j).F = fj := ⟨_, rfl⟩
            rw [hfj] at cA hcmp
            have HKB := HKA
            obtain ⟨wB, hwB⟩ : ∃ wB, wA = wB := ⟨_, rfl⟩
            subst hwB
            go_wp2_with fail
            clear hcmp cA hfj
            have HNN := Lib.hid (HND.out hR)
            have HUS2 := HUS
            have HSUM : Hid (∀ z : Int, -3000 ≤ z → z ≤ 3000 → wrap64 z = z ∧ IntKind.i64.wrap z = z) := fun z h1 h2 => ⟨by unfold wrap64; omega, IntWalk.i64_in _ (by omega)⟩
            have hs1 := HSL.out
            have hs2 := HNLE.out j hj
            have hna := needA_le hR
            obtain ⟨a1, a2⟩ := HSUM.out ((room : Int) - ((sumTo T 32 : Nat) : Int)) (by have := HRM.out; omega) (by have := HRM.out; omega)
            obtain ⟨a3, a4⟩ := HSUM.out ((room : Int) - ((sumTo T 32 : Nat) : Int) + (0 : Int)) (by have := HRM.out; omega) (by have := HRM.out; omega)
            obtain ⟨cb, hcb⟩ : ∃ cb, cb = decide ((room : Int) - ((sumTo T 32 : Nat) : Int) + (0 : Int) < ((needA n : Nat) : Int)) := ⟨_, rfl⟩
            have HCB := Lib.hid hcb
            have HSS := Lib.hid (show (needT T j : Int) = (0 : Int) from by rw [hn0]; rfl)
            clear hs1 hs2 hna hcb HSUM
            obtain ⟨su, hsu⟩ : ∃ su, sumTo T 32 = su := ⟨_, rfl⟩
            obtain ⟨na, hna⟩ : ∃ na, needA n = na := ⟨_, rfl⟩
            rw [hsu] at a1 a2 a3 a4 HCB HUS
            rw [hna] at HCB HNN

            refine wp_region_each (S := fun wx => Keeps [] wA wx) (by kernel_rfl) (by kernel_rfl) (fun d _ _ _ _ h => by cases d <;> exact h) ((Keeps.refl _ _).drew) (by kernel_rfl) ?_
            repeat (first
              | ((with_reducible show EachList _ _ _ _ (⟨some 65, _, _, _, _, _⟩ :: _) _); refine EachList.cons (.agg ZN) (EachIf.load rfl 25 (.tmp 64) rfl _ rfl fun wx hx => HLN.out wx (HKA.out.trans' hx)) ?_; simp only [Act.put, List.setIfInBounds_toArray, List.set_cons_zero, List.set_cons_succ])
              | ((with_reducible show EachList _ _ _ _ (⟨some 68, _, _, _, _, _⟩ :: _) _); refine EachList.cons (.agg ZT) (EachIf.load rfl 48 (.tmp 3) rfl _ rfl fun wx hx => HLD.out wx (HKA.out.trans' hx)) ?_; simp only [Act.put, List.setIfInBounds_toArray, List.set_cons_zero, List.set_cons_succ])
              | ((with_reducible show EachList _ _ _ _ (⟨some 66, _, _, _, _, _⟩ :: _) _); refine EachList.cons (.int .i64 ((na : Nat) : Int)) (EachIf.call rfl 15 #[.agg ZN] ?he ?h) ?_; (case he => (intro wz; go_simp)); (case h => exact fun wx hx => (HNN.out wx (HKA.out.trans' hx)).mono fun e w' he => ⟨he.1, hx.trans' he.2⟩); simp only [Act.put, List.setIfInBounds_toArray, List.set_cons_zero, List.set_cons_succ])
              | ((with_reducible show EachList _ _ _ _ (⟨some 69, _, _, _, _, _⟩ :: _) _); refine EachList.cons (.int .i64 ((su : Nat) : Int)) (EachIf.call rfl 23 #[.agg ZT] ?he ?h) ?_; (case he => (intro wz; go_simp)); (case h => exact fun wx hx => (HUS.out wx (HKA.out.trans' hx)).mono fun e w' he => ⟨he.1, hx.trans' he.2⟩); simp only [Act.put, List.setIfInBounds_toArray, List.set_cons_zero, List.set_cons_succ])
              | ((with_reducible show EachList _ _ _ _ (⟨some 70, _, _, _, _, _⟩ :: _) _); refine EachList.cons (.int .i64 ((room : Int) - (su : Int))) (EachIf.val rfl ?h) ?_; (case h => (intro wx hx; clear hx; first | (go_simp; done) | (go_simp; simp [a1, a2]; done))); simp only [Act.put, List.setIfInBounds_toArray, List.set_cons_zero, List.set_cons_succ])
              | ((with_reducible show EachList _ _ _ _ (⟨some 72, _, _, _, _, _⟩ :: _) _); refine EachList.cons (.int .i64 ((room : Int) - (su : Int) + 0)) (EachIf.val rfl ?h) ?_; (case h => (intro wx hx; clear hx; first | (go_simp; done) | (go_simp; simp [a3, a4]; done))); simp only [Act.put, List.setIfInBounds_toArray, List.set_cons_zero, List.set_cons_succ])
              | ((with_reducible show EachList _ _ _ _ (⟨some 73, _, _, _, _, _⟩ :: _) _); refine EachList.cons (.bool cb) (EachIf.val rfl ?h) ?_; (case h => (intro wx hx; clear hx; first | (go_simp; rw [HCB.out]; done) | (go_simp; simp [HCB.out]; done) | (rw [HCB.out]; go_simp; done))); simp only [Act.put, List.setIfInBounds_toArray, List.set_cons_zero, List.set_cons_succ])
              | (refine EachList.cons ?_ (EachIf.val rfl ?h) ?_; (case h => (intro wx hx; clear hx; go_simp; rfl)); simp only [Act.put, List.setIfInBounds_toArray, List.set_cons_zero, List.set_cons_succ]))
            refine EachList.done fun wD hx => ?_
            have HKD := Lib.hid (HKA.out.trans' hx)
            clear hx a1 a2 a3 a4
            cases hcc : cb with
            | true =>
              have hlt : room + needT T j < needA n + sumTo T 32 := by
                have h1 := of_decide_eq_true (HCB.out.symm.trans hcc)
                have h2 := HSS.out
                omega
              have HLT := Lib.hid hlt
              subst hcc
              obtain ⟨w9, q1, q2, q3⟩ := HFIN.out wD HKD.out
              have HS9 := Lib.hid q1
              have HL9 := Lib.hid q2
              have HK9 := Lib.hid q3
              have HLTB := Lib.hid (HLD.out wD HKD.out)
              have HDO : Hid (DoR T room k i n v T 0 7) := HD.out _ _ _ (.inr (.inl ⟨⟨hi, hR⟩, by rw [Int.toNat_natCast]; exact HLT.out, rfl, rfl, rfl⟩))
              have HDP : Hid (DoPost w T room k i n v (.returned (.tuple #[.agg ZT, .int .i64 0, .int .i64 7])) w9) := by
                rw [← HZT.out]
                exact ⟨T, 0, 7, rfl, HDO.out, HTOK.out, HTLEN.out, HK9.out⟩
              clear q1 q2 q3 HFIN HLD HDO
              go_wp2_with (first | ((with_reducible show wpList _ _ _ (⟨_, .load 48 (.tmp 3), _, _, _, _⟩ :: _) _ _); (try rw [HW0.out]); refine wpList_load_any rfl 48 (.tmp 3) rfl _ rfl _ HLTB.out ?_) | ((with_reducible show wpList _ _ _ (⟨_, .store 48 (.tmp 6) (.tmp 74), _, _, _, _⟩ :: _) _ _); refine wpList_store_any rfl 48 (.tmp 6) (.tmp 74) rfl _ rfl _ rfl _ HS9.out ?_))
              all_goals exact bodyPost_ret (results_cell3 Tryz.results22 rfl HL9.out rfl rfl) rfl HDP.out

            | false =>
              have hge : needA n + sumTo T 32 ≤ room + needT T j := by
                have h1 := of_decide_eq_false (HCB.out.symm.trans hcc)
                have h2 := HSS.out
                omega
              have HGE := Lib.hid hge
              subst hcc
              obtain ⟨wE, e1, e2, e3⟩ := (HTV.out wD HKD.out).storeI hj HBN.out HV1.out
              rw [HZN.out] at e1
              obtain ⟨wF, f1, f2, f3⟩ := store_tab (T := T.set j (n, v)) ((HBR.out wD HKD.out).keep e3 (by rw [List.mem_singleton]; omega)) HT0.out e2.ok e2.len
              have HSE := Lib.hid e1
              have HLE := Lib.hid e2.load
              have HSF := Lib.hid f1
              have HLF := Lib.hid f2.load
              have HOKF := Lib.hid e2.ok
              have HLENF := Lib.hid e2.len
              have HLND := Lib.hid (HLN.out wD HKD.out)
              have HKF : Hid (Keeps [] w wF) := ((HK0.out.trans' HKD.out).trans e3 (by intro x hx; rw [List.mem_singleton] at hx; omega)).trans f3 (by intro x hx; rw [List.mem_singleton] at hx; omega)
              have HDO : Hid (DoR T room k i n v (T.set j (n, v)) (j : Int) 0) := HD.out _ _ _ (.inr (.inr ⟨⟨hi, hR⟩, by rw [Int.toNat_natCast]; exact HGE.out, by rw [Int.toNat_natCast], rfl, rfl⟩))
              have HDP : Hid (DoPost w T room k i n v (.returned (.tuple #[.agg (tabC (T.set j (n, v))), .int .i64 (j : Int), .int .i64 0])) wF) := ⟨_, _, _, rfl, HDO.out, HOKF.out, HLENF.out, HKF.out⟩
              clear e1 e2 e3 f1 f2 f3 hge HFIN HLD HTV HBR HDO
              generalize tabC (T.set j (n, v)) = ZS at *
              go_wp2_with (first | ((with_reducible show wpList _ _ _ (⟨_, .load 25 (.tmp 76), _, _, _, _⟩ :: _) _ _); (try rw [HW0.out]); refine wpList_load_any rfl 25 (.tmp 76) rfl _ rfl _ HLND.out ?_) | ((with_reducible show wpList _ _ _ (⟨_, .store 25 (.tmp 78) (.tmp 77), _, _, _, _⟩ :: _) _ _); refine wpList_store_any rfl 25 (.tmp 78) (.tmp 77) rfl _ rfl _ rfl _ HSE.out ?_) | ((with_reducible show wpList _ _ _ (⟨_, .load 48 (.tmp 3), _, _, _, _⟩ :: _) _ _); (try rw [HW0.out]); refine wpList_load_any rfl 48 (.tmp 3) rfl _ rfl _ HLE.out ?_) | ((with_reducible show wpList _ _ _ (⟨_, .store 48 (.tmp 6) (.tmp 79), _, _, _, _⟩ :: _) _ _); refine wpList_store_any rfl 48 (.tmp 6) (.tmp 79) rfl _ rfl _ rfl _ HSF.out ?_))
              exact bodyPost_ret (results_cell3 Tryz.results22 rfl HLF.out rfl rfl) rfl HDP.out
        · rw [decide_eq_false hR] at HRT1
          go_wp2_with ((with_reducible show wpList _ _ _ (⟨_, .load 25 (.tmp 49), _, _, _, _⟩ :: _) _ _); (try rw [HW0.out]); refine wpList_load_want (by first | rfl | (simp [Region.wanted, yielded]; done) | (simp [Region.wanted, yielded]; omega)) 25 (.tmp 49) rfl _ rfl _ HLN1.out ?_)
          refine HRT1.out.mono ?_; rintro e wA ⟨rfl, hkA⟩
          have HKA := Lib.hid (HK1.out.trans' hkA)
          clear hkA HRT1 HLN1
          obtain ⟨w9, q1, q2, q3⟩ := HFIN.out wA HKA.out
          have HS9 := Lib.hid q1
          have HL9 := Lib.hid q2
          have HK9 := Lib.hid q3
          have HLTB := Lib.hid (HLD.out wA HKA.out)
          have HDO : Hid (DoR T room k i n v T 0 1) := HD.out _ _ _ (.inl ⟨fun h => hR h.2, rfl, rfl, rfl⟩)
          have HDP : Hid (DoPost w T room k i n v (.returned (.tuple #[.agg ZT, .int .i64 0, .int .i64 1])) w9) := by
            rw [← HZT.out]
            exact ⟨T, 0, 1, rfl, HDO.out, HTOK.out, HTLEN.out, HK9.out⟩
          clear q1 q2 q3 HFIN HLD HDO
          go_wp2_with (first | ((with_reducible show wpList _ _ _ (⟨_, .load 48 (.tmp 3), _, _, _, _⟩ :: _) _ _); (try rw [HW0.out]); refine wpList_load_any rfl 48 (.tmp 3) rfl _ rfl _ HLTB.out ?_) | ((with_reducible show wpList _ _ _ (⟨_, .store 48 (.tmp 6) (.tmp 54), _, _, _, _⟩ :: _) _ _); refine wpList_store_any rfl 48 (.tmp 6) (.tmp 54) rfl _ rfl _ rfl _ HS9.out ?_))
          all_goals exact bodyPost_ret (results_cell3 Tryz.results22 rfl HL9.out rfl rfl) rfl HDP.out

      · by_cases hneg : ix < 0
        · have hi1 : ix < 0 := hneg
          obtain ⟨w9, q1, q2, q3⟩ := HFIN.out w1 HK1.out
          have HS9 := Lib.hid q1
          have HL9 := Lib.hid q2
          have HK9 := Lib.hid q3
          have HLTB := Lib.hid (HLD.out w1 HK1.out)
          have HDO : Hid (DoR T room k i n v T 0 1) := HD.out _ _ _ (.inl ⟨fun h => hi h.1, rfl, rfl, rfl⟩)
          have HDP : Hid (DoPost w T room k i n v (.returned (.tuple #[.agg ZT, .int .i64 0, .int .i64 1])) w9) := by
            rw [← HZT.out]
            exact ⟨T, 0, 1, rfl, HDO.out, HTOK.out, HTLEN.out, HK9.out⟩
          clear q1 q2 q3 HFIN HLD HDO
          go_wp2_with (first | ((with_reducible show wpList _ _ _ (⟨_, .load 48 (.tmp 3), _, _, _, _⟩ :: _) _ _); (try rw [HW0.out]); refine wpList_load_any rfl 48 (.tmp 3) rfl _ rfl _ HLTB.out ?_) | ((with_reducible show wpList _ _ _ (⟨_, .store 48 (.tmp 6) (.tmp 54), _, _, _, _⟩ :: _) _ _); refine wpList_store_any rfl 48 (.tmp 6) (.tmp 54) rfl _ rfl _ rfl _ HS9.out ?_))
          all_goals exact bodyPost_ret (results_cell3 Tryz.results22 rfl HL9.out rfl rfl) rfl HDP.out

        · have hi1 : ¬ ix < 0 := hneg
          have hi2 : 31 < ix := by omega
          obtain ⟨w9, q1, q2, q3⟩ := HFIN.out w1 HK1.out
          have HS9 := Lib.hid q1
          have HL9 := Lib.hid q2
          have HK9 := Lib.hid q3
          have HLTB := Lib.hid (HLD.out w1 HK1.out)
          have HDO : Hid (DoR T room k i n v T 0 1) := HD.out _ _ _ (.inl ⟨fun h => hi h.1, rfl, rfl, rfl⟩)
          have HDP : Hid (DoPost w T room k i n v (.returned (.tuple #[.agg ZT, .int .i64 0, .int .i64 1])) w9) := by
            rw [← HZT.out]
            exact ⟨T, 0, 1, rfl, HDO.out, HTOK.out, HTLEN.out, HK9.out⟩
          clear q1 q2 q3 HFIN HLD HDO
          go_wp2_with (first | ((with_reducible show wpList _ _ _ (⟨_, .load 48 (.tmp 3), _, _, _, _⟩ :: _) _ _); (try rw [HW0.out]); refine wpList_load_any rfl 48 (.tmp 3) rfl _ rfl _ HLTB.out ?_) | ((with_reducible show wpList _ _ _ (⟨_, .store 48 (.tmp 6) (.tmp 54), _, _, _, _⟩ :: _) _ _); refine wpList_store_any rfl 48 (.tmp 6) (.tmp 54) rfl _ rfl _ rfl _ HS9.out ?_))
          all_goals exact bodyPost_ret (results_cell3 Tryz.results22 rfl HL9.out rfl rfl) rfl HDP.out
  · rw [hm] at hmod
    have HM := Lib.hid hm
    clear hm HFI HND HUS HNT HRT HLN
    by_cases hi : 0 ≤ i ∧ i < 32
    · have hi1 : ¬ i < 0 := by omega
      have hi2 : ¬ 31 < i := by omega
      obtain ⟨j, rfl⟩ := Int.eq_ofNat_of_zero_le hi.1
      have hj : j < 32 := by omega
      have hj0 : (0 : Int) ≤ (j : Int) := by omega
      have hj1 : (j : Int) < 32 := by omega
      have hj31 : (j : Int) ≤ 31 := by omega
      have c0 := HFO.out W0 (Keeps.refl _ _) j hj
      rw [← HW0.out] at c0
      by_cases hf : (nT T j).F = 0
      · have HD2 : Hid (DoR T room k (j : Int) n v T 0 2) := .inr (.inr ⟨HM.out, .inr (.inl ⟨hi, by rw [Int.toNat_natCast]; exact hf, rfl, rfl, rfl⟩)⟩)
        rw [hf] at c0
        clear hf
        go_enter Tryz.func22, Tryz.ntmps22
        obtain ⟨w9, q1, q2, q3⟩ := HFIN.out W0 (Keeps.refl [] W0)
        have HS9 := Lib.hid q1
        have HL9 := Lib.hid q2
        have HK9 := Lib.hid q3
        have HLTB := Lib.hid (HLD.out W0 (Keeps.refl [] W0))
        have HDO : Hid (DoR T room k (j : Int) n v T 0 2) := HD2.out
        have HDP : Hid (DoPost w T room k (j : Int) n v (.returned (.tuple #[.agg ZT, .int .i64 0, .int .i64 2])) w9) := by
          rw [← HZT.out]
          exact ⟨T, 0, 2, rfl, HDO.out, HTOK.out, HTLEN.out, HK9.out⟩
        clear q1 q2 q3 HFIN HLD HDO
        go_wp2_with (first | ((with_reducible show wpList _ _ _ (⟨_, .load 48 (.tmp 3), _, _, _, _⟩ :: _) _ _); (try rw [HW0.out]); refine wpList_load_any rfl 48 (.tmp 3) rfl _ rfl _ HLTB.out ?_) | ((with_reducible show wpList _ _ _ (⟨_, .store 48 (.tmp 6) (.tmp 37), _, _, _, _⟩ :: _) _ _); refine wpList_store_any rfl 48 (.tmp 6) (.tmp 37) rfl _ rfl _ rfl _ HS9.out ?_))
        all_goals exact bodyPost_ret (results_cell3 Tryz.results22 rfl HL9.out rfl rfl) rfl HDP.out
      · have e0 : ((nT T j).F == 0) = false := by simpa using hf
        obtain ⟨wE, e1, e2, e3⟩ := (HTV.out W0 (Keeps.refl _ _)).storeI hj (n := inoZ) (v := .slice none 0 0) rfl rfl
        rw [tab_lit_ino] at e1
        obtain ⟨wF, f1, f2, f3⟩ := store_tab (T := T.set j (inoZ, .slice none 0 0)) ((HBR.out W0 (Keeps.refl _ _)).keep e3 (by rw [List.mem_singleton]; omega)) HT0.out e2.ok e2.len
        have HSE := Lib.hid e1
        have HLE := Lib.hid e2.load
        have HSF := Lib.hid f1
        have HLF := Lib.hid f2.load
        have HKF : Hid (Keeps [] w wF) := (HK0.out.trans e3 (by intro x hx; rw [List.mem_singleton] at hx; omega)).trans f3 (by intro x hx; rw [List.mem_singleton] at hx; omega)
        have HDP : Hid (DoPost w T room k (j : Int) n v (.returned (.tuple #[.agg (tabC (T.set j (inoZ, .slice none 0 0))), .int .i64 0, .int .i64 0])) wF) := ⟨_, _, _, rfl, .inr (.inr ⟨HM.out, .inr (.inr ⟨hi, by rw [Int.toNat_natCast]; exact hf, by rw [Int.toNat_natCast], rfl, rfl⟩)⟩), e2.ok, e2.len, HKF.out⟩
        clear e1 e2 e3 f1 f2 f3 hf HFIN HLD HTV HBR HLI HFO
        generalize tabC (T.set j (inoZ, .slice none 0 0)) = ZS at *
        obtain ⟨fj, hfj⟩ : ∃ fj, (nT T j).F = fj := ⟨_, rfl⟩
        rw [hfj] at c0 e0
        clear hfj
        go_enter Tryz.func22, Tryz.ntmps22
        go_wp2_with (first | ((with_reducible show wpList _ _ _ (⟨_, .store 25 (.tmp 40) (.tmp 39), _, _, _, _⟩ :: _) _ _); (try rw [HW0.out]); refine wpList_store_any rfl 25 (.tmp 40) (.tmp 39) rfl _ rfl _ rfl _ HSE.out ?_) | ((with_reducible show wpList _ _ _ (⟨_, .load 48 (.tmp 3), _, _, _, _⟩ :: _) _ _); (try rw [HW0.out]); refine wpList_load_any rfl 48 (.tmp 3) rfl _ rfl _ HLE.out ?_) | ((with_reducible show wpList _ _ _ (⟨_, .store 48 (.tmp 6) (.tmp 41), _, _, _, _⟩ :: _) _ _); refine wpList_store_any rfl 48 (.tmp 6) (.tmp 41) rfl _ rfl _ rfl _ HSF.out ?_))
        exact bodyPost_ret (results_cell3 Tryz.results22 rfl HLF.out rfl rfl) rfl HDP.out
    · have HD1 : Hid (DoR T room k i n v T 0 1) := .inr (.inr ⟨HM.out, .inl ⟨hi, rfl, rfl, rfl⟩⟩)
      by_cases hneg : i < 0
      · have hi1 : i < 0 := hneg
        go_enter Tryz.func22, Tryz.ntmps22
        obtain ⟨w9, q1, q2, q3⟩ := HFIN.out W0 (Keeps.refl [] W0)
        have HS9 := Lib.hid q1
        have HL9 := Lib.hid q2
        have HK9 := Lib.hid q3
        have HLTB := Lib.hid (HLD.out W0 (Keeps.refl [] W0))
        have HDO : Hid (DoR T room k i n v T 0 1) := HD1.out
        have HDP : Hid (DoPost w T room k i n v (.returned (.tuple #[.agg ZT, .int .i64 0, .int .i64 1])) w9) := by
          rw [← HZT.out]
          exact ⟨T, 0, 1, rfl, HDO.out, HTOK.out, HTLEN.out, HK9.out⟩
        clear q1 q2 q3 HFIN HLD HDO
        go_wp2_with (first | ((with_reducible show wpList _ _ _ (⟨_, .load 48 (.tmp 3), _, _, _, _⟩ :: _) _ _); (try rw [HW0.out]); refine wpList_load_any rfl 48 (.tmp 3) rfl _ rfl _ HLTB.out ?_) | ((with_reducible show wpList _ _ _ (⟨_, .store 48 (.tmp 6) (.tmp 31), _, _, _, _⟩ :: _) _ _); refine wpList_store_any rfl 48 (.tmp 6) (.tmp 31) rfl _ rfl _ rfl _ HS9.out ?_))
        all_goals exact bodyPost_ret (results_cell3 Tryz.results22 rfl HL9.out rfl rfl) rfl HDP.out
      · have hi1 : ¬ i < 0 := hneg
        have hi2 : 31 < i := by omega
        go_enter Tryz.func22, Tryz.ntmps22
        obtain ⟨w9, q1, q2, q3⟩ := HFIN.out W0 (Keeps.refl [] W0)
        have HS9 := Lib.hid q1
        have HL9 := Lib.hid q2
        have HK9 := Lib.hid q3
        have HLTB := Lib.hid (HLD.out W0 (Keeps.refl [] W0))
        have HDO : Hid (DoR T room k i n v T 0 1) := HD1.out
        have HDP : Hid (DoPost w T room k i n v (.returned (.tuple #[.agg ZT, .int .i64 0, .int .i64 1])) w9) := by
          rw [← HZT.out]
          exact ⟨T, 0, 1, rfl, HDO.out, HTOK.out, HTLEN.out, HK9.out⟩
        clear q1 q2 q3 HFIN HLD HDO
        go_wp2_with (first | ((with_reducible show wpList _ _ _ (⟨_, .load 48 (.tmp 3), _, _, _, _⟩ :: _) _ _); (try rw [HW0.out]); refine wpList_load_any rfl 48 (.tmp 3) rfl _ rfl _ HLTB.out ?_) | ((with_reducible show wpList _ _ _ (⟨_, .store 48 (.tmp 6) (.tmp 31), _, _, _, _⟩ :: _) _ _); refine wpList_store_any rfl 48 (.tmp 6) (.tmp 31) rfl _ rfl _ rfl _ HS9.out ?_))
        all_goals exact bodyPost_ret (results_cell3 Tryz.results22 rfl HL9.out rfl rfl) rfl HDP.out

end Go.Proofs.YtblnnedkfkiofaaGreatDoor

namespace Go.Proofs.YtblnnedkfkiofaaGreatDoor
open Go.RowKit

/-- The inode without blocks. -/
def emp (n : Ino) : Ino := { n with B := List.replicate 13 0 }

set_option maxRecDepth 100000 in
set_option maxHeartbeats 1000000 in
theorem empty_at (n : Ino) (v : Value) (g : Nat) (hB : n.B.length = 13) (w : World) (hE : EReads w v g n.E) :
    Calls Tryz.prog 10 #[.agg (inoC n v)] w fun e w' => e = .returned (.agg (inoC (emp n) v)) ∧ Keeps [] w w' := by
  have hb1 := (Blk.new w (inoC n v) 25).alloc (.cells (inoC inoZ (.slice none 0 0)) 25)
  have hb2 := Blk.new (w.alloc (.cells (inoC n v) 25)) (inoC inoZ (.slice none 0 0)) 25
  have hk0 : Keeps [] w ((w.alloc (.cells (inoC n v) 25)).alloc (.cells (inoC inoZ (.slice none 0 0)) 25)) := ((Keeps.refl [] w).alloc _).alloc _
  rw [show (w.alloc (.cells (inoC n v) 25)).heap.size = w.heap.size + 1 by simp] at hb2
  obtain ⟨W0, hW0⟩ : ∃ W0, (w.alloc (.cells (inoC n v) 25)).alloc (.cells (inoC inoZ (.slice none 0 0)) 25) = W0 := ⟨_, rfl⟩
  rw [hW0] at hb1 hb2 hk0
  obtain ⟨w1, q1, q2, q3⟩ := store_B (l := List.replicate 13 0) hb1 hB (by simp)
  have hb3 := hb2.keep q3 (by simp)
  obtain ⟨w2, p1, p2, p3⟩ := store_ino (n := emp n) (v := v) hb3 rfl (by simp [emp]) (reads_one hE)
  have HL1 := Lib.hid (load_ino q2 (by simp))
  have HS2 := Lib.hid p1
  have HL2 := Lib.hid (load_ino p2 (by simp [emp]))
  have HK : Hid (Keeps [] w w2) := (hk0.trans q3 (by intro x hx; rw [List.mem_singleton] at hx; omega)).trans p3 (by intro x hx; rw [List.mem_singleton] at hx; omega)
  have hlit : (zs (List.replicate 13 0)).toArray = #[.int .i64 0, .int .i64 0, .int .i64 0, .int .i64 0, .int .i64 0, .int .i64 0, .int .i64 0, .int .i64 0, .int .i64 0, .int .i64 0, .int .i64 0, .int .i64 0, .int .i64 0] := rfl
  rw [hlit] at q1
  have HS1 := Lib.hid q1
  have hzi := zero_ino
  have HW0 := Lib.hid hW0
  have HEM : Hid ({ n with B := List.replicate 13 0 } = emp n) := rfl
  rw [HEM.out] at HL1
  clear hb1 hb2 hb3 hk0 q1 q2 q3 p1 p2 p3 hE hB hW0 hlit
  generalize inoC n v = Z at *
  generalize inoC (emp n) v = ZE at *
  generalize inoC inoZ (.slice none 0 0) = ZZ at *
  go_enter Tryz.func10, Tryz.ntmps10
  go_wp2_with (first | ((with_reducible show wpList _ _ _ (⟨_, .store 22 (.tmp 4) (.tmp 3), _, _, _, _⟩ :: _) _ _); rw [HW0.out]; refine wpList_store_any rfl 22 (.tmp 4) (.tmp 3) rfl _ rfl _ rfl _ HS1.out ?_) | ((with_reducible show wpList _ _ _ (⟨_, .load 25 (.tmp 1), _, _, _, _⟩ :: _) _ _); refine wpList_load_any rfl 25 (.tmp 1) rfl _ rfl _ HL1.out ?_) | ((with_reducible show wpList _ _ _ (⟨_, .store 25 (.tmp 2) (.tmp 5), _, _, _, _⟩ :: _) _ _); refine wpList_store_any rfl 25 (.tmp 2) (.tmp 5) rfl _ rfl _ rfl _ HS2.out ?_))
  exact bodyPost_ret (results_cell Tryz.results10 rfl HL2.out) rfl ⟨rfl, HK.out⟩

/-- A sheet at which so many blocks are free, and the inode 7. -/
def SpaceAt (W0 : World) (b gp k m : Nat) (wx : World) : Prop :=
  ∃ ps, ShAt wx b gp (padW []) ps ∧ gp < wx.heap.size ∧ W0.heap.size ≤ gp ∧ ps.length = m ∧ In64 (putAll (padW []) ps) ∧ FreeP (putAll (padW []) ps) 7 ∧ (freeL (putAll (padW []) ps)).length = k ∧ Keeps [] W0 wx

theorem SpaceAt.keep {W0 wx w' : World} {b gp k m : Nat} (h : SpaceAt W0 b gp k m wx) (hk : Keeps [] wx w') : SpaceAt W0 b gp k m w' := by
  obtain ⟨ps, h1, h2, h3, h4, h5, h6, h7, h8⟩ := h
  exact ⟨ps, h1.keep hk (by simp) (by simp), Nat.lt_of_lt_of_le h2 hk.size, h3, h4, h5, h6, h7, h8.trans' hk⟩

theorem SpaceAt.keeps {W0 wx : World} {b gp k m : Nat} (h : SpaceAt W0 b gp k m wx) : Keeps [] W0 wx := by
  obtain ⟨ps, h1, h2, h3, h4, h5, h6, h7, h8⟩ := h
  exact h8

end Go.Proofs.YtblnnedkfkiofaaGreatDoor

namespace Go.Proofs.YtblnnedkfkiofaaGreatDoor
open Go.RowKit

/-- The words are those of the table. -/
structure PlayP (X : List Int) (T : List (Ino × Value)) (own : Nat → List Nat) (room : Nat) : Prop where
  w64 : In64 X
  len : X.length = 3128
  each : ∀ i : Nat, i < 32 → ((nT T i).F = 0 ∧ FreeP X (i : Int) ∧ own i = []) ∨ (0 < (nT T i).F ∧ StoreP X (i : Int) (nT T i) (own i) ∧ filesL (nT T i) = [])
  apart : ∀ i j : Nat, i < 32 → j < 32 → i ≠ j → ∀ c ∈ own i, c ∉ own j
  used : ∀ i : Nat, i < 32 → ∀ c ∈ own i, usedN X c = true
  count : (freeL X).length + sumTo T 32 = room

theorem PlayP.right {X : List Int} {T : List (Ino × Value)} {own : Nat → List Nat} {room : Nat} (h : PlayP X T own room) : TabR T := fun i hi hf => by
  rcases h.each i hi with ⟨h1, -⟩ | ⟨-, h2, -⟩
  · omega
  · exact h2.right

theorem PlayP.ownLen {X : List Int} {T : List (Ino × Value)} {own : Nat → List Nat} {room : Nat} (h : PlayP X T own room) {j : Nat} (hj : j < 32) : (own j).length = needT T j := by
  unfold needT
  rcases h.each j hj with ⟨h1, -, h3⟩ | ⟨h1, h2, -⟩
  · rw [h3, if_neg (by omega)]; rfl
  · rw [if_pos h1, h2.ownLen]

theorem PlayP.give {X : List Int} {T : List (Ino × Value)} {own : Nat → List Nat} {room : Nat} (h : PlayP X T own room) {j : Nat} (hj : j < 32) : (freeL (putAll X (givePs X (own j)))).length = (freeL X).length + needT T j := by
  rw [← h.ownLen hj]
  rcases h.each j hj with ⟨-, -, h3⟩ | ⟨-, h2, -⟩
  · rw [h3]; rfl
  · exact free_give h2.mem h2.nodup (h.used j hj) (givePs_state (own j) X h.w64 h.len).2.1

theorem sumTo_set {T : List (Ino × Value)} {j : Nat} (hj : j < T.length) (n : Ino) (v : Value) : ∀ k, (k ≤ j → sumTo (T.set j (n, v)) k = sumTo T k) ∧ (j < k → sumTo (T.set j (n, v)) k + needT T j = sumTo T k + needT (T.set j (n, v)) j)
  | 0 => ⟨fun _ => rfl, fun h => by omega⟩
  | k + 1 => by
    obtain ⟨h1, h2⟩ := sumTo_set hj n v k
    have hne : ∀ i, i ≠ j → needT (T.set j (n, v)) i = needT T i := fun i hi => by
      have e : nT (T.set j (n, v)) i = nT T i := by rw [nT_set hj, if_neg (fun e => hi e.symm)]
      unfold needT
      rw [e]
    refine ⟨fun h => ?_, fun h => ?_⟩
    · show sumTo _ k + needT _ k = sumTo T k + needT T k
      rw [h1 (by omega), hne k (by omega)]
    · show (sumTo _ k + needT _ k) + needT T j = (sumTo T k + needT T k) + _
      by_cases hkj : k = j
      · subst hkj
        rw [h1 (Nat.le_refl _)]
        omega
      · have := h2 (by omega)
        rw [hne k hkj]
        omega

theorem needT_set {T : List (Ino × Value)} {j : Nat} (hj : j < T.length) (n : Ino) (v : Value) : needT (T.set j (n, v)) j = if 0 < n.F then needA n else 0 := by
  unfold needT
  rw [nT_set hj, if_pos rfl]

theorem PlayP.put {X X' : List Int} {T : List (Ino × Value)} {own : Nat → List Nat} {room : Nat} (h : PlayP X T own room) (hT : T.length = 32) {j : Nat} (hj : j < 32) {n : Ino} (v : Value) (hR : RightP n) (hf : filesL n = []) {own' : List Nat} (he : PutEff X (j : Int) n (own j) X' own') :
    PlayP X' (T.set j (n, v)) (fun i => if i = j then own' else own i) room := by
  have hjT : j < T.length := by omega
  have hF : 0 < n.F := by have := hR.1; omega
  have hg := h.give hj
  have hm := he.st.mem
  refine ⟨he.w64, he.len, fun i hi => ?_, fun a b ha hb hab c hc hc' => ?_, fun i hi c hc => ?_, ?_⟩
  · rw [nT_set hjT]
    by_cases hij : i = j
    · subst hij
      rw [if_pos rfl]
      exact .inr ⟨hF, by simpa using he.st, hf⟩
    · rw [if_neg (fun e => hij e.symm)]
      simp only [if_neg hij]
      rcases h.each i hi with ⟨h1, h2, h3⟩ | ⟨h1, h2, h3⟩
      · exact .inl ⟨h1, he.free_keeps h2 ⟨by omega, by omega⟩ (by omega), h3⟩
      · exact .inr ⟨h1, he.keeps h2 (by omega) (h.used i hi) (h.apart i j hi hj hij), h3⟩
  · have key : ∀ i, i < 32 → i ≠ j → ∀ c ∈ own i, c ∉ own' := fun i hi hij c hc hc' => by
      have h1 := he.free c hc'
      rw [h.used i hi c hc] at h1
      have h2 := h.apart i j hi hj hij c hc
      simp [h2] at h1
    by_cases haj : a = j
    · subst haj
      rw [if_pos rfl] at hc
      rw [if_neg (fun e => hab e.symm)] at hc'
      exact key b hb (fun e => hab e.symm) c hc' hc
    · rw [if_neg haj] at hc
      by_cases hbj : b = j
      · rw [if_pos hbj] at hc'
        exact key a ha haj c hc hc'
      · rw [if_neg hbj] at hc'
        exact h.apart a b ha hb hab c hc hc'
  · by_cases hij : i = j
    · rw [if_pos hij] at hc
      have := hm c hc
      rw [he.used c this.2 this.1]
      simp [hc]
    · rw [if_neg hij] at hc
      have hcc : c ≠ 0 ∧ c < 256 := by
        rcases h.each i hi with ⟨-, -, h3⟩ | ⟨-, h2, -⟩
        · rw [h3] at hc; simp at hc
        · exact h2.mem c hc
      rw [he.used c hcc.2 hcc.1, h.used i hi c hc]
      simp [h.apart i j hi hj hij c hc]
  · have h1 := (sumTo_set hjT n v 32).2 hj
    rw [needT_set hjT, if_pos hF] at h1
    have h2 := he.count
    have h3 := h.count
    omega

theorem PlayP.drop {X : List Int} {T : List (Ino × Value)} {own : Nat → List Nat} {room : Nat} (h : PlayP X T own room) (hT : T.length = 32) {j : Nat} (hj : j < 32) (hf : 0 < (nT T j).F) :
    PlayP (putAll X (dropPs X j (nT T j) (own j))) (T.set j (inoZ, .slice none 0 0)) (fun i => if i = j then [] else own i) room := by
  have hjT : j < T.length := by omega
  obtain ⟨hst, hfl⟩ : StoreP X (j : Int) (nT T j) (own j) ∧ filesL (nT T j) = [] := by
    rcases h.each j hj with ⟨h1, -⟩ | ⟨-, h2, h3⟩
    · omega
    · exact ⟨h2, h3⟩
  have he := drop_eff h.w64 h.len (i := (j : Int)) ⟨by omega, by omega⟩ (n := nT T j) (own := own j)
  rw [Int.toNat_natCast] at he
  have hg := h.give hj
  have hcount := congrArg List.length he.count
  rw [hfl, List.append_nil] at hcount
  refine ⟨he.w64, he.len, fun i hi => ?_, fun a b ha hb hab c hc hc' => ?_, fun i hi c hc => ?_, ?_⟩
  · rw [nT_set hjT]
    by_cases hij : i = j
    · subst hij
      rw [if_pos rfl]
      exact .inl ⟨rfl, he.free, by simp⟩
    · rw [if_neg (fun e => hij e.symm)]
      simp only [if_neg hij]
      have ho : ∀ k, 820 ≤ k → ¬ (824 + 8 * j ≤ k ∧ k < 824 + 8 * j + 8) → (putAll X (dropPs X j (nT T j) (own j))).getD k 0 = X.getD k 0 := fun k h1 h2 => he.other k h1 (by rw [Int.toNat_natCast]; exact h2)
      rcases h.each i hi with ⟨h1, h2, h3⟩ | ⟨h1, h2, h3⟩
      · exact .inl ⟨h1, h2.same fun k hk => ho _ (by rw [Int.toNat_natCast]; omega) (by rw [Int.toNat_natCast]; omega), h3⟩
      · refine .inr ⟨h1, h2.same (fun k hk => ho _ (by rw [Int.toNat_natCast]; omega) (by rw [Int.toNat_natCast]; omega)) fun c hc k hk => ?_, h3⟩
        exact ho _ (by omega) (by omega)
  · by_cases haj : a = j
    · rw [if_pos haj] at hc; simp at hc
    · rw [if_neg haj] at hc
      by_cases hbj : b = j
      · rw [if_pos hbj] at hc'; simp at hc'
      · rw [if_neg hbj] at hc'
        exact h.apart a b ha hb hab c hc hc'
  · by_cases hij : i = j
    · rw [if_pos hij] at hc; simp at hc
    · rw [if_neg hij] at hc
      have hcc : c ≠ 0 ∧ c < 256 := by
        rcases h.each i hi with ⟨-, -, h3⟩ | ⟨-, h2, -⟩
        · rw [h3] at hc; simp at hc
        · exact h2.mem c hc
      rw [he.used c hcc.2 hcc.1, h.used i hi c hc, hfl, List.append_nil]
      simp [h.apart i j hi hj hij c hc]
  · have h1 := (sumTo_set hjT inoZ (.slice none 0 0) 32).2 hj
    rw [needT_set hjT, if_neg (by decide)] at h1
    have h3 := h.count
    omega

/-- Put and the table's put: one answer, and the words are the table's again. -/
theorem play_put {X : List Int} {T : List (Ino × Value)} {own : Nat → List Nat} {room : Nat} (h : PlayP X T own room) (hT : T.length = 32) {i : Int} {n : Ino} {v : Value} (hB : n.B.length = 13) (hfl : filesL n = []) {r m f : Int} {qs : List (Int × Int)} {T' : List (Ino × Value)}
    (hp : PutR X i n r qs) (ht : PutTR T room i n v T' m f) : r = f ∧ (r = 0 → i = m) ∧ (r ≠ 0 → m = 0) ∧ ∃ own', PlayP (putAll X qs) T' own' room := by
  rcases ht with ⟨h1, rfl, rfl, rfl⟩ | ⟨h1, h2, rfl, rfl, rfl⟩ | ⟨h1, h2, rfl, rfl, rfl⟩
  · rcases hp with ⟨rfl, -, rfl⟩ | ⟨-, h2, -⟩ | ⟨_, h2, -⟩
    · exact ⟨rfl, fun h => by omega, fun _ => rfl, own, h⟩
    · exact absurd h2 h1
    · exact absurd h2 h1
  all_goals
    obtain ⟨j, rfl⟩ := Int.eq_ofNat_of_zero_le h1.1.1
    have hj : j < 32 := by omega
    rw [Int.toNat_natCast] at h2
    have hg := h.give hj
    have hc := h.count
    have hcase : (r = 1 ∧ ¬ RightP n ∧ qs = []) ∨ (r = 7 ∧ RightP n ∧ (freeL (putAll X (givePs X (own j)))).length < needA n ∧ qs = []) ∨ (r = 0 ∧ RightP n ∧ needA n ≤ (freeL (putAll X (givePs X (own j)))).length ∧ qs = putPs X j n (own j)) := by
      rcases h.each j hj with ⟨-, g2, g3⟩ | ⟨-, g2, -⟩
      · rw [g3]
        have := hp.free h1.1 g2
        rwa [Int.toNat_natCast] at this
      · have := hp.over g2
        rwa [Int.toNat_natCast] at this
  · rcases hcase with ⟨-, g, -⟩ | ⟨rfl, -, -, rfl⟩ | ⟨-, -, g, -⟩
    · exact absurd h1.2 g
    · exact ⟨rfl, fun h => by omega, fun _ => rfl, own, h⟩
    · omega
  · rcases hcase with ⟨-, g, -⟩ | ⟨-, -, g, -⟩ | ⟨rfl, -, g, rfl⟩
    · exact absurd h1.2 g
    · omega
    · rw [Int.toNat_natCast]
      have he := put_eff (i := (j : Int)) (own := own j) h.w64 h.len hB h1.1 h1.2 g
      rw [Int.toNat_natCast] at he
      exact ⟨rfl, fun _ => rfl, fun h => absurd rfl h, _, h.put hT hj v h1.2 hfl he⟩

theorem play_new {X : List Int} {T : List (Ino × Value)} {own : Nat → List Nat} {room : Nat} (h : PlayP X T own room) (hT : T.length = 32) {n : Ino} {v : Value} (hB : n.B.length = 13) (hfl : filesL n = []) {i r m f : Int} {qs : List (Int × Int)} {T' : List (Ino × Value)}
    (hp : NewR X n i r qs) (ht : ∃ r0, FirstR T r0 ∧ ((r0 = -1 ∧ T' = T ∧ m = 0 ∧ f = 7) ∨ (0 ≤ r0 ∧ PutTR T room r0 n v T' m f))) : r = f ∧ (r = 0 → i = m) ∧ ∃ own', PlayP (putAll X qs) T' own' room := by
  obtain ⟨r0, h1, h2⟩ := ht
  have hfree : ∀ k : Nat, k < 32 → ((nT T k).F = 0 ↔ FreeP X (k : Int)) := fun k hk => by
    rcases h.each k hk with ⟨g1, g2, -⟩ | ⟨g1, g2, -⟩
    · exact ⟨fun _ => g2, fun _ => g1⟩
    · exact ⟨fun e => by omega, fun e => absurd e g2.notFree⟩
  rcases hp with ⟨rfl, rfl, hn, rfl⟩ | ⟨j, hj, hjf, hjn, hc⟩
  · have hr0 : r0 = -1 := by
      rcases h1 with ⟨j, hj, -, g, -⟩ | ⟨g, -⟩
      · exact absurd ((hfree j hj).1 g) (hn j hj)
      · exact g
    rcases h2 with ⟨-, rfl, rfl, rfl⟩ | ⟨g, -⟩
    · exact ⟨rfl, fun e => by omega, own, h⟩
    · omega
  · have hr0 : r0 = (j : Int) := by
      rcases h1 with ⟨j', hj', rfl, g, g'⟩ | ⟨-, g⟩
      · have a1 : ¬ j < j' := fun hlt => g' j hlt ((hfree j hj).2 hjf)
        have a2 : ¬ j' < j := fun hlt => hjn j' hlt ((hfree j' hj').1 g)
        omega
      · exact absurd ((hfree j hj).2 hjf) (g j hj)
    subst hr0
    rcases h2 with ⟨g, -⟩ | ⟨-, g⟩
    · omega
    · have hnt : (r = 1 ∧ ¬ RightP n ∧ qs = []) ∨ (r = 7 ∧ RightP n ∧ (freeL X).length < needA n ∧ qs = []) ∨ (r = 0 ∧ RightP n ∧ needA n ≤ (freeL X).length ∧ qs = putPs X j n []) := by
        rcases hc with ⟨a, -, b, c⟩ | ⟨a, -, b, c, d⟩ | ⟨a, -, b, c, d⟩
        · exact .inl ⟨a, b, c⟩
        · exact .inr (.inl ⟨a, b, c, d⟩)
        · exact .inr (.inr ⟨a, b, c, d⟩)
      have hpr : PutR X (j : Int) n r qs := by
        rcases hnt with ⟨a, b, c⟩ | ⟨a, b, c, d⟩ | ⟨a, b, c, d⟩
        · exact .inl ⟨a, fun e => b e.2, c⟩
        · exact .inr (.inr ⟨[], ⟨⟨by omega, by omega⟩, b⟩, .inl ⟨hjf, rfl⟩, .inl ⟨a, c, d⟩⟩)
        · exact .inr (.inr ⟨[], ⟨⟨by omega, by omega⟩, b⟩, .inl ⟨hjf, rfl⟩, .inr ⟨a, c, by rw [Int.toNat_natCast]; exact d⟩⟩)
      obtain ⟨k1, k2, -, k3⟩ := play_put h hT hB hfl hpr g
      refine ⟨k1, fun e => ?_, k3⟩
      rw [← k2 e]
      rcases hc with ⟨a, -⟩ | ⟨a, -⟩ | ⟨-, a, -⟩
      · omega
      · omega
      · exact a

theorem play_drop {X : List Int} {T : List (Ino × Value)} {own : Nat → List Nat} {room : Nat} (h : PlayP X T own room) (hT : T.length = 32) {i r m f : Int} {qs : List (Int × Int)} {T' : List (Ino × Value)} (hp : DropR X i r qs)
    (ht : (¬ (0 ≤ i ∧ i < 32) ∧ T' = T ∧ m = 0 ∧ f = 1) ∨ ((0 ≤ i ∧ i < 32) ∧ (nT T i.toNat).F = 0 ∧ T' = T ∧ m = 0 ∧ f = 2) ∨ ((0 ≤ i ∧ i < 32) ∧ (nT T i.toNat).F ≠ 0 ∧ T' = T.set i.toNat (inoZ, .slice none 0 0) ∧ m = 0 ∧ f = 0)) :
    r = f ∧ m = 0 ∧ ∃ own', PlayP (putAll X qs) T' own' room := by
  rcases ht with ⟨h1, rfl, rfl, rfl⟩ | ⟨h1, h2, rfl, rfl, rfl⟩ | ⟨h1, h2, rfl, rfl, rfl⟩
  · rcases hp with ⟨rfl, -, rfl⟩ | ⟨-, g, -⟩ | ⟨-, g, -⟩ | ⟨-, n, o, g, -⟩
    · exact ⟨rfl, rfl, own, h⟩
    · exact absurd g h1
    · exact absurd g h1
    · exact absurd g.rng h1
  all_goals
    obtain ⟨j, rfl⟩ := Int.eq_ofNat_of_zero_le h1.1
    have hj : j < 32 := by omega
    rw [Int.toNat_natCast] at h2
    try rw [Int.toNat_natCast]
  · have hfr : FreeP X (j : Int) := by
      rcases h.each j hj with ⟨-, g, -⟩ | ⟨g, -⟩
      · exact g
      · omega
    rcases hp with ⟨-, g, -⟩ | ⟨rfl, -, -, rfl⟩ | ⟨-, -, g, -⟩ | ⟨-, n, o, g, -⟩
    · exact absurd h1 g
    · exact ⟨rfl, rfl, own, h⟩
    · exact absurd hfr g
    · exact absurd hfr g.notFree
  · obtain ⟨hpos, hst⟩ : 0 < (nT T j).F ∧ StoreP X (j : Int) (nT T j) (own j) := by
      rcases h.each j hj with ⟨g, -⟩ | ⟨g, g2, -⟩
      · exact absurd g h2
      · exact ⟨g, g2⟩
    rcases hp with ⟨-, g, -⟩ | ⟨-, -, g, -⟩ | ⟨-, -, -, g, -⟩ | ⟨rfl, n, o, g, rfl⟩
    · exact absurd h1 g
    · exact absurd g hst.notFree
    · exact absurd hst (g _ _)
    · obtain ⟨rfl, rfl⟩ := hst.uniq g
      try rw [Int.toNat_natCast]
      exact ⟨rfl, rfl, _, h.drop hT hj hpos⟩

end Go.Proofs.YtblnnedkfkiofaaGreatDoor
