/-
  Layer 6 (fmt1): numbersOf. Layer 2 (pack): Name; the reference's Word and Byte. Package row: EntriesOf. Layer 6 (fmt1): entriesOf.
-/
import Derived.Test.YtmhcnkjmnbnldaaDoorG02
import Derived.Test.YtmhcnkjmnbnldaaDoorG03
import Derived.IntWalk
import Derived.Test.YtmhcnkjmnbnldaaDoorG01
import Derived.Laws.AppendOwn
namespace Go.Proofs.YtmhcnkjmnbnldaaDoor
open Go.RowKit

/-- copy(d[o:], s[so:so+m]), of words. -/
theorem copy_words {w : World} {b T o n cap gs Ts so m mc : Nat} {dl sl : List Int} (hb : Blk w b (u64s dl).toArray T) (hs : Blk w gs (u64s sl).toArray Ts) (hm : m ≤ n) (hfit : o + m ≤ dl.length) (hsl : so + m ≤ sl.length) :
    ∃ v w', (∀ ty, (Builtin.copy_ #[44, 44] ty #[.slice (some ⟨b, o, none⟩) n cap, .slice (some ⟨gs, so, none⟩) m mc]).run Tryd.prog w = .ok v w') ∧ Blk w' b (u64s (dl.take o ++ (sl.drop so).take m ++ dl.drop (o + m))).toArray T ∧ Keeps [b] w w' := by
  have hl : (u64s ((sl.drop so).take m)).length = min m n := by rw [u64s_len, List.length_take, List.length_drop]; omega
  refine ⟨_, _, fun ty => run_copy_row (P := Tryd.prog) w 44 44 ty 30 b o n cap ⟨gs, so, none⟩ m mc (u64s dl).toArray T (u64s ((sl.drop so).take m)) Tryd.underlying44 size_u64 hb hl ?_ ?_ ?_, ?_, (Keeps.refl _ _).setRow (by simp) _⟩
  · intro j u hu
    have hj : j < m := by
      have := (List.getElem?_eq_some_iff.1 hu).1
      rw [hl] at this
      omega
    rw [u64s_get (by rw [List.length_take, List.length_drop]; omega)] at hu
    rw [add_plain, hs.cell, List.getElem?_toArray, u64s_get (by omega), ← hu]
    simp [List.getD_eq_getElem?_getD, hj]
  · rw [hl, List.size_toArray, u64s_len]; omega
  · exact fun u hu => u64s_one _ u hu
  · have e : ((u64s dl).toArray.toList.take o ++ u64s ((sl.drop so).take m) ++ (u64s dl).toArray.toList.drop (o + (u64s ((sl.drop so).take m)).length)).toArray = (u64s (dl.take o ++ (sl.drop so).take m ++ dl.drop (o + m))).toArray := by
      rw [hl, Nat.min_eq_left hm]
      simp [u64s, List.map_take, List.map_drop]
    rw [e]
    exact setRow_blk hb

theorem slice_all13 (b : Nat) (w : World) : (Instr.sliceAt 104 (.pointer (some ⟨b, 0, none⟩)) none none none).run Tryd.prog w = .ok (.slice (some ⟨b, 0, none⟩) 13 13) w := by show Sem.run _ _ _ = _; kernel_rfl
theorem slice_five13 (b : Nat) (w : World) : (Instr.sliceAt 104 (.pointer (some ⟨b, 0, none⟩)) (some (.int .i64 5)) none none).run Tryd.prog w = .ok (.slice (some ⟨b, 5, none⟩) 8 8) w := by show Sem.run _ _ _ = _; kernel_rfl
theorem slice_mid8 (b : Nat) (w : World) : (Instr.sliceAt 63 (.pointer (some ⟨b, 0, none⟩)) (some (.int .i64 2)) (some (.int .i64 7)) none).run Tryd.prog w = .ok (.slice (some ⟨b, 2, none⟩) 5 6) w := by show Sem.run _ _ _ = _; kernel_rfl

/-- The numbers of all blocks, of an inode's row r, as the words X have them. -/
def numAll (X r : List Int) : List Int := (r.drop 2).take 5 ++ (if r.getD 7 0 = 0 then List.replicate 8 0 else rowL X (1080 + 8 * (r.getD 7 0).toNat))

/-- All are blocks' numbers, and a list has some. -/
def NumOk (X r : List Int) : Prop := r.getD 7 0 < 256 ∧ (∀ k, k < 13 → (numAll X r).getD k 0 < 256) ∧ (r.getD 7 0 = 0 ∨ (numAll X r).drop 5 ≠ List.replicate 8 0)

instance (X r : List Int) : Decidable (NumOk X r) := by unfold NumOk; infer_instance

theorem numAll_len {X r : List Int} (hr : r.length = 8) : (numAll X r).length = 13 := by
  unfold numAll
  split
  · simp [hr]
  · simp [hr, rowL_len]

theorem second_cells (f row : List Int) (hf : f.length = 5) (hr : row.length = 8) : (f ++ List.replicate 8 (0 : Int)).take 5 ++ (row.drop 0).take 8 ++ (f ++ List.replicate 8 (0 : Int)).drop (5 + 8) = f ++ row := by
  rw [List.take_left' hf, List.drop_zero, List.take_of_length_le (by omega), List.drop_of_length_le (by simp [hf]), List.append_nil]

/-- What numbersOf leaves. -/
def NumPost (w : World) (X r : List Int) (e : Ending) (w' : World) : Prop :=
  ∃ la li ok, e = .returned (.tuple #[.agg (zs la).toArray, .int .i64 li, .bool ok]) ∧ (ok = true → NumOk X r ∧ la = numAll X r ∧ li = r.getD 7 0) ∧ (ok = false → ¬ NumOk X r) ∧ la.length = 13 ∧ Keeps [] w w'

set_option maxRecDepth 100000 in
set_option maxHeartbeats 4000000 in
theorem numbersOf_at {w : World} {b gp : Nat} {B : List Int} {ps : List (Int × Int)} (h : ShAt w b gp B ps) (h64 : In64 (putAll B ps)) (r : List Int) (hr : r.length = 8) (hr64 : In64 r) :
    Calls Tryd.prog 42 #[.pointer (some ⟨b, 0, none⟩), .agg (u64s r).toArray] w (NumPost w (putAll B ps) r) := by
  have HS := Lib.hid h
  have H64 := Lib.hid h64
  have HR64 := Lib.hid hr64
  have hzn := zero_n13
  have hzr := zero_r13
  -- the world behind the three variables
  have hb0 := ((Blk.new w (u64s r).toArray 63).alloc (.cells (zs (List.replicate 13 0)).toArray 22)).alloc (.cells (u64s (List.replicate 13 0)).toArray 104)
  have hb1 := (Blk.new (w.alloc (.cells (u64s r).toArray 63)) (zs (List.replicate 13 0)).toArray 22).alloc (.cells (u64s (List.replicate 13 0)).toArray 104)
  have hb2 := Blk.new ((w.alloc (.cells (u64s r).toArray 63)).alloc (.cells (zs (List.replicate 13 0)).toArray 22)) (u64s (List.replicate 13 0)).toArray 104
  rw [show (w.alloc (.cells (u64s r).toArray 63)).heap.size = w.heap.size + 1 by simp] at hb1
  rw [show ((w.alloc (.cells (u64s r).toArray 63)).alloc (.cells (zs (List.replicate 13 0)).toArray 22)).heap.size = w.heap.size + 1 + 1 by simp] at hb2
  obtain ⟨v1, w1, hcp, hbc, hkc⟩ := copy_words (o := 0) (n := 13) (cap := 13) (so := 2) (m := 5) (mc := 6) hb2.drew hb0.drew (by omega) (by simp) (by omega)
  have hk1 : Keeps [] w w1 := (((((Keeps.refl [] w).alloc _).alloc _).alloc _).drew).trans hkc (by intro x hx; rw [List.mem_singleton] at hx; omega)
  have hb01 := hb0.drew.keep hkc (by rw [List.mem_singleton]; omega)
  have hb11 := hb1.drew.keep hkc (by rw [List.mem_singleton]; omega)
  have hfirst : (List.replicate 13 (0 : Int)).take 0 ++ (r.drop 2).take 5 ++ (List.replicate 13 (0 : Int)).drop (0 + 5) = (r.drop 2).take 5 ++ List.replicate 8 0 := by simp
  rw [hfirst] at hbc
  have HCP := Lib.hid hcp
  have HBC := Lib.hid hbc
  have HB0 := Lib.hid hb01
  have HB1 := Lib.hid hb11
  have HK1 := Lib.hid hk1
  have hs13 := slice_all13 (w.heap.size + 1 + 1)
  have hs8 := slice_mid8 w.heap.size
  have c7 : w1.cell? ⟨w.heap.size, 7, none⟩ = some (.int .u64 (r.getD 7 0)) := by rw [hb01.cell, List.getElem?_toArray, u64s_get (by omega)]
  have HALL : Hid (numAll (putAll B ps) r = (r.drop 2).take 5 ++ (if r.getD 7 0 = 0 then List.replicate 8 0 else rowL (putAll B ps) (1080 + 8 * (r.getD 7 0).toNat))) := rfl
  have HAL := Lib.hid (numAll_len (X := putAll B ps) hr)
  have HNO : Hid (NumOk (putAll B ps) r ↔ r.getD 7 0 < 256 ∧ (∀ k, k < 13 → (numAll (putAll B ps) r).getD k 0 < 256) ∧ (r.getD 7 0 = 0 ∨ (numAll (putAll B ps) r).drop 5 ≠ List.replicate 8 0)) := Iff.rfl
  have HA64 : Hid (In64 (numAll (putAll B ps) r)) := by
    intro i
    have e : numAll (putAll B ps) r = (r.drop 2).take 5 ++ (if r.getD 7 0 = 0 then List.replicate 8 0 else rowL (putAll B ps) (1080 + 8 * (r.getD 7 0).toNat)) := rfl
    by_cases hi : i < 5
    · have : (numAll (putAll B ps) r).getD i 0 = r.getD (2 + i) 0 := by
        rw [e]
        simp only [List.getD_eq_getElem?_getD]
        rw [List.getElem?_append_left (by simp [hr]; omega), List.getElem?_take, if_pos hi, List.getElem?_drop]
      rw [this]
      exact hr64 _
    · have h2 : (numAll (putAll B ps) r).getD i 0 = (if r.getD 7 0 = 0 then List.replicate 8 0 else rowL (putAll B ps) (1080 + 8 * (r.getD 7 0).toNat)).getD (i - 5) 0 := by
        rw [e]
        simp only [List.getD_eq_getElem?_getD]
        rw [List.getElem?_append_right (by simp [hr]; omega)]
        simp [hr]
      rw [h2]
      split
      · rw [List.getD_eq_getElem?_getD, List.getElem?_replicate]
        split <;> simp
      · by_cases h8 : i - 5 < 8
        · rw [rowL_get _ _ _ h8]
          exact h64 _
        · rw [List.getD_eq_getElem?_getD, List.getElem?_eq_none (by rw [rowL_len]; omega)]
          simp
  have hli := hr64 7
  clear hb0 hb1 hb2 hcp hbc hkc hk1 hb01 hb11 h h64 hr64 hfirst
  generalize hzl : r.getD 7 0 = li at *
  have HZL := Lib.hid hzl
  clear hzl
  generalize (u64s r).toArray = Z at *
  generalize hzz : (zs (List.replicate 13 0)).toArray = ZN at *
  have HZZ := Lib.hid hzz
  clear hzz
  generalize (u64s (List.replicate 13 0)).toArray = ZR at *
  have HSZ : Hid (∀ wx, Blk wx (w.heap.size + 1) ZN 22 → ∃ w', (storeVar 22 ⟨w.heap.size + 1, 0, none⟩ (.agg ZN)).run Tryd.prog wx = .ok () w' ∧ (loadVar 22 ⟨w.heap.size + 1, 0, none⟩).run Tryd.prog w' = .ok (.agg ZN) w' ∧ Keeps [w.heap.size + 1] wx w') := fun wx hb => by
    have hz := HZZ.out
    obtain ⟨w', h1, h2, h3⟩ := store_whole (P := Tryd.prog) (ty := 22) (cs := zs (List.replicate 13 0)) (by rw [zs_len]; exact size_n13) hb (by rw [← hz]; simp) (zs_one _)
    have h4 := load_n13 (l := List.replicate 13 0) (off := 0) h2 (by simp) (fun k hk => by rw [Nat.zero_add, List.getElem?_toArray, zs_get (by simpa using hk)])
    rw [hz] at h1 h4
    exact ⟨w', h1, h4, h3⟩
  by_cases hbig : 256 ≤ li
  · have HF : Hid (¬ NumOk (putAll B ps) r) := fun h => by have := (HNO.out.1 h).1; omega
    obtain ⟨w2, hst, hld, hk2⟩ := HSZ.out w1 HB1.out
    have HST := Lib.hid hst
    have HLD := Lib.hid hld
    have HK2 := Lib.hid (HK1.out.trans hk2 (by simp))
    clear hst hld hk2 HALL HNO HA64
    go_enter Tryd.func42, Tryd.ntmps42
    go_wp2_with fail
    refine wp_region_last (l := [_, _]) (o := _) (S := fun wx => wx = (((w.alloc (.cells Z 63)).alloc (.cells ZN 22)).alloc (.cells ZR 104)).drew) (by kernel_rfl) rfl (by kernel_rfl) (fun d _ _ _ _ h => by cases d <;> exact h) rfl (by kernel_rfl) (by kernel_rfl) ?_
    repeat (refine EachList.cons ?_ (EachIf.val rfl ?h) ?_; (case h => (intro wx hx; go_simp; rfl)); simp only [Act.put, List.setIfInBounds_toArray, List.set_cons_zero, List.set_cons_succ])
    refine EachList.done fun wx hx => ?_
    subst hx
    refine wpList_copy_any rfl (.tmp 13) (.tmp 14) 44 44 rfl _ _ rfl rfl (HCP.out _) ?_
    go_wp2_with ((with_reducible show wpList _ _ _ (⟨_, .store 22 (.tmp 4) (.tmp 20), _, _, _, _⟩ :: _) _ _); refine wpList_store_any rfl 22 (.tmp 4) (.tmp 20) rfl _ rfl _ rfl _ HST.out ?_)
    refine bodyPost_ret (results_cell3 Tryd.results42 rfl HLD.out rfl rfl) rfl ⟨List.replicate 13 0, 0, false, ?_, fun h => (by cases h), fun _ => HF.out, by simp, HK2.out⟩
    rw [HZZ.out]
    rfl
  · have hwli : wrap64 li = li := by unfold wrap64; omega
    have hzr8 := zero_r8
    have HWLI : Hid (IntKind.i64.wrap li = li) := IntWalk.i64_in _ (by omega)
    by_cases hl0 : li = 0
    · have HBA : Hid (Blk w1 (w.heap.size + 1 + 1) (u64s (numAll (putAll B ps) r)).toArray 104) := by
        have e := HALL.out
        rw [if_pos hl0] at e
        show Blk _ _ _ _
        rw [e]
        exact HBC.out
      have HLE : Hid (li = 0 ∨ (numAll (putAll B ps) r).drop 5 ≠ List.replicate 8 0 ↔ True) := ⟨fun _ => trivial, fun _ => .inl hl0⟩
      have HBZ := HB1
      have HKA := HK1
      have e0 : (li == 0) = true := beq_iff_eq.2 hl0
      have e1 : (li != 0) = false := by rw [bne, e0]; rfl
      go_enter Tryd.func42, Tryd.ntmps42
      go_wp2_with fail
      refine wp_region_last (l := [_, _]) (o := _) (S := fun wx => wx = (((w.alloc (.cells Z 63)).alloc (.cells ZN 22)).alloc (.cells ZR 104)).drew) (by kernel_rfl) rfl (by kernel_rfl) (fun d _ _ _ _ h => by cases d <;> exact h) rfl (by kernel_rfl) (by kernel_rfl) ?_
      repeat (refine EachList.cons ?_ (EachIf.val rfl ?h) ?_; (case h => (intro wx hx; go_simp; rfl)); simp only [Act.put, List.setIfInBounds_toArray, List.set_cons_zero, List.set_cons_succ])
      refine EachList.done fun wx hx => ?_
      subst hx
      refine wpList_copy_any rfl (.tmp 13) (.tmp 14) 44 44 rfl _ _ rfl rfl (HCP.out _) ?_
      clear HALL
      generalize w1 = wA at *
      have HBL0 := Lib.hid (Blk.new wA ZN 22)
      have HL93 := Lib.hid (load_r13 (HBA.out.alloc (.cells ZN 22)) HAL.out)
      have HU : Hid (∀ k, k < 13 → (u64s (numAll (putAll B ps) r)).toArray[k]? = some (.int .u64 ((numAll (putAll B ps) r).getD k 0))) := fun k hk => by rw [List.getElem?_toArray, u64s_get (by rw [HAL.out]; exact hk)]
      have HWA : Hid (w.heap.size + 1 + 1 < wA.heap.size) := HBA.out.lt
      clear HBA
      generalize hal : numAll (putAll B ps) r = al at *
      have HALE := Lib.hid hal
      clear hal
      generalize (u64s al).toArray = UA at *
      go_wp2_with ((with_reducible show wpList _ _ _ (⟨_, .load 104 (.tmp 7), _, _, _, _⟩ :: _) _ _); refine wpList_load_any rfl 104 (.tmp 7) rfl _ rfl _ HL93.out ?_)
      clear hzr HL93
      go_loopg [32] 13 (fun gh s32 wx => ∃ k : Nat, k + gh = 13 ∧ s32 = .int .i64 (k : Int) ∧ Hid (Blk wx wA.heap.size (zs (fillTo 0 al k)).toArray 22 ∧ Blk wx (w.heap.size + 1) ZN 22 ∧ (∀ i, i < k → al.getD i 0 < 256) ∧ Keeps [] w wx))
      case atStart =>
        refine ⟨0, by omega, rfl, ?_, HBZ.out.alloc _, by simp, HKA.out.alloc _⟩
        rw [fillTo_zero, HAL.out, HZZ.out]
        exact HBL0.out
      case round =>
        clear HBZ HKA HBL0
        obtain ⟨k, hk, rfl, HP⟩ := hrel
        obtain ⟨hb1, hb2, hpre, hkp⟩ := HP.out
        cases gk with
        | zero =>
          obtain rfl : k = 13 := by omega
          rw [show fillTo 0 al 13 = al by rw [← HAL.out]; exact fillTo_all 0 al] at hb1
          have hnA : wA.heap.size ∉ [w.heap.size + 1] := by have := HWA.out; rw [List.mem_singleton]; omega
          have HLB := Lib.hid (fun (wx : World) (hk : Keeps [w.heap.size + 1] wr wx) => load_n13 (off := 0) (hb1.keep hk hnA) HAL.out (fun k hk => by rw [Nat.zero_add, List.getElem?_toArray, zs_get (by rw [HAL.out]; exact hk)]))
          have HSB : Hid (∀ wx, Blk wx (w.heap.size + 1) ZN 22 → ∃ w', (storeVar 22 ⟨w.heap.size + 1, 0, none⟩ (.agg (zs al).toArray)).run Tryd.prog wx = .ok () w' ∧ Blk w' (w.heap.size + 1) (zs al).toArray 22 ∧ Keeps [w.heap.size + 1] wx w') := fun wx hb => by
            have hz := HZZ.out
            exact store_whole (P := Tryd.prog) (ty := 22) (cs := zs al) (by rw [zs_len, HAL.out]; exact size_n13) hb (by rw [← hz, zs_len, HAL.out]; simp [zs_len]) (zs_one _)
          have HLF : Hid (∀ wx, Blk wx (w.heap.size + 1) (zs al).toArray 22 → (loadVar 22 ⟨w.heap.size + 1, 0, none⟩).run Tryd.prog wx = .ok (.agg (zs al).toArray) wx) := fun wx hb => load_n13 (off := 0) hb HAL.out (fun k hk => by rw [Nat.zero_add, List.getElem?_toArray, zs_get (by rw [HAL.out]; exact hk)])
          have HKP := Lib.hid hkp
          have HBN := Lib.hid hb2
          have hwn1 : w.heap.size ≤ w.heap.size + 1 := by omega
          have HF : Hid (NumOk (putAll B ps) r) := HNO.out.2 ⟨by omega, hpre, .inl hl0⟩
          clear HP hb1 hb2 hpre hkp hk HNO HBC HB0 HB1 HK1 hnA
          generalize hza : (zs al).toArray = ZA at *
          have HZA := Lib.hid hza
          clear hza
          go_wp2_with fail
          refine wp_region_store (l := [_, _, _, _, _, _, _, _, _, _, _]) (f := _) (mid := [_]) (o := _) (tl := []) (S := fun b wx => Keeps [w.heap.size + 1] wr wx ∧ Blk wx (w.heap.size + 1) (cond b ZA ZN) 22) (by kernel_rfl) rfl (by kernel_rfl) (fun d _ _ _ _ h => by cases d <;> exact h) ⟨(Keeps.refl _ _).drew, HBN.out.drew⟩ (by kernel_rfl) (by kernel_rfl) ?_
          repeat (first
            | (refine EachListB.cons (.agg ZA) (fun b => EachIf.load rfl 22 (.tmp 10) rfl _ rfl fun wx hx => HLB.out wx hx.1) ?_; simp only [Act.put, List.setIfInBounds_toArray, List.set_cons_zero, List.set_cons_succ])
            | (refine EachListB.cons undef (fun b => EachIf.off rfl) ?_; simp only [Act.put, List.setIfInBounds_toArray, List.set_cons_zero, List.set_cons_succ])
            | (refine EachListB.cons ?_ (fun b => EachIf.val rfl ?h) ?_; (case h => (intro wx hx; clear hx; go_simp; rfl)); simp only [Act.put, List.setIfInBounds_toArray, List.set_cons_zero, List.set_cons_succ]))
          refine EachListB.done ⟨undef, Each2.store rfl 22 (.tmp 4) (.tmp 44) rfl _ rfl _ rfl (fun wx hx => ?_), ?_⟩
          · obtain ⟨w', h1, h2, h3⟩ := HSB.out wx hx.2
            exact ⟨w', h1, hx.1.trans' h3, h2⟩
          refine EachList.cons ?_ (EachIf.val rfl ?h) ?_
          case h => intro wx hx; clear hx; go_simp; rfl
          simp only [Act.put, List.setIfInBounds_toArray, List.set_cons_zero, List.set_cons_succ]
          refine EachList.done fun wx hx => ?_
          have HLD6 := Lib.hid (HLF.out wx hx.2)
          have HK6 := Lib.hid (HKP.out.trans hx.1 (by intro x hx; rw [List.mem_singleton] at hx; omega))
          clear hx
          go_wp2_with fail
          refine bodyPost_ret (results_cell3 Tryd.results42 rfl HLD6.out rfl rfl) rfl ⟨al, 0, true, ?_, fun _ => ⟨HF.out, HALE.out.symm, by rw [HZL.out]; exact hl0.symm⟩, fun h => (by cases h), HAL.out, HK6.out⟩
          rw [HZA.out]
          rfl
        | succ gg =>
          have hk13 : k < 13 := by omega
          have hlt : (k : Int) < 13 := by omega
          have hk0 : (0 : Int) ≤ (k : Int) := by omega
          have hix := index_r13 hk13 (HU.out k hk13)
          have hx0 := HA64.out k
          by_cases hbx : 256 ≤ al.getD k 0
          · have HF : Hid (¬ NumOk (putAll B ps) r) := fun h => by have := (HNO.out.1 h).2.1 k hk13; omega
            obtain ⟨w5, hst5, hld5, hk5⟩ := HSZ.out wr hb2
            have HST5 := Lib.hid hst5
            have HLD5 := Lib.hid hld5
            have HK5 := Lib.hid (hkp.trans hk5 (by simp))
            clear hst5 hld5 hk5 HP hb1 hb2 hpre hkp hk
            generalize al.getD k 0 = x at *
            go_wp2_with ((with_reducible show wpList _ _ _ (⟨_, .store 22 (.tmp 4) (.tmp 38), _, _, _, _⟩ :: _) _ _); refine wpList_store_any rfl 22 (.tmp 4) (.tmp 38) rfl _ rfl _ rfl _ HST5.out ?_)
            refine bodyPost_ret (results_cell3 Tryd.results42 rfl HLD5.out rfl rfl) rfl ⟨List.replicate 13 0, 0, false, ?_, fun h => (by cases h), fun _ => HF.out, by simp, HK5.out⟩
            rw [HZZ.out]
            rfl
          · have hwx : wrap64 (al.getD k 0) = al.getD k 0 := by unfold wrap64; omega
            have hcell : wr.cell? ⟨wA.heap.size, k, none⟩ = some (.int .i64 ((fillTo 0 al k).getD k 0)) := by
              rw [hb1.cell, List.getElem?_toArray, zs_get (by rw [fillTo_len _ _ _ (by rw [HAL.out]; omega), HAL.out]; exact hk13)]
            have hfz : wr.frozen? ⟨wA.heap.size, k, none⟩ = false := hb1.frozen k
            have HR : Hid (Blk (wr.setCell ⟨wA.heap.size, k, none⟩ (.int .i64 (al.getD k 0))) wA.heap.size (zs (fillTo 0 al (k + 1))).toArray 22 ∧ Blk (wr.setCell ⟨wA.heap.size, k, none⟩ (.int .i64 (al.getD k 0))) (w.heap.size + 1) ZN 22 ∧ (∀ i, i < k + 1 → al.getD i 0 < 256) ∧ Keeps [] w (wr.setCell ⟨wA.heap.size, k, none⟩ (.int .i64 (al.getD k 0)))) := by
              have hlA := HWA.out
              refine ⟨?_, hb2.other (by show w.heap.size + 1 ≠ wA.heap.size; omega) _, fun i hi => ?_, hkp.setCell (.inr (by show w.heap.size ≤ wA.heap.size; omega)) _⟩
              · have := hb1.set k (.int .i64 (al.getD k 0))
                rw [List.setIfInBounds_toArray, zs_set, fillTo_succ 0 al k (by rw [HAL.out]; exact hk13) (al.getD k 0) (by simp [List.getD_eq_getElem?_getD, show k < al.length by rw [HAL.out]; exact hk13])] at this
                exact this
              · by_cases e : i = k
                · subst e; omega
                · exact hpre i (by omega)
            clear HP hb1 hb2 hpre hkp
            generalize al.getD k 0 = x at *
            generalize (fillTo 0 al k).getD k 0 = y at *
            go_wp2_with fail
            go_roundg gg
            case measure => omega
            case rel => exact ⟨k + 1, by omega, by go_num, HR.out⟩
    · have e0 : (li == 0) = false := beq_eq_false_iff_ne.2 hl0
      have e1 : (li != 0) = true := bne_iff_ne.2 hl0
      obtain ⟨q, hq⟩ : ∃ q : Nat, li = (q : Int) := ⟨li.toNat, by omega⟩
      have HBLK := Lib.hid (txBlock_at li w1)
      have hblk : blockN li = ((1080 + 8 * q : Nat) : Int) := by unfold blockN; rw [if_neg (by omega)]; omega
      rw [hblk] at HBLK
      have HROW : Hid (∀ wx, Keeps [] w wx → Calls Tryd.prog 40 #[.pointer (some ⟨b, 0, none⟩), .int .i64 ((1080 + 8 * q : Nat) : Int)] wx fun e w' => e = .returned (.agg (u64s (rowL (putAll B ps) (1080 + 8 * q))).toArray) ∧ Keeps [] wx w') := fun wx hk => rowAt_at (HS.out.keep hk (by simp) (by simp)) (1080 + 8 * q) (by omega)
      have HALL2 : Hid (numAll (putAll B ps) r = (r.drop 2).take 5 ++ rowL (putAll B ps) (1080 + 8 * q)) := by
        have e := HALL.out
        rw [if_neg hl0, hq, Int.toNat_natCast] at e
        exact e
      have HRL := Lib.hid (rowL_len (putAll B ps) (1080 + 8 * q))
      have hs5 := slice_five13 (w.heap.size + 1 + 1)
      have hs88 := slice_all8
      clear HALL hblk hq
      generalize rowL (putAll B ps) (1080 + 8 * q) = row at *
      generalize ((1080 + 8 * q : Nat) : Int) = p at *
      generalize hz8 : (u64s (List.replicate 8 0)).toArray = Z8 at *
      go_enter Tryd.func42, Tryd.ntmps42
      go_wp2_with fail
      refine wp_region_last (l := [_, _]) (o := _) (S := fun wx => wx = (((w.alloc (.cells Z 63)).alloc (.cells ZN 22)).alloc (.cells ZR 104)).drew) (by kernel_rfl) rfl (by kernel_rfl) (fun d _ _ _ _ h => by cases d <;> exact h) rfl (by kernel_rfl) (by kernel_rfl) ?_
      repeat (refine EachList.cons ?_ (EachIf.val rfl ?h) ?_; (case h => (intro wx hx; go_simp; rfl)); simp only [Act.put, List.setIfInBounds_toArray, List.set_cons_zero, List.set_cons_succ])
      refine EachList.done fun wx hx => ?_
      subst hx
      refine wpList_copy_any rfl (.tmp 13) (.tmp 14) 44 44 rfl _ _ rfl rfl (HCP.out _) ?_
      go_wp2_with fail
      refine HBLK.out.mono ?_; rintro e w' ⟨rfl, rfl⟩
      go_wp2_with fail
      refine (HROW.out _ HK1.out).mono ?_; rintro e w2 ⟨rfl, hk2⟩
      obtain ⟨w3, hst, hb9, hk3⟩ := store_whole (P := Tryd.prog) (ty := 63) (cs := u64s row) (by rw [u64s_len, HRL.out]; exact size_r8) (Blk.new w2 Z8 63) (by rw [← hz8]; simp [u64s_len, HRL.out]) (u64s_one _)
      have hlt2 : w.heap.size + 1 + 1 < w2.heap.size := Nat.lt_of_lt_of_le HBC.out.lt hk2.size
      have hkA : Keeps [] w (w3.drew) := ((((HK1.out.trans' hk2).alloc (.cells Z8 63)).trans hk3 (by intro x hx; rw [List.mem_singleton] at hx; have := HK1.out.size; have := hk2.size; omega))).drew
      have hbA := ((HBC.out.keep hk2 (by simp)).alloc (.cells Z8 63)).keep hk3 (by rw [List.mem_singleton]; omega)
      have hbZ := ((HB1.out.keep hk2 (by simp)).alloc (.cells Z8 63)).keep hk3 (by rw [List.mem_singleton]; omega)
      obtain ⟨v4, wA, hcp2, hbA2, hkA2⟩ := copy_words (o := 5) (n := 8) (cap := 8) (so := 0) (m := 8) (mc := 8) hbA.drew hb9.drew (by omega) (by simp [hr]) (by have := HRL.out; omega)
      have hsecond : ((r.drop 2).take 5 ++ List.replicate 8 (0 : Int)).take 5 ++ (row.drop 0).take 8 ++ ((r.drop 2).take 5 ++ List.replicate 8 (0 : Int)).drop (5 + 8) = numAll (putAll B ps) r := by
        rw [HALL2.out]
        exact second_cells _ _ (by simp [hr]) HRL.out
      rw [hsecond] at hbA2
      have HBA := Lib.hid hbA2
      have HBZ := Lib.hid (hbZ.drew.keep hkA2 (by rw [List.mem_singleton]; omega))
      have HKA := Lib.hid (hkA.trans hkA2 (by intro x hx; rw [List.mem_singleton] at hx; omega))
      have HST := Lib.hid hst
      have HCP2 := Lib.hid hcp2
      clear hst hb9 hk3 hlt2 hkA hbA hbZ hcp2 hbA2 hkA2 hsecond hk2
      go_wp2_with ((with_reducible show wpList _ _ _ (⟨_, .store 63 (.tmp 9) (.tmp 27), _, _, _, _⟩ :: _) _ _); refine wpList_store_any rfl 63 (.tmp 9) (.tmp 27) rfl _ rfl _ rfl _ HST.out ?_)
      refine wp_region_last (l := [_, _]) (o := _) (S := fun wx => wx = w3.drew) (by kernel_rfl) rfl (by kernel_rfl) (fun d _ _ _ _ h => by cases d <;> exact h) rfl (by kernel_rfl) (by kernel_rfl) ?_
      repeat (refine EachList.cons ?_ (EachIf.val rfl ?h) ?_; (case h => (intro wx hx; go_simp; rfl)); simp only [Act.put, List.setIfInBounds_toArray, List.set_cons_zero, List.set_cons_succ])
      refine EachList.done fun wx hx => ?_
      subst hx
      refine wpList_copy_any rfl (.tmp 28) (.tmp 29) 44 44 rfl _ _ rfl rfl (HCP2.out _) ?_
      have HBL0 := Lib.hid (Blk.new wA ZN 22)
      have HL93 := Lib.hid (load_r13 (HBA.out.alloc (.cells ZN 22)) HAL.out)
      have HU : Hid (∀ k, k < 13 → (u64s (numAll (putAll B ps) r)).toArray[k]? = some (.int .u64 ((numAll (putAll B ps) r).getD k 0))) := fun k hk => by rw [List.getElem?_toArray, u64s_get (by rw [HAL.out]; exact hk)]
      have HWA : Hid (w.heap.size + 1 + 1 < wA.heap.size) := HBA.out.lt
      clear HBA
      generalize hal : numAll (putAll B ps) r = al at *
      have HALE := Lib.hid hal
      clear hal
      generalize (u64s al).toArray = UA at *
      go_wp2_with ((with_reducible show wpList _ _ _ (⟨_, .load 104 (.tmp 7), _, _, _, _⟩ :: _) _ _); refine wpList_load_any rfl 104 (.tmp 7) rfl _ rfl _ HL93.out ?_)
      clear hzr HL93
      go_loopg [32] 13 (fun gh s32 wx => ∃ k : Nat, k + gh = 13 ∧ s32 = .int .i64 (k : Int) ∧ Hid (Blk wx wA.heap.size (zs (fillTo 0 al k)).toArray 22 ∧ Blk wx (w.heap.size + 1) ZN 22 ∧ (∀ i, i < k → al.getD i 0 < 256) ∧ Keeps [] w wx))
      case atStart =>
        refine ⟨0, by omega, rfl, ?_, HBZ.out.alloc _, by simp, HKA.out.alloc _⟩
        rw [fillTo_zero, HAL.out, HZZ.out]
        exact HBL0.out
      case round =>
        clear HBZ HKA HBL0
        obtain ⟨k, hk, rfl, HP⟩ := hrel
        obtain ⟨hb1, hb2, hpre, hkp⟩ := HP.out
        cases gk with
        | zero =>
          obtain rfl : k = 13 := by omega
          rw [show fillTo 0 al 13 = al by rw [← HAL.out]; exact fillTo_all 0 al] at hb1
          have hnA : wA.heap.size ∉ [w.heap.size + 1] := by have := HWA.out; rw [List.mem_singleton]; omega
          have HLB := Lib.hid (fun (wx : World) (hk : Keeps [w.heap.size + 1] wr wx) => load_n13 (off := 0) (hb1.keep hk hnA) HAL.out (fun k hk => by rw [Nat.zero_add, List.getElem?_toArray, zs_get (by rw [HAL.out]; exact hk)]))
          have HSB : Hid (∀ wx, Blk wx (w.heap.size + 1) ZN 22 → ∃ w', (storeVar 22 ⟨w.heap.size + 1, 0, none⟩ (.agg (zs al).toArray)).run Tryd.prog wx = .ok () w' ∧ Blk w' (w.heap.size + 1) (zs al).toArray 22 ∧ Keeps [w.heap.size + 1] wx w') := fun wx hb => by
            have hz := HZZ.out
            exact store_whole (P := Tryd.prog) (ty := 22) (cs := zs al) (by rw [zs_len, HAL.out]; exact size_n13) hb (by rw [← hz, zs_len, HAL.out]; simp [zs_len]) (zs_one _)
          have HLF : Hid (∀ wx, Blk wx (w.heap.size + 1) (zs al).toArray 22 → (loadVar 22 ⟨w.heap.size + 1, 0, none⟩).run Tryd.prog wx = .ok (.agg (zs al).toArray) wx) := fun wx hb => load_n13 (off := 0) hb HAL.out (fun k hk => by rw [Nat.zero_add, List.getElem?_toArray, zs_get (by rw [HAL.out]; exact hk)])
          have HKP := Lib.hid hkp
          have HBN := Lib.hid hb2
          have hwn1 : w.heap.size ≤ w.heap.size + 1 := by omega
          have HRE := Lib.hid (rest_at al HAL.out)
          have HEQ8 := Lib.hid (fun wx => eq_n8 (a := al.drop 5) (b := List.replicate 8 0) (by simp [HAL.out]) rfl wx)
          have hg8 := guard_n8
          have hz8v := zero_n8
          obtain ⟨t, ht⟩ : ∃ t, decide (al.drop 5 = List.replicate 8 0) = t := ⟨_, rfl⟩
          have HF : Hid (NumOk (putAll B ps) r ↔ t = false) := by
            show _ ↔ _
            rw [HNO.out, ← ht, decide_eq_false_iff_not]
            exact ⟨fun h => h.2.2.resolve_left hl0, fun h => ⟨by omega, hpre, .inr h⟩⟩
          rw [ht] at HEQ8
          have heq8 := HEQ8.out
          generalize (zs (al.drop 5)).toArray = ZD at *
          generalize (zs (List.replicate 8 0)).toArray = ZE at *
          clear ht HEQ8
          clear HP hb1 hb2 hpre hkp hk HNO HBC HB0 HB1 HK1 hnA
          generalize hza : (zs al).toArray = ZA at *
          have HZA := Lib.hid hza
          clear hza
          go_wp2_with fail
          refine wp_region_store (l := [_, _, _, _, _, _, _, _, _, _, _]) (f := _) (mid := [_]) (o := _) (tl := []) (S := fun b wx => Keeps [w.heap.size + 1] wr wx ∧ Blk wx (w.heap.size + 1) (cond b ZA ZN) 22) (by kernel_rfl) rfl (by kernel_rfl) (fun d _ _ _ _ h => by cases d <;> exact h) ⟨(Keeps.refl _ _).drew, HBN.out.drew⟩ (by kernel_rfl) (by kernel_rfl) ?_
          repeat (first
            | (refine EachListB.cons (.agg ZA) (fun b => EachIf.load rfl 22 (.tmp 10) rfl _ rfl fun wx hx => HLB.out wx hx.1) ?_; simp only [Act.put, List.setIfInBounds_toArray, List.set_cons_zero, List.set_cons_succ])
            | (refine EachListB.cons (.agg ZD) (fun b => EachIf.call rfl 63 #[.agg ZA] ?he ?h) ?_; (case he => (intro wz; go_simp)); (case h => exact fun wx hx => (HRE.out wx).mono fun e w' he => ⟨he.1, hx.1.trans he.2 (by simp), hx.2.keep he.2 (by simp)⟩); simp only [Act.put, List.setIfInBounds_toArray, List.set_cons_zero, List.set_cons_succ])
            | (refine EachListB.cons undef (fun b => EachIf.off rfl) ?_; simp only [Act.put, List.setIfInBounds_toArray, List.set_cons_zero, List.set_cons_succ])
            | (refine EachListB.cons ?_ (fun b => EachIf.val rfl ?h) ?_; (case h => (intro wx hx; clear hx; go_simp; rfl)); simp only [Act.put, List.setIfInBounds_toArray, List.set_cons_zero, List.set_cons_succ]))
          refine EachListB.done ⟨undef, Each2.store rfl 22 (.tmp 4) (.tmp 44) rfl _ rfl _ rfl (fun wx hx => ?_), ?_⟩
          · obtain ⟨w', h1, h2, h3⟩ := HSB.out wx hx.2
            exact ⟨w', h1, hx.1.trans' h3, h2⟩
          refine EachList.cons ?_ (EachIf.val rfl ?h) ?_
          case h => intro wx hx; clear hx; go_simp; rfl
          simp only [Act.put, List.setIfInBounds_toArray, List.set_cons_zero, List.set_cons_succ]
          refine EachList.done fun wx hx => ?_
          have HLD6 := Lib.hid (HLF.out wx hx.2)
          have HK6 := Lib.hid (HKP.out.trans hx.1 (by intro x hx; rw [List.mem_singleton] at hx; omega))
          clear hx
          go_wp2_with fail
          refine bodyPost_ret (results_cell3 Tryd.results42 rfl HLD6.out rfl rfl) rfl ⟨al, li, !t, ?_, fun h => ⟨HF.out.2 (by simpa using h), HALE.out.symm, HZL.out.symm⟩, fun h hn => ?_, HAL.out, HK6.out⟩
          · rw [HZA.out]
            show Ending.returned (.tuple #[.agg ZA, .int .i64 (IntKind.i64.wrap li), .bool !t]) = _
            rw [HWLI.out]
          · have := HF.out.1 hn
            rw [this] at h
            cases h
        | succ gg =>
          have hk13 : k < 13 := by omega
          have hlt : (k : Int) < 13 := by omega
          have hk0 : (0 : Int) ≤ (k : Int) := by omega
          have hix := index_r13 hk13 (HU.out k hk13)
          have hx0 := HA64.out k
          by_cases hbx : 256 ≤ al.getD k 0
          · have HF : Hid (¬ NumOk (putAll B ps) r) := fun h => by have := (HNO.out.1 h).2.1 k hk13; omega
            obtain ⟨w5, hst5, hld5, hk5⟩ := HSZ.out wr hb2
            have HST5 := Lib.hid hst5
            have HLD5 := Lib.hid hld5
            have HK5 := Lib.hid (hkp.trans hk5 (by simp))
            clear hst5 hld5 hk5 HP hb1 hb2 hpre hkp hk
            generalize al.getD k 0 = x at *
            go_wp2_with ((with_reducible show wpList _ _ _ (⟨_, .store 22 (.tmp 4) (.tmp 38), _, _, _, _⟩ :: _) _ _); refine wpList_store_any rfl 22 (.tmp 4) (.tmp 38) rfl _ rfl _ rfl _ HST5.out ?_)
            refine bodyPost_ret (results_cell3 Tryd.results42 rfl HLD5.out rfl rfl) rfl ⟨List.replicate 13 0, 0, false, ?_, fun h => (by cases h), fun _ => HF.out, by simp, HK5.out⟩
            rw [HZZ.out]
            rfl
          · have hwx : wrap64 (al.getD k 0) = al.getD k 0 := by unfold wrap64; omega
            have hcell : wr.cell? ⟨wA.heap.size, k, none⟩ = some (.int .i64 ((fillTo 0 al k).getD k 0)) := by
              rw [hb1.cell, List.getElem?_toArray, zs_get (by rw [fillTo_len _ _ _ (by rw [HAL.out]; omega), HAL.out]; exact hk13)]
            have hfz : wr.frozen? ⟨wA.heap.size, k, none⟩ = false := hb1.frozen k
            have HR : Hid (Blk (wr.setCell ⟨wA.heap.size, k, none⟩ (.int .i64 (al.getD k 0))) wA.heap.size (zs (fillTo 0 al (k + 1))).toArray 22 ∧ Blk (wr.setCell ⟨wA.heap.size, k, none⟩ (.int .i64 (al.getD k 0))) (w.heap.size + 1) ZN 22 ∧ (∀ i, i < k + 1 → al.getD i 0 < 256) ∧ Keeps [] w (wr.setCell ⟨wA.heap.size, k, none⟩ (.int .i64 (al.getD k 0)))) := by
              have hlA := HWA.out
              refine ⟨?_, hb2.other (by show w.heap.size + 1 ≠ wA.heap.size; omega) _, fun i hi => ?_, hkp.setCell (.inr (by show w.heap.size ≤ wA.heap.size; omega)) _⟩
              · have := hb1.set k (.int .i64 (al.getD k 0))
                rw [List.setIfInBounds_toArray, zs_set, fillTo_succ 0 al k (by rw [HAL.out]; exact hk13) (al.getD k 0) (by simp [List.getD_eq_getElem?_getD, show k < al.length by rw [HAL.out]; exact hk13])] at this
                exact this
              · by_cases e : i = k
                · subst e; omega
                · exact hpre i (by omega)
            clear HP hb1 hb2 hpre hkp
            generalize al.getD k 0 = x at *
            generalize (fillTo 0 al k).getD k 0 = y at *
            go_wp2_with fail
            go_roundg gg
            case measure => omega
            case rel => exact ⟨k + 1, by omega, by go_num, HR.out⟩

end Go.Proofs.YtmhcnkjmnbnldaaDoor

namespace Go.Proofs.YtmhcnkjmnbnldaaDoor
open Go.RowKit

/-- Name as far as the word of the bytes: what is known there. -/
structure NameMid (W : Nat) (w1 w2 : World) : Prop where
  st : (storeVar 135 ⟨w1.heap.size, 0, none⟩ (.agg (u8s (byts W)).toArray)).run Tryd.prog (w1.alloc (.cells (u8s (List.replicate 8 0)).toArray 135)) = .ok () w2
  c7 : w2.cell? ⟨w1.heap.size, 7, none⟩ = some (.int .u8 (byt W 7 : Nat))
  conv : byt W 7 ≤ 7 → (convert 136 9 (.slice (some ⟨w1.heap.size, 0, none⟩) (byt W 7) 8)).run Tryd.prog w2 = .ok (.string (strN ((byts W).take (byt W 7)))) w2
  keeps : Keeps [] w1 w2

theorem nameMid (W : Nat) (w1 : World) : ∃ w2, NameMid W w1 w2 := by
  obtain ⟨w2, hs, hb, hk⟩ := store_bytes (l := List.replicate 8 0) (by simp) (byts_len W) (Blk.new w1 (u8s (List.replicate 8 0)).toArray 135)
  have hc : ∀ j, j < 8 → w2.cell? ⟨w1.heap.size, j, none⟩ = some (.int .u8 (byt W j : Nat)) := fun j hj => by
    rw [hb.cell, ← byts_get W j hj]
    simpa using u8s_get (l := byts W) (j := j) (by rw [byts_len]; omega)
  refine ⟨w2, hs, hc 7 (by omega), fun h7 => ?_, ((Keeps.refl [] w1).alloc _).trans hk (by simp)⟩
  have hl : (((byts W).take (byt W 7)).map UInt8.ofNat).length = byt W 7 := by simp [byts_len]; omega
  have := run_convert_bytes_back (P := Tryd.prog) w2 136 9 5 ⟨w1.heap.size, 0, none⟩ 8 (((byts W).take (byt W 7)).map UInt8.ofNat) Tryd.underlying136 Tryd.underlying5 Tryd.underlying9 fun j hj => by
    rw [hl] at hj
    have hadd : (⟨w1.heap.size, 0, none⟩ : Addr).add j = ⟨w1.heap.size, j, none⟩ := by unfold Addr.add; split <;> simp_all
    rw [hadd, hc j (by omega)]
    have hb := byt_lt W j
    simp [byts, Nat.mod_eq_of_lt hb]
  rw [hl] at this
  exact this

theorem slice_bytes (b n : Nat) (hn : n ≤ 7) (w : World) : (Instr.sliceAt 135 (.pointer (some ⟨b, 0, none⟩)) none (some (.int .i64 (n : Int))) none).run Tryd.prog w = .ok (.slice (some ⟨b, 0, none⟩) n 8) w := by
  have hc : n = 0 ∨ n = 1 ∨ n = 2 ∨ n = 3 ∨ n = 4 ∨ n = 5 ∨ n = 6 ∨ n = 7 := by omega
  rcases hc with rfl | rfl | rfl | rfl | rfl | rfl | rfl | rfl <;> (show Sem.run _ _ _ = _; kernel_rfl)

set_option maxHeartbeats 1000000 in
theorem name_at (W : Nat) (w : World) :
    Calls Tryd.prog 86 #[.int .u64 (W : Int)] w fun e w' => e = .returned (.tuple #[.string (strN ((nameN W).getD [])), .bool (nameN W).isSome]) ∧ Keeps [] w w' := by
  have HB := Lib.hid (bytes_at W w)
  have hlt := byt_lt W 7
  go_enter Tryd.func86, Tryd.ntmps86
  go_wp2_with fail
  refine HB.out.mono ?_
  rintro e w1 ⟨rfl, hk1⟩
  obtain ⟨w2, hm⟩ := nameMid W w1
  have c7 := hm.c7
  have HM := Lib.hid hm
  have HK := Lib.hid (hk1.trans hm.keeps (by simp))
  clear hm hk1 HB
  by_cases h7 : byt W 7 ≤ 7
  · have hcv := HM.out.conv h7
    have hwl : ∀ c ∈ (byts W).take (byt W 7), c < 256 := take_lt (byts_lt W) _
    have HW := word_at (strN ((byts W).take (byt W 7))) (by rw [strN_size]; simp [byts_len]; omega) w2
    rw [bl_strN hwl] at HW
    unfold wordV at HW
    have HN : Hid (nameN W = if goodN ((byts W).take (byt W 7)) = true ∧ wordN ((byts W).take (byt W 7)) = W then some ((byts W).take (byt W 7)) else none) := by
      show nameN W = _
      unfold nameN
      simp only [h7, true_and]
    generalize (byts W).take (byt W 7) = l at *
    clear hwl
    generalize byt W 7 = n at *
    have HW := Lib.hid HW
    have hsl := fun wz => slice_bytes w1.heap.size n h7 wz
    have h7d : decide (7 < (n : Int)) = false := by simp; omega
    cases hg : goodN l
    · rw [hg, if_neg (by simp)] at HW
      rw [hg, if_neg (by simp)] at HN
      clear hg
      go_wp2_with (first | ((with_reducible show wpList _ _ _ (⟨_, .store 135 (.tmp 4) (.tmp 10), _, _, _, _⟩ :: _) _ _); refine wpList_store_any rfl 135 (.tmp 4) (.tmp 10) rfl _ rfl _ rfl _ HM.out.st ?_) | (go_at_call 85; refine HW.out.mono ?_; rintro e w3 ⟨rfl, hk3⟩; have HK3 := Lib.hid hk3; clear hk3))
      go_ret2
      exact ⟨by rw [HN.out]; rfl, HK.out.trans HK3.out (by simp)⟩
    · rw [hg, if_pos rfl] at HW
      rw [hg] at HN
      clear hg
      by_cases hw : wordN l = W
      · rw [if_pos ⟨rfl, hw⟩] at HN
        rw [hw] at HW
        clear hw
        go_wp2_with (first | ((with_reducible show wpList _ _ _ (⟨_, .store 135 (.tmp 4) (.tmp 10), _, _, _, _⟩ :: _) _ _); refine wpList_store_any rfl 135 (.tmp 4) (.tmp 10) rfl _ rfl _ rfl _ HM.out.st ?_) | (go_at_call 85; refine HW.out.mono ?_; rintro e w3 ⟨rfl, hk3⟩; have HK3 := Lib.hid hk3; clear hk3))
        go_ret2
        exact ⟨by rw [HN.out]; rfl, HK.out.trans HK3.out (by simp)⟩
      · rw [if_neg (fun h => hw h.2)] at HN
        have e1 : ((wordN l : Int) != (W : Int)) = true := by simp; omega
        clear hw
        go_wp2_with (first | ((with_reducible show wpList _ _ _ (⟨_, .store 135 (.tmp 4) (.tmp 10), _, _, _, _⟩ :: _) _ _); refine wpList_store_any rfl 135 (.tmp 4) (.tmp 10) rfl _ rfl _ rfl _ HM.out.st ?_) | (go_at_call 85; refine HW.out.mono ?_; rintro e w3 ⟨rfl, hk3⟩; have HK3 := Lib.hid hk3; clear hk3))
        go_ret2
        exact ⟨by rw [HN.out]; rfl, HK.out.trans HK3.out (by simp)⟩
  · have HN : Hid (nameN W = none) := by
      show nameN W = none
      unfold nameN
      rw [if_neg (fun h => h7 h.1)]
    generalize byt W 7 = n at *
    go_wp2_with (first | ((with_reducible show wpList _ _ _ (⟨_, .store 135 (.tmp 4) (.tmp 10), _, _, _, _⟩ :: _) _ _); refine wpList_store_any rfl 135 (.tmp 4) (.tmp 10) rfl _ rfl _ rfl _ HM.out.st ?_))
    go_ret2
    exact ⟨by rw [HN.out]; rfl, HK.out⟩

end Go.Proofs.YtmhcnkjmnbnldaaDoor

namespace Go.Proofs.YtmhcnkjmnbnldaaDoor
open Go.RowKit

/-- The entries that words tell. -/
def entsL (L : List Int) (n : Nat) : List (ByteArray × Int) := (List.range n).map fun k => (strN ((nameN (L.getD (k * 2) 0).toNat).getD []), L.getD (k * 2 + 1) 0)

def EntsLOk (L : List Int) (n : Nat) : Prop := ∀ k, k < n → (nameN (L.getD (k * 2) 0).toNat).isSome = true ∧ L.getD (k * 2 + 1) 0 < 32

theorem entsL_len (L : List Int) (n : Nat) : (entsL L n).length = n := by simp [entsL]

theorem entsL_get (L : List Int) (n e : Nat) (h : e < n) : enm (entsL L n) e = strN ((nameN (L.getD (e * 2) 0).toNat).getD []) ∧ eno (entsL L n) e = L.getD (e * 2 + 1) 0 := by
  have : (entsL L n).getD e (ByteArray.empty, 0) = (strN ((nameN (L.getD (e * 2) 0).toNat).getD []), L.getD (e * 2 + 1) 0) := by
    rw [entsL, List.getD_eq_getElem?_getD, List.getElem?_map, List.getElem?_range h]
    rfl
  rw [enm, eno, this]
  exact ⟨rfl, rfl⟩

theorem entsL_getElem (L : List Int) (n e : Nat) (h : e < n) : (entsL L n)[e]'(by rw [entsL_len]; exact h) = (strN ((nameN (L.getD (e * 2) 0).toNat).getD []), L.getD (e * 2 + 1) 0) := by simp [entsL]

theorem Tryd.info_entry : (Tryd.prog.info? 57).map (fun i => (i.zero, i.size, i.bytes)) = some (some (.agg #[.string ⟨#[]⟩, .int .i64 0]), 2, 24) := by kernel_rfl

theorem make_ents (n : Nat) (hn : n ≤ 100000) (m : Int) (hm : m = (n : Int)) (w : World) : (Instr.makeSlice 23 (.int .i64 m) (.int .i64 m)).run Tryd.prog w =
    .ok (.slice (some ⟨w.heap.size, 0, none⟩) n n) (w.alloc (.cells (madeCells #[.string ⟨#[]⟩, .int .i64 0] (n * 2)) 57)) := by
  subst hm
  obtain ⟨i0, hi, hz0, hz1, hz2⟩ := info_parts Tryd.info_entry
  have := run_make (P := Tryd.prog) w 23 57 i0 _ Tryd.underlying23 hi hz0 .i64 .i64 (n : Int) (n : Int) (by omega) (by omega) (by rw [hz2]; omega) (by omega)
  rw [hz1, Int.toNat_natCast] at this
  exact this

theorem made_ecells (n : Nat) : (madeCells #[Value.string ⟨#[]⟩, Value.int .i64 0] (n * 2)).toList = ecells (List.replicate n (ByteArray.empty, 0)) := by
  apply List.ext_getElem?
  intro j
  simp only [madeCells, Array.toList_map, Array.toList_range, List.getElem?_map]
  by_cases hj : j < n * 2
  · rw [List.getElem?_range hj]
    have hp := ecells_get (List.replicate n (ByteArray.empty, (0 : Int))) (j / 2) (by simp; omega)
    have e0 : enm (List.replicate n (ByteArray.empty, (0 : Int))) (j / 2) = ByteArray.empty := by
      simp [enm, List.getD_eq_getElem?_getD, List.getElem?_replicate]; split <;> rfl
    have e1 : eno (List.replicate n (ByteArray.empty, (0 : Int))) (j / 2) = 0 := by
      simp [eno, List.getD_eq_getElem?_getD, List.getElem?_replicate]; split <;> rfl
    rw [e0, e1] at hp
    rcases (show j % 2 = 0 ∨ j % 2 = 1 by omega) with h | h
    · rw [show j / 2 * 2 = j by omega] at hp
      rw [hp.1]
      simp [h]
      rfl
    · rw [show j / 2 * 2 + 1 = j by omega] at hp
      rw [hp.2]
      simp [h]
  · rw [List.getElem?_eq_none (by simpa using hj), List.getElem?_eq_none (by rw [ecells_len, List.length_replicate]; omega)]; rfl

theorem owns_ents (w : World) (n : Nat) (hn : n ≤ 100000) : Owns (w.alloc (.cells (madeCells #[.string ⟨#[]⟩, .int .i64 0] (n * 2)) 57)) (.slice (some ⟨w.heap.size, 0, none⟩) n n) w.heap.size 57 2 n (ecells (List.replicate n (ByteArray.empty, 0))) := by
  have hs : (madeCells #[Value.string ⟨#[]⟩, Value.int .i64 0] (n * 2)).size = n * 2 := by rw [← Array.length_toList, made_ecells, ecells_len, List.length_replicate]
  refine ⟨by rw [ecells_len, List.length_replicate], _, n, rfl, Nat.le_refl _, by unfold maxLen; omega, fun _ => ⟨rfl, _, Blk.new _ _ _, hs, ?_⟩⟩
  rw [made_ecells, List.take_of_length_le (by rw [ecells_len, List.length_replicate]; omega)]

theorem ecells_set (l : List (ByteArray × Int)) (a : ByteArray) (x : Int) : ∀ k, ((ecells l).set (k * 2) (.string a)).set (k * 2 + 1) (.int .i64 x) = ecells (l.set k (a, x)) := by
  induction l with
  | nil => intro k; rfl
  | cons p l ih =>
    intro k
    have hc : ∀ (p : ByteArray × Int) l, ecells (p :: l) = .string p.1 :: .int .i64 p.2 :: ecells l := fun _ _ => rfl
    cases k with
    | zero => rfl
    | succ k => rw [hc, List.set_cons_succ, hc, ← ih k, show (k + 1) * 2 = k * 2 + 1 + 1 by omega]; rfl

theorem Owns.ent {w : World} {v : Value} {g T n : Nat} {l : List (ByteArray × Int)} (h : Owns w v g T 2 n (ecells l)) (k : Nat) (a : ByteArray) (x : Int) :
    Owns ((w.setCell ⟨g, k * 2, none⟩ (.string a)).setCell ⟨g, k * 2 + 1, none⟩ (.int .i64 x)) v g T 2 n (ecells (l.set k (a, x))) := by
  have := (h.set (k * 2) (.string a)).set (k * 2 + 1) (.int .i64 x)
  rw [ecells_set] at this
  exact this

/-- What EntriesOf leaves. -/
def EntsLPost (w : World) (L : List Int) (n : Nat) (e : Ending) (w' : World) : Prop :=
  (∃ g, e = .returned (.tuple #[.slice (some ⟨g, 0, none⟩) n n, .bool true]) ∧ Owns w' (.slice (some ⟨g, 0, none⟩) n n) g 57 2 n (ecells (entsL L n)) ∧ w.heap.size ≤ g ∧ EntsLOk L n ∧ Keeps [] w w') ∨
  (e = .returned (.tuple #[.slice none 0 0, .bool false]) ∧ ¬ EntsLOk L n ∧ Keeps [] w w')

set_option maxRecDepth 100000 in
set_option maxHeartbeats 8000000 in
theorem rowEntriesOf_at {w : World} {v : Value} {g : Nat} {L : List Int} (h : Reads w v g (u64s L)) (hL : L.length ≤ 1000) (n : Nat) (hn : n = L.length / 2) (h64 : ∀ k, 0 ≤ L.getD k 0 ∧ L.getD k 0 < 18446744073709551616) :
    Calls Tryd.prog 68 #[v] w (EntsLPost w L n) := by
  obtain ⟨a, cap, rfl, h1, h2, HC⟩ := u64s_cell h
  have H := Lib.hid h
  have hq : ((L.length : Int)).tdiv 2 = (n : Int) := by rw [hn, Int.ofNat_tdiv]; rfl
  have hmk := make_ents n (by omega) (n : Int) rfl w
  have HO0 : Hid (Owns (w.alloc (.cells (madeCells #[.string ⟨#[]⟩, .int .i64 0] (n * 2)) 57)) (.slice (some ⟨w.heap.size, 0, none⟩) n n) w.heap.size 57 2 n (ecells (fillTo (ByteArray.empty, 0) (entsL L n) 0))) := by
    have := owns_ents w n (by omega)
    rw [fillTo_zero, entsL_len]
    exact this
  have HK0 : Hid (Keeps [] w (w.alloc (.cells (madeCells #[.string ⟨#[]⟩, .int .i64 0] (n * 2)) 57))) := (Keeps.refl _ _).alloc _
  have HL2 : Hid (2 * n ≤ L.length) := by show _ ≤ _; omega
  have hn5 : n ≤ 500 := by omega
  have H64 := Lib.hid h64
  generalize hm : L.length = m at *
  clear h h64 hn hL hm
  generalize madeCells #[Value.string ⟨#[]⟩, Value.int .i64 0] (n * 2) = MC at *
  go_enter Tryd.func68, Tryd.ntmps68
  go_wp2_with fail
  clear hmk
  go_loopg [15] n (fun gh s15 wx => ∃ k : Nat, k + gh = n ∧ s15 = .int .i64 (k : Int) ∧ Hid (Owns wx (.slice (some ⟨w.heap.size, 0, none⟩) n n) w.heap.size 57 2 n (ecells (fillTo (ByteArray.empty, 0) (entsL L n) k)) ∧ (∀ j, j < k → (nameN (L.getD (j * 2) 0).toNat).isSome = true ∧ L.getD (j * 2 + 1) 0 < 32) ∧ Keeps [] w wx))
  case atStart => exact ⟨0, by omega, rfl, HO0.out, fun j hj => by omega, HK0.out⟩
  case round =>
    clear HO0 HK0
    obtain ⟨k, hk, rfl, HP⟩ := hrel
    cases gk with
    | zero =>
      obtain rfl : k = n := by omega
      have HM : Hid (EntsLPost w L k (.returned (.tuple #[.slice (some ⟨w.heap.size, 0, none⟩) k k, .bool true])) wr) := by
        obtain ⟨ho, hj, hkp⟩ := HP.out
        have e := fillTo_all (ByteArray.empty, (0 : Int)) (entsL L k)
        rw [entsL_len] at e
        rw [e] at ho
        exact .inl ⟨_, rfl, ho, Nat.le_refl _, hj, hkp⟩
      clear HP hk
      go_wp2_with fail
      go_ret2
      exact HM.out
    | succ gk =>
      have hkn : k < n := by omega
      have hlt : (k : Int) < (n : Int) := by omega
      have hk0 : (0 : Int) ≤ (k : Int) := by omega
      obtain ⟨ho, hpre, hkp⟩ := HP.out
      have HPRE := Lib.hid hpre
      have HKP := Lib.hid hkp
      have HOW := Lib.hid ho
      obtain ⟨hgl, off, rfl, c0⟩ := HC.out (2 * k) (by have := HL2.out; omega)
      obtain ⟨-, off', ho', c1⟩ := HC.out (2 * k + 1) (by have := HL2.out; omega)
      cases ho'
      have d0 := (World.cell?_of_block (w := w) (a := ⟨g, off + 2 * k, none⟩) (hkp.block g hgl (by simp))).trans c0
      have HD1 : Hid (∀ wx, Keeps [] wr wx → wx.cell? ⟨g, off + (2 * k + 1), none⟩ = some (.int .u64 (L.getD (k * 2 + 1) 0))) := fun wx hk2 => by
        have := (World.cell?_of_block (w := w) (a := ⟨g, off + (2 * k + 1), none⟩) ((hkp.trans' hk2).block g hgl (by simp))).trans c1
        rw [this, Nat.mul_comm 2 k]
      have hW := H64.out (2 * k)
      have hI := H64.out (k * 2 + 1)
      obtain ⟨W, hWe⟩ : ∃ W : Nat, L.getD (2 * k) 0 = (W : Int) := ⟨(L.getD (2 * k) 0).toNat, by omega⟩
      rw [hWe] at d0
      have HW : Hid ((L.getD (k * 2) 0).toNat = W) := by show _ = _; rw [Nat.mul_comm k 2, hWe]; omega
      have HNM := Lib.hid (name_at W wr)
      have hkm : 2 * (k : Int) + 1 < (m : Int) := by have := HL2.out; omega
      have hk2 : 2 * (k : Int) < (m : Int) := by have := HL2.out; omega
      have HEL := Lib.hid (entsL_getElem L n k hkn)
      rw [HW.out] at HEL
      have hIlt := hI.2
      have hI0 := hI.1
      clear c0 c1 hW hI HP ho hpre hkp hWe
      generalize hino : L.getD (k * 2 + 1) 0 = ino at *
      have HINO := Lib.hid hino
      clear hino
      generalize hok : (nameN W).isSome = okb at *
      have HOKB := Lib.hid hok
      clear hok
      generalize strN ((nameN W).getD []) = nm at *
      have HNO : Hid (¬ (okb = true ∧ ino < 32) → ¬ EntsLOk L n) := fun h hh => by
        have := hh k hkn
        rw [HW.out, HOKB.out, HINO.out] at this
        exact h this
      cases okb
      · have HN : Hid (¬ EntsLOk L n) := HNO.out (by simp)
        go_wp2_with fail
        refine HNM.out.mono ?_; rintro e w6 ⟨rfl, hk6⟩
        have d1 := HD1.out w6 hk6
        have HKX := Lib.hid (HKP.out.trans' hk6)
        clear hk6
        go_wp2_with fail
        go_ret2
        exact .inr ⟨rfl, HN.out, HKX.out⟩
      · by_cases hi32 : 32 ≤ ino
        · have HN : Hid (¬ EntsLOk L n) := HNO.out fun h => by have := h.2; omega
          go_wp2_with fail
          refine HNM.out.mono ?_; rintro e w6 ⟨rfl, hk6⟩
          have d1 := HD1.out w6 hk6
          have HKX := Lib.hid (HKP.out.trans' hk6)
          clear hk6
          go_wp2_with fail
          go_ret2
          exact .inr ⟨rfl, HN.out, HKX.out⟩
        · have hwi : wrap64 ino = ino := by unfold wrap64; omega
          have hlen : (fillTo (ByteArray.empty, (0 : Int)) (entsL L n) k).length = n := by rw [fillTo_len _ _ _ (by rw [entsL_len]; omega), entsL_len]
          go_wp2_with fail
          refine HNM.out.mono ?_; rintro e w6 ⟨rfl, hk6⟩
          have d1 := HD1.out w6 hk6
          have HK6 := Lib.hid (HKP.out.trans' hk6)
          have HO6 := HOW.out.keepIf hk6 (fun _ => by simp)
          obtain ⟨-, -, hc, hf⟩ := HO6.cell (by omega)
          have e0 := (hc (k * 2) (by omega)).trans (ecells_get (fillTo (ByteArray.empty, 0) (entsL L n) k) k (by rw [hlen]; exact hkn)).1
          have e1 := (hc (k * 2 + 1) (by omega)).trans (ecells_get (fillTo (ByteArray.empty, 0) (entsL L n) k) k (by rw [hlen]; exact hkn)).2
          have f0 := hf (k * 2)
          have f1 := hf (k * 2 + 1)
          have HE := Lib.hid (fillTo_succ (ByteArray.empty, (0 : Int)) (entsL L n) k (by rw [entsL_len]; exact hkn) (nm, ino) HEL.out)
          have HP := Lib.hid (HO6.ent k nm ino)
          have HPR : Hid (∀ j, j < k + 1 → (nameN (L.getD (j * 2) 0).toNat).isSome = true ∧ L.getD (j * 2 + 1) 0 < 32) := fun j hj => by
            by_cases e : j = k
            · subst e
              rw [HW.out, HOKB.out, HINO.out]
              exact ⟨rfl, by omega⟩
            · exact HPRE.out j (by omega)
          clear hk6 HO6 hc hf hlen HNO
          generalize enm (fillTo (ByteArray.empty, (0 : Int)) (entsL L n) k) k = o1 at *
          generalize eno (fillTo (ByteArray.empty, (0 : Int)) (entsL L n) k) k = o2 at *
          go_wp2_with fail
          go_roundg gk
          case measure => omega
          case rel =>
            refine ⟨k + 1, by omega, by go_num, ?_, HPR.out, (HK6.out.setCell (.inr (Nat.le_refl _)) _).setCell (.inr (Nat.le_refl _)) _⟩
            rw [← HE.out]
            exact HP.out

end Go.Proofs.YtmhcnkjmnbnldaaDoor

namespace Go.Proofs.YtmhcnkjmnbnldaaDoor
open Go.RowKit

theorem slice_to8 (b c : Nat) (hc : c ≤ 8) (w : World) : (Instr.sliceAt 63 (.pointer (some ⟨b, 0, none⟩)) none (some (.int .i64 (c : Int))) none).run Tryd.prog w = .ok (.slice (some ⟨b, 0, none⟩) c 8) w := by
  have h : c = 0 ∨ c = 1 ∨ c = 2 ∨ c = 3 ∨ c = 4 ∨ c = 5 ∨ c = 6 ∨ c = 7 ∨ c = 8 := by omega
  rcases h with rfl | rfl | rfl | rfl | rfl | rfl | rfl | rfl | rfl
  all_goals (show Sem.run _ _ _ = _; kernel_rfl)

/-- A part of an array of words, as a slice. -/
theorem Blk.reads {w : World} {b T o n c : Nat} {l : List Int} (h : Blk w b (u64s l).toArray T) (hn : o + n ≤ l.length) (hc : n ≤ c) (hm : c ≤ 1000) : Reads w (.slice (some ⟨b, o, none⟩) n c) b (u64s ((l.drop o).take n)) := by
  have hl : (u64s ((l.drop o).take n)).length = n := by rw [u64s_len, List.length_take, List.length_drop]; omega
  refine ⟨_, c, by rw [hl], by rw [hl]; exact hc, by unfold maxLen; omega, fun _ => ⟨h.lt, o, rfl, fun j hj => ?_⟩⟩
  rw [hl] at hj
  rw [h.cell, List.getElem?_toArray, u64s_get (by omega), u64s_get (by rw [List.length_take, List.length_drop]; omega)]
  simp [List.getD_eq_getElem?_getD, hj]

theorem Keeps.grown2 {w wr w1 : World} {row : Option Nat} (hk : Keeps [] w wr) (hg : wr.grownBy w1 row) (hr : ∀ k, row = some k → w.heap.size ≤ k) : Keeps [] w w1 := hk.grown hg hr

/-- What entriesOf leaves. -/
def EntsPost (w : World) (X l : List Int) (m : Nat) (e : Ending) (w' : World) : Prop :=
  ∃ v E ok g, e = .returned (.tuple #[v, .bool ok]) ∧ EReads w' v g E ∧ w.heap.size ≤ g ∧ (ok = true → EntsOk X l m ∧ E = entsE X l m) ∧ (ok = false → ¬ EntsOk X l m ∧ E = []) ∧ Keeps [] w w'

theorem EntsPost.no {w w' : World} {X l : List Int} {m : Nat} (h : ¬ EntsOk X l m) (hk : Keeps [] w w') : EntsPost w X l m (.returned (.tuple #[.slice none 0 0, .bool false])) w' :=
  ⟨_, [], false, w.heap.size, rfl, EReads.nil _ _, Nat.le_refl _, fun h => (by cases h), fun _ => ⟨h, rfl⟩, hk⟩

set_option maxRecDepth 100000 in
set_option maxHeartbeats 8000000 in
theorem entriesOf_at {w : World} {b gp : Nat} {B : List Int} {ps : List (Int × Int)} (h : ShAt w b gp B ps) (h64 : In64 (putAll B ps)) (l : List Int) (hl : l.length = 13) (hl256 : ∀ k, 0 ≤ l.getD k 0 ∧ l.getD k 0 < 256) (m : Nat) (hm : m ≤ 832) :
    Calls Tryd.prog 43 #[.pointer (some ⟨b, 0, none⟩), .agg (zs l).toArray, .int .i64 (m : Int)] w (EntsPost w (putAll B ps) l m) := by
  have HS := Lib.hid h
  have H64 := Lib.hid h64
  have hb0 := Blk.new w (zs l).toArray 22
  have HB0 := Lib.hid hb0
  have HK0 : Hid (Keeps [] w (w.alloc (.cells (zs l).toArray 22))) := (Keeps.refl _ _).alloc _
  have hpa := parts_at m 4 (by omega) (by omega) (by omega)
  rw [show (m + 4 - 1) / 4 = blocksN m by unfold blocksN; congr 1] at hpa
  have HP := Lib.hid hpa
  have hbn : blocksN m ≤ 300 := by unfold blocksN; omega
  have HLD : Hid (∀ wx, Keeps [] (w.alloc (.cells (zs l).toArray 22)) wx → (loadVar 22 ⟨w.heap.size, 0, none⟩).run Tryd.prog wx = .ok (.agg (zs l).toArray) wx) := fun wx hk =>
    load_n13 (off := 0) (hb0.keep hk (by simp)) hl (fun k hk => by rw [Nat.zero_add, List.getElem?_toArray, zs_get (by omega)])
  have HCELL : Hid (∀ wx k, k < 13 → Keeps [] (w.alloc (.cells (zs l).toArray 22)) wx → wx.cell? ⟨w.heap.size, k, none⟩ = some (.int .i64 (l.getD k 0))) := fun wx k hk hkp => by
    rw [(hb0.keep hkp (by simp)).cell, List.getElem?_toArray, zs_get (by omega)]
  have HL256 := Lib.hid hl256
  have HL := Lib.hid hl
  clear h h64 hb0 hpa hl256
  generalize hz : (zs l).toArray = Z at *
  have HZ := Lib.hid hz
  clear hz
  by_cases h24 : 24 < m
  · have HN : Hid (¬ EntsOk (putAll B ps) l m) := fun h => by have := h.1; omega
    have hg24 : (24 : Int) < (m : Int) := by omega
    generalize blocksN m = cnt at *
    clear hl
    go_enter Tryd.func43, Tryd.ntmps43
    go_wp2_with fail
    refine (HP.out _).mono ?_; rintro e w' ⟨rfl, rfl⟩
    go_wp2_with fail
    have hd24 : decide (24 < m) = true := decide_eq_true h24
    refine wp_region_each (S := fun wx => wx = (w.alloc (.cells Z 22)).drew) (by kernel_rfl) (by kernel_rfl) (fun d _ _ _ _ h => by cases d <;> exact h) rfl (by kernel_rfl) ?_
    repeat (first
      | (refine EachList.cons undef (EachIf.off rfl) ?_; simp only [Act.put, List.setIfInBounds_toArray, List.set_cons_zero, List.set_cons_succ])
      | (refine EachList.cons (.bool true) (EachIf.val rfl ?h) ?_; (case h => (intro wx hx; clear hx; first | (go_simp; done) | (go_simp; simp [hd24]; done))); simp only [Act.put, List.setIfInBounds_toArray, List.set_cons_zero, List.set_cons_succ])
      | (refine EachList.cons ?_ (EachIf.val rfl ?h) ?_; (case h => (intro wx hx; go_simp; rfl)); simp only [Act.put, List.setIfInBounds_toArray, List.set_cons_zero, List.set_cons_succ]))
    refine EachList.done fun wx hx => ?_
    subst hx
    go_wp2_with fail
    go_ret2
    exact EntsPost.no HN.out HK0.out.drew
  · have hd24 : decide (24 < m) = false := decide_eq_false h24
    have hn24 : ¬ (24 : Int) < (m : Int) := by omega
    have hcnt13 : blocksN m ≤ 13 := by unfold blocksN; omega
    have HU := Lib.hid (upTo_at l (blocksN m) hl hcnt13)
    have HEQ := Lib.hid (fun wx => eq_n13 (a := l) (b := uptoL l (blocksN m)) hl (uptoL_len hl hcnt13) wx)
    rw [HZ.out] at HU HEQ
    have hg13 := guard_n13
    obtain ⟨t, ht⟩ : ∃ t, decide (l = uptoL l (blocksN m)) = t := ⟨_, rfl⟩
    rw [ht] at HEQ
    have heq := HEQ.out
    generalize (zs (uptoL l (blocksN m))).toArray = ZU at *
    clear HEQ
    cases t
    · have HN : Hid (¬ EntsOk (putAll B ps) l m) := fun h => of_decide_eq_false ht h.2.1
      clear ht hl HL HL256
      generalize blocksN m = cnt at *
      go_enter Tryd.func43, Tryd.ntmps43
      go_wp2_with fail
      refine (HP.out _).mono ?_; rintro e w' ⟨rfl, rfl⟩
      go_wp2_with fail
      refine wp_region_each (S := fun wx => Keeps [] (w.alloc (.cells Z 22)) wx) (by kernel_rfl) (by kernel_rfl) (fun d _ _ _ _ h => by cases d <;> exact h) ((Keeps.refl _ _).drew) (by kernel_rfl) ?_
      repeat (first
        | (refine EachList.cons (.agg Z) (EachIf.load rfl 22 (.tmp 4) rfl _ rfl fun wx hx => HLD.out wx hx) ?_; simp only [Act.put, List.setIfInBounds_toArray, List.set_cons_zero, List.set_cons_succ])
        | (refine EachList.cons (.agg ZU) (EachIf.call rfl 67 #[.agg Z, .int .i64 (cnt : Int)] ?he ?h) ?_; (case he => (intro wz; go_simp)); (case h => exact fun wx hx => (HU.out wx).mono fun e w' he => ⟨he.1, hx.trans' he.2⟩); simp only [Act.put, List.setIfInBounds_toArray, List.set_cons_zero, List.set_cons_succ])
        | (refine EachList.cons (.bool false) (EachIf.val rfl ?h) ?_; (case h => (intro wx hx; clear hx; first | (go_simp; done) | (go_simp; simp [hd24]; done))); simp only [Act.put, List.setIfInBounds_toArray, List.set_cons_zero, List.set_cons_succ])
        | (refine EachList.cons ?_ (EachIf.val rfl ?h) ?_; (case h => (intro wx hx; clear hx; go_simp; rfl)); simp only [Act.put, List.setIfInBounds_toArray, List.set_cons_zero, List.set_cons_succ]))
      refine EachList.done fun wx hx => ?_
      have HKX := Lib.hid (HK0.out.trans' hx)
      clear hx
      go_wp2_with fail
      go_ret2
      exact EntsPost.no HN.out HKX.out
    · have hlu := of_decide_eq_true ht
      have HLU := Lib.hid hlu
      clear hlu
      have hsl := fun wx => slice_to w.heap.size (blocksN m) hcnt13 wx
      clear ht hl
      generalize hcn : blocksN m = cnt at *
      have HCN := Lib.hid hcn
      clear hcn
      go_enter Tryd.func43, Tryd.ntmps43
      go_wp2_with fail
      refine (HP.out _).mono ?_; rintro e w' ⟨rfl, rfl⟩
      go_wp2_with fail
      refine wp_region_each (S := fun wx => Keeps [] (w.alloc (.cells Z 22)) wx) (by kernel_rfl) (by kernel_rfl) (fun d _ _ _ _ h => by cases d <;> exact h) ((Keeps.refl _ _).drew) (by kernel_rfl) ?_
      repeat (first
        | (refine EachList.cons (.agg Z) (EachIf.load rfl 22 (.tmp 4) rfl _ rfl fun wx hx => HLD.out wx hx) ?_; simp only [Act.put, List.setIfInBounds_toArray, List.set_cons_zero, List.set_cons_succ])
        | (refine EachList.cons (.agg ZU) (EachIf.call rfl 67 #[.agg Z, .int .i64 (cnt : Int)] ?he ?h) ?_; (case he => (intro wz; go_simp)); (case h => exact fun wx hx => (HU.out wx).mono fun e w' he => ⟨he.1, hx.trans' he.2⟩); simp only [Act.put, List.setIfInBounds_toArray, List.set_cons_zero, List.set_cons_succ])
        | (refine EachList.cons (.bool false) (EachIf.val rfl ?h) ?_; (case h => (intro wx hx; clear hx; first | (go_simp; done) | (go_simp; simp [hd24]; done))); simp only [Act.put, List.setIfInBounds_toArray, List.set_cons_zero, List.set_cons_succ])
        | (refine EachList.cons ?_ (EachIf.val rfl ?h) ?_; (case h => (intro wx hx; clear hx; go_simp; rfl)); simp only [Act.put, List.setIfInBounds_toArray, List.set_cons_zero, List.set_cons_succ]))
      refine EachList.done fun w1 hx => ?_
      have HK1 := Lib.hid hx
      clear hx
      obtain ⟨E, hE⟩ : ∃ E, E = entsE (putAll B ps) l m := ⟨_, rfl⟩
      have HE := Lib.hid hE
      have hEl : E.length = m := by rw [hE]; exact entsE_len _ _ _
      have HEL := Lib.hid hEl
      have HEG : Hid (∀ e, e < m → enm E e = strN ((nameN (entW (putAll B ps) l e)).getD []) ∧ eno E e = entI (putAll B ps) l e) := fun e he => by rw [hE]; exact entsE_get _ _ _ _ he
      have hm4 : m ≤ 4 * cnt ∧ ∀ k, k < cnt → 4 * k < m := by
        have hc := HCN.out
        unfold blocksN at hc
        exact ⟨by omega, fun k hk => by omega⟩
      have HM4 := Lib.hid hm4
      clear hE hEl hm4
      obtain ⟨i0, hi, hz0, hz1, hz2⟩ := info_parts Tryd.info_entry
      have HI := Lib.hid hi
      have hzr8 := zero_r8
      clear hi
      go_wp2_with fail
      clear hsl heq hg13
      go_loopg [9, 29] cnt (fun gh s9 s29 wx => ∃ k : Nat, k + gh = cnt ∧ s29 = .int .i64 (k : Int) ∧ Hid (wx.ownsRow (w.heap.size + 1) 57 2 s9 (min m (4 * k)) (ecells (E.take (4 * k))) ∧ (∀ i, i < k → BlkOk (putAll B ps) l m i) ∧ Keeps [] (w.alloc (.cells Z 22)) wx))
      case atStart => exact ⟨0, by omega, rfl, ⟨by simp [ecells], .inl ⟨rfl, by simp⟩⟩, by simp, HK1.out⟩
      case round =>
        clear HK1
        obtain ⟨k, hk, rfl, HP⟩ := hrel
        obtain ⟨hown, hpre, hkp⟩ := HP.out
        cases gk with
        | zero =>
          obtain rfl : k = cnt := by omega
          have HFIN : Hid (EntsPost w (putAll B ps) l m (.returned (.tuple #[u9, .bool true])) wr) := by
            have h1 := HM4.out.1
            rw [Nat.min_eq_left h1, List.take_of_length_le (by rw [HEL.out]; exact h1)] at hown
            obtain ⟨g, ho, hg⟩ := Owns.of_row hown
            obtain ⟨g2, hg2, hr2⟩ : ∃ g2, w.heap.size ≤ g2 ∧ EReads wr u9 g2 E := by
              by_cases h0 : m = 0
              · exact ⟨w.heap.size, Nat.le_refl _, (ho.ereads HEL.out.symm).anyG (by rw [HEL.out, h0]) _⟩
              · exact ⟨g, by have := (hg h0).1; omega, ho.ereads HEL.out.symm⟩
            exact ⟨u9, E, true, g2, rfl, hr2, hg2, fun _ => ⟨⟨by omega, by rw [HCN.out]; exact HLU.out, by rw [HCN.out]; exact hpre⟩, HE.out⟩, fun h => (by cases h), HK0.out.trans' hkp⟩
          clear HP hown hpre hkp hk
          go_wp2_with fail
          go_ret2
          exact HFIN.out
        | succ gg =>
          have hkc : k < cnt := by omega
          have hlt : (k : Int) < (cnt : Int) := by omega
          have hk0 : (0 : Int) ≤ (k : Int) := by omega
          have hk4 := HM4.out.2 k hkc
          have hcell := HCELL.out wr k (by omega) hkp
          have hb256 := HL256.out k
          have HNB : Hid (¬ BlkOk (putAll B ps) l m k → ¬ EntsOk (putAll B ps) l m) := fun h hh => h (hh.2.2 k (by rw [HCN.out]; exact hkc))
          have HBO : Hid (BlkOk (putAll B ps) l m k ↔ l.getD k 0 ≠ 0 ∧ (∀ j, j < min 4 (m - 4 * k) → (nameN (entW (putAll B ps) l (4 * k + j))).isSome = true ∧ entI (putAll B ps) l (4 * k + j) < 32) ∧ entRow E k = rowL (putAll B ps) (1080 + 8 * (l.getD k 0).toNat)) := by
            have e := HE.out
            show _ ↔ _
            rw [e]
            exact Iff.rfl
          have HPRE := Lib.hid hpre
          have HKP := Lib.hid hkp
          have HPL : Hid (∀ j, j < 4 → entAt l (4 * k + j) = 1080 + 8 * (l.getD k 0).toNat + 2 * j) := fun j hj => ent_place l k j hj
          obtain ⟨q, hq⟩ : ∃ q : Nat, l.getD k 0 = (q : Int) := ⟨(l.getD k 0).toNat, by omega⟩
          rw [hq] at hcell HBO HPL hb256
          rw [Int.toNat_natCast] at HBO HPL
          rw [Nat.min_eq_right (by omega)] at hown
          have HOW := Lib.hid hown
          clear HP hown hpre hkp hq
          by_cases hq0 : q = 0
          · subst hq0
            have HN : Hid (¬ EntsOk (putAll B ps) l m) := HNB.out fun h => (HBO.out.1 h).1 rfl
            have HKX := Lib.hid (HK0.out.trans' HKP.out)
            clear HBO HPL HNB hk
            go_wp2_with fail
            go_ret2
            exact EntsPost.no HN.out HKX.out
          · have e0 : ((q : Int) == 0) = false := beq_eq_false_iff_ne.2 (by omega)
            have hblk := txBlock_at (q : Int) wr
            rw [show blockN (q : Int) = ((1080 + 8 * q : Nat) : Int) by unfold blockN; rw [if_neg (by omega)]; omega] at hblk
            have HBLK := Lib.hid hblk
            have HROW := Lib.hid (rowAt_at (HS.out.keep (HK0.out.trans' HKP.out) (by simp) (by simp)) (1080 + 8 * q) (by omega))
            obtain ⟨r, hr⟩ : ∃ r, r = rowL (putAll B ps) (1080 + 8 * q) := ⟨_, rfl⟩
            rw [← hr] at HROW HBO
            have HRX := Lib.hid hr
            have hr8 : r.length = 8 := by rw [hr]; exact rowL_len _ _
            have HRG : Hid (∀ j, j < 4 → r.getD (j * 2) 0 = ((entW (putAll B ps) l (4 * k + j) : Nat) : Int) ∧ r.getD (j * 2 + 1) 0 = entI (putAll B ps) l (4 * k + j)) := fun j hj => by
              have hpl := HPL.out j hj
              rw [hr, rowL_get _ _ _ (by omega), rowL_get _ _ _ (by omega)]
              unfold entW entI
              rw [hpl]
              have h64 := H64.out (1080 + 8 * q + 2 * j)
              rw [show 1080 + 8 * q + j * 2 = 1080 + 8 * q + 2 * j by omega, show 1080 + 8 * q + (j * 2 + 1) = 1080 + 8 * q + 2 * j + 1 by omega]
              exact ⟨by omega, rfl⟩
            have HR8 := Lib.hid hr8
            have HI64 : Hid (∀ j, j < 4 → 0 ≤ entI (putAll B ps) l (4 * k + j)) := fun j hj => by
              have := (H64.out (entAt l (4 * k + j) + 1)).1
              exact this
            clear hr hr8 HPL hblk
            generalize hp : ((1080 + 8 * q : Nat) : Int) = p at *
            clear hp
            obtain ⟨c, hc⟩ : ∃ c, c = min 4 (m - 4 * k) := ⟨_, rfl⟩
            have HC := Lib.hid hc
            have hc4 : c ≤ 4 := by omega
            have hcm : 4 * k + c ≤ m := by omega
            have hsub : (m : Int) - (k : Int) * 4 = ((m - 4 * k : Nat) : Int) := by omega
            obtain ⟨d, hd⟩ : ∃ d, d = m - 4 * k := ⟨_, rfl⟩
            rw [← hd] at hsub hc
            have hHc : ((4 : Int) ≤ (d : Int) ∧ c = 4) ∨ ((d : Int) < 4 ∧ c = d) := by omega
            clear hc hd
            have hww : w.heap.size + 1 ≤ wr.heap.size := by have := HKP.out.size; simpa using this
            go_wp2_with fail
            refine HBLK.out.mono ?_; rintro e w' ⟨rfl, rfl⟩
            go_wp2_with fail
            refine HROW.out.mono ?_; rintro e w3 ⟨rfl, hk3⟩
            obtain ⟨w5, hst, hb5, hk5⟩ := store_whole (P := Tryd.prog) (ty := 63) (cs := u64s r) (by rw [u64s_len, HR8.out]; exact size_r8) (Blk.new w3 (u64s (List.replicate 8 0)).toArray 63) (by simp [u64s_len, HR8.out]) (u64s_one _)
            have hw3 := hk3.size
            have HST := Lib.hid hst
            have HB5 := Lib.hid hb5
            have HK5 : Hid (Keeps [] wr w5) := ((hk3.alloc (.cells (u64s (List.replicate 8 0)).toArray 63)).trans hk5 (by intro x hx; rw [List.mem_singleton] at hx; omega))
            clear hst hb5 hk5 hk3 HBLK HROW
            have HKW : Hid (Keeps [] (w.alloc (.cells Z 22)) w5) := HKP.out.trans' HK5.out
            have HE5 : Hid (∀ g, u9.ownBlock = some g → g ≠ w3.heap.size) := fun g hg => by
              obtain ⟨-, h1⟩ := HOW.out
              rcases h1 with ⟨hv, -⟩ | ⟨g2, cap, cur, hv, -, hh, -⟩
              · rw [hv] at hg; cases hg
              · rw [hv] at hg
                cases hg
                have := (Array.getElem?_eq_some_iff.1 hh).1
                show g2 ≠ w3.heap.size
                omega
            have HO5 : Hid (w5.ownsRow (w.heap.size + 1) 57 2 u9 (4 * k + 0) (ecells (E.take (4 * k + 0)))) := ownsRow_keep HOW.out HK5.out (by simp)
            have hw31 : w.heap.size + 1 ≤ w3.heap.size := by omega
            obtain ⟨n2, hn2⟩ : ∃ n2, n2 = 2 * c := ⟨_, rfl⟩
            have HGT : Hid (∀ j, j < c → (r.take n2).getD (j * 2) 0 = ((entW (putAll B ps) l (4 * k + j) : Nat) : Int) ∧ (r.take n2).getD (j * 2 + 1) 0 = entI (putAll B ps) l (4 * k + j)) := fun j hj => by
              have e0 : (r.take n2).getD (j * 2) 0 = r.getD (j * 2) 0 := by simp [List.getD_eq_getElem?_getD, show j * 2 < n2 by omega]
              have e1 : (r.take n2).getD (j * 2 + 1) 0 = r.getD (j * 2 + 1) 0 := by simp [List.getD_eq_getElem?_getD, show j * 2 + 1 < n2 by omega]
              rw [e0, e1]
              exact HRG.out j (by omega)
            have HLOK : Hid (EntsLOk (r.take n2) c ↔ ∀ j, j < c → (nameN (entW (putAll B ps) l (4 * k + j))).isSome = true ∧ entI (putAll B ps) l (4 * k + j) < 32) := by
              constructor
              · intro h j hj
                have := h j hj
                rw [(HGT.out j hj).1, (HGT.out j hj).2, Int.toNat_natCast] at this
                exact this
              · intro h j hj
                rw [(HGT.out j hj).1, (HGT.out j hj).2, Int.toNat_natCast]
                exact h j hj
            have HEE : Hid (E.take (4 * k + c) = E.take (4 * k) ++ entsL (r.take n2) c) := by
              show _ = _
              rw [List.take_add]
              congr 1
              have hl1 : ((E.drop (4 * k)).take c).length = c := by rw [List.length_take, List.length_drop, HEL.out]; omega
              refine e_ext (by rw [hl1, entsL_len]) fun j hj => ?_
              rw [hl1] at hj
              rw [(ent_sub E (4 * k) c j hj).1, (ent_sub E (4 * k) c j hj).2, (entsL_get _ _ _ hj).1, (entsL_get _ _ _ hj).2, (HGT.out j hj).1, (HGT.out j hj).2, Int.toNat_natCast]
              exact HEG.out _ (by omega)
            have HR64 : Hid (∀ j, 0 ≤ (r.take n2).getD j 0 ∧ (r.take n2).getD j 0 < 18446744073709551616) := fun j => by
              by_cases hj : j < n2
              · have e0 : (r.take n2).getD j 0 = r.getD j 0 := by simp [List.getD_eq_getElem?_getD, hj]
                rw [e0, HRX.out]
                by_cases hj8 : j < 8
                · rw [rowL_get _ _ _ hj8]; exact H64.out _
                · rw [List.getD_eq_getElem?_getD, List.getElem?_eq_none (by rw [rowL_len]; omega)]
                  simp
              · rw [List.getD_eq_getElem?_getD, List.getElem?_eq_none (by rw [List.length_take]; omega)]
                simp
            have hRD : Reads w5 (.slice (some ⟨w3.heap.size, 0, none⟩) n2 8) w3.heap.size (u64s (r.take n2)) := by
              have := HB5.out.reads (o := 0) (n := n2) (c := 8) (by rw [HR8.out]; omega) (by omega) (by omega)
              rwa [List.drop_zero] at this
            have HEOF := Lib.hid (rowEntriesOf_at hRD (by rw [List.length_take, HR8.out]; omega) c (by rw [List.length_take, HR8.out]; omega) HR64.out)
            have HSL8 : Hid (∀ x : Int, x = (n2 : Int) → ∀ wx, (Instr.sliceAt 63 (.pointer (some ⟨w3.heap.size, 0, none⟩)) none (some (.int .i64 x)) none).run Tryd.prog wx = .ok (.slice (some ⟨w3.heap.size, 0, none⟩) n2 8) wx) := fun x hx wx => by
              rw [hx]
              exact slice_to8 _ _ (by omega) wx
            have hc1 : 1 ≤ c := by have := HC.out; omega
            clear hRD HRG HGT HR64
            have HN2 := Lib.hid hn2
            clear hn2
            rcases hHc with ⟨hH1, hH2⟩ | ⟨hH1, hH2⟩
            · have hs8 := HSL8.out 8 (by have := HN2.out; omega)
              have HH2 := Lib.hid hH2
              clear hH2 HSL8
              go_wp2_with ((with_reducible show wpList _ _ _ (⟨_, .store 63 (.tmp 12) (.tmp 39), _, _, _, _⟩ :: _) _ _); refine wpList_store_any rfl 63 (.tmp 12) (.tmp 39) rfl _ rfl _ rfl _ HST.out ?_)
              refine HEOF.out.mono ?_; rintro e w6 hpost
              rcases hpost with ⟨g7, rfl, ho7, hg7, hok7, hk6⟩ | ⟨rfl, hno, hk6⟩
              · have hok := HLOK.out.1 hok7
                have HOW6 := Lib.hid (ownsRow_keep HO5.out hk6 (by simp))
                have HK6 := Lib.hid (HK5.out.trans' hk6)
                have HBR6 := Lib.hid (HB5.out.keep hk6 (by simp))
                have HNEWS : Hid (∀ j u, (ecells (entsL (r.take n2) c))[j]? = some u → w6.cell? ((⟨g7, 0, none⟩ : Addr).add j) = some u) := fun j u hu => by
                  obtain ⟨-, -, hcc, -⟩ := ho7.cell (by omega)
                  have hj := (List.getElem?_eq_some_iff.1 hu).1
                  rw [ecells_len, entsL_len] at hj
                  rw [add_plain, Nat.zero_add, hcc j hj]
                  exact hu
                have HNL : Hid ((ecells (entsL (r.take n2) c)).length = c * 2) := by show _ = _; rw [ecells_len, entsL_len]
                have hw6 : w.heap.size + 1 ≤ w6.heap.size := by have := HK6.out.size; omega
                have hi := HI.out
                clear hs8 ho7 hg7 hok7 hk6 HEOF
                go_wp2_with (at_builtin; refine wpList_append_own _ rfl _ _ 23 rfl (w.heap.size + 1) 57 i0 (.agg #[.string ⟨#[]⟩, .int .i64 0]) 2 24 Tryd.underlying23 hi hz0 hz1 hz2 rfl (by decide) u9 (4 * k + 0) _ rfl HOW6.out ⟨g7, 0, none⟩ c c (ecells (entsL (r.take n2) c)) rfl HNL.out HNEWS.out (ecells_one _) (by unfold maxLen; omega) (by omega) hw6 ?_)
                intro v9 w7 hown7 hgrow _
                have hown : w7.ownsRow (w.heap.size + 1) 57 2 v9 (4 * k + c) (ecells (E.take (4 * k + c))) := by
                  rw [HEE.out, ecells_append]
                  exact hown7
                have hbr : Blk w7 w3.heap.size (u64s r).toArray 63 := (hgrow.block _ HBR6.out.lt (fun e => HE5.out _ e.symm rfl)).trans HBR6.out
                have hkp : Keeps [] (w.alloc (.cells Z 22)) w7 := (HKP.out.trans' HK6.out).grown2 hgrow fun g hg => by have := ownsRow_block HOW6.out g hg; simpa using this
                clear hown7 hgrow HOW6 HK6 HBR6 HKW HK5 HO5 HE5 HB5 HKP HOW hi
                obtain ⟨g0, ho0, hg0⟩ := Owns.of_row hown
                have HER := Lib.hid (ho0.ereads (by rw [List.length_take, HEL.out]; omega))
                have HEO : Hid (EntOk (E.take (4 * k + c))) := by
                  have hin : ∀ e, e < 4 * k + c → 0 ≤ entI (putAll B ps) l e ∧ entI (putAll B ps) l e < 32 := fun e he => by
                    have h0 : 0 ≤ entI (putAll B ps) l e := (H64.out (entAt l e + 1)).1
                    refine ⟨h0, ?_⟩
                    by_cases hek : e < 4 * k
                    · have := ((HPRE.out (e / 4) (by omega)).2.1 (e % 4) (by omega)).2
                      rw [show 4 * (e / 4) + e % 4 = e by omega] at this
                      exact this
                    · have := (hok (e - 4 * k) (by omega)).2
                      rw [show 4 * k + (e - 4 * k) = e by omega] at this
                      exact this
                  refine ⟨by rw [List.length_take, HEL.out]; omega, fun e he => ?_, fun e he => ?_⟩
                  · rw [List.length_take, HEL.out] at he
                    rw [(take_ent E (4 * k + c) e (by omega)).1, (HEG.out e (by omega)).1]
                    have := name_size (entW (putAll B ps) l e)
                    omega
                  · rw [List.length_take, HEL.out] at he
                    rw [(take_ent E (4 * k + c) e (by omega)).2, (HEG.out e (by omega)).2]
                    have := hin e (by omega)
                    omega
                have HROWC : Hid (∀ wx, Keeps [] w7 wx → Calls Tryd.prog 37 #[v9, .int .i64 (k : Int)] wx fun e w' => e = .returned (.agg (u64s (entRow E k)).toArray) ∧ Keeps [] wx w') := fun wx hk2 => by
                  have := entryRow_at (HER.out.keep hk2 (by simp)) HEO.out k (by rw [List.length_take, HEL.out]; omega)
                  rw [entRow_take E k c (by rw [HC.out, HEL.out]) (by rw [HEL.out]; exact hk4)] at this
                  exact this
                have HLR : Hid (∀ wx, Keeps [] w7 wx → (loadVar 63 ⟨w3.heap.size, 0, none⟩).run Tryd.prog wx = .ok (.agg (u64s r).toArray) wx) := fun wx hk2 => load_r8 (hbr.keep hk2 (by simp)) HR8.out
                have HEQ8 := Lib.hid (fun wx => eq_r8 (a := entRow E k) (b := r) (entTo_len _ _ _) HR8.out wx)
                have hgr8 := guard_r8
                have HKP := Lib.hid hkp
                have HOW := Lib.hid hown
                obtain ⟨t2, ht2⟩ : ∃ t2, decide (entRow E k = r) = t2 := ⟨_, rfl⟩
                rw [ht2] at HEQ8
                have heq8 := HEQ8.out
                have HBK : Hid (BlkOk (putAll B ps) l m k ↔ t2 = true) := by
                  show _ ↔ _
                  rw [HBO.out, ← ht2, decide_eq_true_iff]
                  refine ⟨fun h => h.2.2, fun h => ⟨by omega, fun i hi => hok i ?_, h⟩⟩
                  have := HC.out
                  omega
                clear hown hok hbr hkp ho0 hg0 ht2 HEQ8
                generalize (u64s (entRow E k)).toArray = ZQ at *
                generalize (u64s r).toArray = ZP at *
                cases t2
                all_goals
                  go_wp2_with fail
                  refine wp_region_each (S := fun wx => Keeps [] w7 wx) (by kernel_rfl) (by kernel_rfl) (fun d _ _ _ _ h => by cases d <;> exact h) ((Keeps.refl _ _).drew) (by kernel_rfl) ?_
                  repeat (first
                    | (refine EachList.cons (.agg ZP) (EachIf.load rfl 63 (.tmp 12) rfl _ rfl fun wx hx => HLR.out wx hx) ?_; simp only [Act.put, List.setIfInBounds_toArray, List.set_cons_zero, List.set_cons_succ])
                    | (refine EachList.cons (.agg ZQ) (EachIf.call rfl 37 #[v9, .int .i64 (k : Int)] ?he ?h) ?_; (case he => (intro wz; go_simp)); (case h => exact fun wx hx => (HROWC.out wx hx).mono fun e w' he => ⟨he.1, hx.trans' he.2⟩); simp only [Act.put, List.setIfInBounds_toArray, List.set_cons_zero, List.set_cons_succ])
                    | (refine EachList.cons ?_ (EachIf.val rfl ?h) ?_; (case h => (intro wx hx; clear hx; go_simp; rfl)); simp only [Act.put, List.setIfInBounds_toArray, List.set_cons_zero, List.set_cons_succ]))
                  refine EachList.done fun wz hx => ?_
                  have HKZ := Lib.hid hx
                  clear hx
                · have HN : Hid (¬ EntsOk (putAll B ps) l m) := HNB.out fun h => by have := HBK.out.1 h; cases this
                  have HKX := Lib.hid (HK0.out.trans' (HKP.out.trans' HKZ.out))
                  go_wp2_with fail
                  go_ret2
                  exact EntsPost.no HN.out HKX.out
                · have HNEXT : Hid (wz.ownsRow (w.heap.size + 1) 57 2 v9 (min m (4 * (k + 1))) (ecells (E.take (4 * (k + 1)))) ∧ (∀ i, i < k + 1 → BlkOk (putAll B ps) l m i) ∧ Keeps [] (w.alloc (.cells Z 22)) wz) := by
                    refine ⟨?_, fun i hi => ?_, HKP.out.trans' HKZ.out⟩
                    · have h1 := ownsRow_keep HOW.out HKZ.out (by simp)
                      have hcc := HC.out
                      rw [show min m (4 * (k + 1)) = 4 * k + c by omega]
                      have e : E.take (4 * (k + 1)) = E.take (4 * k + c) := by
                        by_cases h4 : c = 4
                        · rw [h4, Nat.mul_add]
                        · rw [List.take_of_length_le (by rw [HEL.out]; omega), List.take_of_length_le (by rw [HEL.out]; omega)]
                      rw [e]
                      exact h1
                    · by_cases e : i = k
                      · subst e; exact HBK.out.2 (by simp)
                      · exact HPRE.out i (by omega)
                  go_wp2_with fail
                  go_roundg gg
                  case measure => omega
                  case rel => exact ⟨k + 1, by omega, by go_num, HNEXT.out⟩
              · have HN : Hid (¬ EntsOk (putAll B ps) l m) := HNB.out fun h => hno (HLOK.out.2 fun j hj => (HBO.out.1 h).2.1 j (by have := HC.out; omega))
                have HKX := Lib.hid (HK0.out.trans' ((HKP.out.trans' HK5.out).trans' hk6))
                clear hno hk6 HEOF
                go_wp2_with fail
                go_ret2
                exact EntsPost.no HN.out HKX.out
            · have hd2 : 2 * (d : Int) = (n2 : Int) := by have := HN2.out; omega
              have hs8 := HSL8.out (n2 : Int) rfl
              have HH2 := Lib.hid hH2
              clear hH2 HSL8
              go_wp2_with ((with_reducible show wpList _ _ _ (⟨_, .store 63 (.tmp 12) (.tmp 39), _, _, _, _⟩ :: _) _ _); refine wpList_store_any rfl 63 (.tmp 12) (.tmp 39) rfl _ rfl _ rfl _ HST.out ?_)
              refine HEOF.out.mono ?_; rintro e w6 hpost
              rcases hpost with ⟨g7, rfl, ho7, hg7, hok7, hk6⟩ | ⟨rfl, hno, hk6⟩
              · have hok := HLOK.out.1 hok7
                have HOW6 := Lib.hid (ownsRow_keep HO5.out hk6 (by simp))
                have HK6 := Lib.hid (HK5.out.trans' hk6)
                have HBR6 := Lib.hid (HB5.out.keep hk6 (by simp))
                have HNEWS : Hid (∀ j u, (ecells (entsL (r.take n2) c))[j]? = some u → w6.cell? ((⟨g7, 0, none⟩ : Addr).add j) = some u) := fun j u hu => by
                  obtain ⟨-, -, hcc, -⟩ := ho7.cell (by omega)
                  have hj := (List.getElem?_eq_some_iff.1 hu).1
                  rw [ecells_len, entsL_len] at hj
                  rw [add_plain, Nat.zero_add, hcc j hj]
                  exact hu
                have HNL : Hid ((ecells (entsL (r.take n2) c)).length = c * 2) := by show _ = _; rw [ecells_len, entsL_len]
                have hw6 : w.heap.size + 1 ≤ w6.heap.size := by have := HK6.out.size; omega
                have hi := HI.out
                clear hs8 ho7 hg7 hok7 hk6 HEOF
                go_wp2_with (at_builtin; refine wpList_append_own _ rfl _ _ 23 rfl (w.heap.size + 1) 57 i0 (.agg #[.string ⟨#[]⟩, .int .i64 0]) 2 24 Tryd.underlying23 hi hz0 hz1 hz2 rfl (by decide) u9 (4 * k + 0) _ rfl HOW6.out ⟨g7, 0, none⟩ c c (ecells (entsL (r.take n2) c)) rfl HNL.out HNEWS.out (ecells_one _) (by unfold maxLen; omega) (by omega) hw6 ?_)
                intro v9 w7 hown7 hgrow _
                have hown : w7.ownsRow (w.heap.size + 1) 57 2 v9 (4 * k + c) (ecells (E.take (4 * k + c))) := by
                  rw [HEE.out, ecells_append]
                  exact hown7
                have hbr : Blk w7 w3.heap.size (u64s r).toArray 63 := (hgrow.block _ HBR6.out.lt (fun e => HE5.out _ e.symm rfl)).trans HBR6.out
                have hkp : Keeps [] (w.alloc (.cells Z 22)) w7 := (HKP.out.trans' HK6.out).grown2 hgrow fun g hg => by have := ownsRow_block HOW6.out g hg; simpa using this
                clear hown7 hgrow HOW6 HK6 HBR6 HKW HK5 HO5 HE5 HB5 HKP HOW hi
                obtain ⟨g0, ho0, hg0⟩ := Owns.of_row hown
                have HER := Lib.hid (ho0.ereads (by rw [List.length_take, HEL.out]; omega))
                have HEO : Hid (EntOk (E.take (4 * k + c))) := by
                  have hin : ∀ e, e < 4 * k + c → 0 ≤ entI (putAll B ps) l e ∧ entI (putAll B ps) l e < 32 := fun e he => by
                    have h0 : 0 ≤ entI (putAll B ps) l e := (H64.out (entAt l e + 1)).1
                    refine ⟨h0, ?_⟩
                    by_cases hek : e < 4 * k
                    · have := ((HPRE.out (e / 4) (by omega)).2.1 (e % 4) (by omega)).2
                      rw [show 4 * (e / 4) + e % 4 = e by omega] at this
                      exact this
                    · have := (hok (e - 4 * k) (by omega)).2
                      rw [show 4 * k + (e - 4 * k) = e by omega] at this
                      exact this
                  refine ⟨by rw [List.length_take, HEL.out]; omega, fun e he => ?_, fun e he => ?_⟩
                  · rw [List.length_take, HEL.out] at he
                    rw [(take_ent E (4 * k + c) e (by omega)).1, (HEG.out e (by omega)).1]
                    have := name_size (entW (putAll B ps) l e)
                    omega
                  · rw [List.length_take, HEL.out] at he
                    rw [(take_ent E (4 * k + c) e (by omega)).2, (HEG.out e (by omega)).2]
                    have := hin e (by omega)
                    omega
                have HROWC : Hid (∀ wx, Keeps [] w7 wx → Calls Tryd.prog 37 #[v9, .int .i64 (k : Int)] wx fun e w' => e = .returned (.agg (u64s (entRow E k)).toArray) ∧ Keeps [] wx w') := fun wx hk2 => by
                  have := entryRow_at (HER.out.keep hk2 (by simp)) HEO.out k (by rw [List.length_take, HEL.out]; omega)
                  rw [entRow_take E k c (by rw [HC.out, HEL.out]) (by rw [HEL.out]; exact hk4)] at this
                  exact this
                have HLR : Hid (∀ wx, Keeps [] w7 wx → (loadVar 63 ⟨w3.heap.size, 0, none⟩).run Tryd.prog wx = .ok (.agg (u64s r).toArray) wx) := fun wx hk2 => load_r8 (hbr.keep hk2 (by simp)) HR8.out
                have HEQ8 := Lib.hid (fun wx => eq_r8 (a := entRow E k) (b := r) (entTo_len _ _ _) HR8.out wx)
                have hgr8 := guard_r8
                have HKP := Lib.hid hkp
                have HOW := Lib.hid hown
                obtain ⟨t2, ht2⟩ : ∃ t2, decide (entRow E k = r) = t2 := ⟨_, rfl⟩
                rw [ht2] at HEQ8
                have heq8 := HEQ8.out
                have HBK : Hid (BlkOk (putAll B ps) l m k ↔ t2 = true) := by
                  show _ ↔ _
                  rw [HBO.out, ← ht2, decide_eq_true_iff]
                  refine ⟨fun h => h.2.2, fun h => ⟨by omega, fun i hi => hok i ?_, h⟩⟩
                  have := HC.out
                  omega
                clear hown hok hbr hkp ho0 hg0 ht2 HEQ8
                generalize (u64s (entRow E k)).toArray = ZQ at *
                generalize (u64s r).toArray = ZP at *
                cases t2
                all_goals
                  go_wp2_with fail
                  refine wp_region_each (S := fun wx => Keeps [] w7 wx) (by kernel_rfl) (by kernel_rfl) (fun d _ _ _ _ h => by cases d <;> exact h) ((Keeps.refl _ _).drew) (by kernel_rfl) ?_
                  repeat (first
                    | (refine EachList.cons (.agg ZP) (EachIf.load rfl 63 (.tmp 12) rfl _ rfl fun wx hx => HLR.out wx hx) ?_; simp only [Act.put, List.setIfInBounds_toArray, List.set_cons_zero, List.set_cons_succ])
                    | (refine EachList.cons (.agg ZQ) (EachIf.call rfl 37 #[v9, .int .i64 (k : Int)] ?he ?h) ?_; (case he => (intro wz; go_simp)); (case h => exact fun wx hx => (HROWC.out wx hx).mono fun e w' he => ⟨he.1, hx.trans' he.2⟩); simp only [Act.put, List.setIfInBounds_toArray, List.set_cons_zero, List.set_cons_succ])
                    | (refine EachList.cons ?_ (EachIf.val rfl ?h) ?_; (case h => (intro wx hx; clear hx; go_simp; rfl)); simp only [Act.put, List.setIfInBounds_toArray, List.set_cons_zero, List.set_cons_succ]))
                  refine EachList.done fun wz hx => ?_
                  have HKZ := Lib.hid hx
                  clear hx
                · have HN : Hid (¬ EntsOk (putAll B ps) l m) := HNB.out fun h => by have := HBK.out.1 h; cases this
                  have HKX := Lib.hid (HK0.out.trans' (HKP.out.trans' HKZ.out))
                  go_wp2_with fail
                  go_ret2
                  exact EntsPost.no HN.out HKX.out
                · have HNEXT : Hid (wz.ownsRow (w.heap.size + 1) 57 2 v9 (min m (4 * (k + 1))) (ecells (E.take (4 * (k + 1)))) ∧ (∀ i, i < k + 1 → BlkOk (putAll B ps) l m i) ∧ Keeps [] (w.alloc (.cells Z 22)) wz) := by
                    refine ⟨?_, fun i hi => ?_, HKP.out.trans' HKZ.out⟩
                    · have h1 := ownsRow_keep HOW.out HKZ.out (by simp)
                      have hcc := HC.out
                      rw [show min m (4 * (k + 1)) = 4 * k + c by omega]
                      have e : E.take (4 * (k + 1)) = E.take (4 * k + c) := by
                        by_cases h4 : c = 4
                        · rw [h4, Nat.mul_add]
                        · rw [List.take_of_length_le (by rw [HEL.out]; omega), List.take_of_length_le (by rw [HEL.out]; omega)]
                      rw [e]
                      exact h1
                    · by_cases e : i = k
                      · subst e; exact HBK.out.2 (by simp)
                      · exact HPRE.out i (by omega)
                  go_wp2_with fail
                  go_roundg gg
                  case measure => omega
                  case rel => exact ⟨k + 1, by omega, by go_num, HNEXT.out⟩
              · have HN : Hid (¬ EntsOk (putAll B ps) l m) := HNB.out fun h => hno (HLOK.out.2 fun j hj => (HBO.out.1 h).2.1 j (by have := HC.out; omega))
                have HKX := Lib.hid (HK0.out.trans' ((HKP.out.trans' HK5.out).trans' hk6))
                clear hno hk6 HEOF
                go_wp2_with fail
                go_ret2
                exact EntsPost.no HN.out HKX.out
end Go.Proofs.YtmhcnkjmnbnldaaDoor
