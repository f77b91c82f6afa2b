/-
  Layer 6 (fmt1): numbersOf. Layer 6 (fmt1): entriesOf. Layer 5 (palloc): isBlock, bitsOf, maskOf, Used. Layer 5 (palloc): Set, freeIn. Layer 5 (palloc): the counting of bits (math/bits.OnesCount64), the lowest bit (math/bits.TrailingZeros64).
-/
import Derived.Test.YtmhcnkjmnbnldaaDoorG02
import Derived.Test.YtmhcnkjmnbnldaaDoorG04
import Derived.IntWalk
import Derived.Test.YtmhcnkjmnbnldaaDoorG03
import Derived.Laws.AppendOwn
import Derived.Laws.BitsAllLaws
import Derived.Lib.TrailingZeros
namespace Go.Proofs.YtmhcnkjmnbnldaaDoor
open Go.RowKit

/-- copy(d[o:], s[so:so+m]), of words. -/
theorem copy_words {w : World} {b T o n cap gs Ts so m mc : Nat} {dl sl : List Int} (hb : Blk w b (u64s dl).toArray T) (hs : Blk w gs (u64s sl).toArray Ts) (hm : m ≤ n) (hfit : o + m ≤ dl.length) (hsl : so + m ≤ sl.length) :
    ∃ v w', (∀ ty, (Builtin.copy_ #[44, 44] ty #[.slice (some ⟨b, o, none⟩) n cap, .slice (some ⟨gs, so, none⟩) m mc]).run Tryd.prog w = .ok v w') ∧ Blk w' b (u64s (dl.take o ++ (sl.drop so).take m ++ dl.drop (o + m))).toArray T ∧ Keeps [b] w w' := by
  have hl : (u64s ((sl.drop so).take m)).length = min m n := by rw [u64s_len, List.length_take, List.length_drop]; omega
  refine ⟨_, _, fun ty => run_copy_row (P := Tryd.prog) w 44 44 ty 30 b o n cap ⟨gs, so, none⟩ m mc (u64s dl).toArray T (u64s ((sl.drop so).take m)) Tryd.underlying44 size_u64 hb hl ?_ ?_ ?_, ?_, (Keeps.refl _ _).setRow (by simp) _⟩
  · intro j u hu
    have hj : j < m := by
      have := (List.getElem?_eq_some_iff.1 hu).1
      rw [hl] at this
      omega
    rw [u64s_get (by rw [List.length_take, List.length_drop]; omega)] at hu
    rw [add_plain, hs.cell, List.getElem?_toArray, u64s_get (by omega), ← hu]
    simp [List.getD_eq_getElem?_getD, hj]
  · rw [hl, List.size_toArray, u64s_len]; omega
  · exact fun u hu => u64s_one _ u hu
  · have e : ((u64s dl).toArray.toList.take o ++ u64s ((sl.drop so).take m) ++ (u64s dl).toArray.toList.drop (o + (u64s ((sl.drop so).take m)).length)).toArray = (u64s (dl.take o ++ (sl.drop so).take m ++ dl.drop (o + m))).toArray := by
      rw [hl, Nat.min_eq_left hm]
      simp [u64s, List.map_take, List.map_drop]
    rw [e]
    exact setRow_blk hb

theorem slice_all13 (b : Nat) (w : World) : (Instr.sliceAt 104 (.pointer (some ⟨b, 0, none⟩)) none none none).run Tryd.prog w = .ok (.slice (some ⟨b, 0, none⟩) 13 13) w := by show Sem.run _ _ _ = _; kernel_rfl
theorem slice_five13 (b : Nat) (w : World) : (Instr.sliceAt 104 (.pointer (some ⟨b, 0, none⟩)) (some (.int .i64 5)) none none).run Tryd.prog w = .ok (.slice (some ⟨b, 5, none⟩) 8 8) w := by show Sem.run _ _ _ = _; kernel_rfl
theorem slice_mid8 (b : Nat) (w : World) : (Instr.sliceAt 63 (.pointer (some ⟨b, 0, none⟩)) (some (.int .i64 2)) (some (.int .i64 7)) none).run Tryd.prog w = .ok (.slice (some ⟨b, 2, none⟩) 5 6) w := by show Sem.run _ _ _ = _; kernel_rfl

/-- The numbers of all blocks, of an inode's row r, as the words X have them. -/
def numAll (X r : List Int) : List Int := (r.drop 2).take 5 ++ (if r.getD 7 0 = 0 then List.replicate 8 0 else rowL X (1080 + 8 * (r.getD 7 0).toNat))

/-- All are blocks' numbers, and a list has some. -/
def NumOk (X r : List Int) : Prop := r.getD 7 0 < 256 ∧ (∀ k, k < 13 → (numAll X r).getD k 0 < 256) ∧ (r.getD 7 0 = 0 ∨ (numAll X r).drop 5 ≠ List.replicate 8 0)

instance (X r : List Int) : Decidable (NumOk X r) := by unfold NumOk; infer_instance

theorem numAll_len {X r : List Int} (hr : r.length = 8) : (numAll X r).length = 13 := by
  unfold numAll
  split
  · simp [hr]
  · simp [hr, rowL_len]

theorem second_cells (f row : List Int) (hf : f.length = 5) (hr : row.length = 8) : (f ++ List.replicate 8 (0 : Int)).take 5 ++ (row.drop 0).take 8 ++ (f ++ List.replicate 8 (0 : Int)).drop (5 + 8) = f ++ row := by
  rw [List.take_left' hf, List.drop_zero, List.take_of_length_le (by omega), List.drop_of_length_le (by simp [hf]), List.append_nil]

/-- What numbersOf leaves. -/
def NumPost (w : World) (X r : List Int) (e : Ending) (w' : World) : Prop :=
  ∃ la li ok, e = .returned (.tuple #[.agg (zs la).toArray, .int .i64 li, .bool ok]) ∧ (ok = true → NumOk X r ∧ la = numAll X r ∧ li = r.getD 7 0) ∧ (ok = false → ¬ NumOk X r) ∧ la.length = 13 ∧ Keeps [] w w'

set_option maxRecDepth 100000 in
set_option maxHeartbeats 4000000 in
theorem numbersOf_at {w : World} {b gp : Nat} {B : List Int} {ps : List (Int × Int)} (h : ShAt w b gp B ps) (h64 : In64 (putAll B ps)) (r : List Int) (hr : r.length = 8) (hr64 : In64 r) :
    Calls Tryd.prog 42 #[.pointer (some ⟨b, 0, none⟩), .agg (u64s r).toArray] w (NumPost w (putAll B ps) r) := by
  have HS := Lib.hid h
  have H64 := Lib.hid h64
  have HR64 := Lib.hid hr64
  have hzn := zero_n13
  have hzr := zero_r13
  -- the world behind the three variables
  have hb0 := ((Blk.new w (u64s r).toArray 63).alloc (.cells (zs (List.replicate 13 0)).toArray 22)).alloc (.cells (u64s (List.replicate 13 0)).toArray 104)
  have hb1 := (Blk.new (w.alloc (.cells (u64s r).toArray 63)) (zs (List.replicate 13 0)).toArray 22).alloc (.cells (u64s (List.replicate 13 0)).toArray 104)
  have hb2 := Blk.new ((w.alloc (.cells (u64s r).toArray 63)).alloc (.cells (zs (List.replicate 13 0)).toArray 22)) (u64s (List.replicate 13 0)).toArray 104
  rw [show (w.alloc (.cells (u64s r).toArray 63)).heap.size = w.heap.size + 1 by simp] at hb1
  rw [show ((w.alloc (.cells (u64s r).toArray 63)).alloc (.cells (zs (List.replicate 13 0)).toArray 22)).heap.size = w.heap.size + 1 + 1 by simp] at hb2
  obtain ⟨v1, w1, hcp, hbc, hkc⟩ := copy_words (o := 0) (n := 13) (cap := 13) (so := 2) (m := 5) (mc := 6) hb2.drew hb0.drew (by omega) (by simp) (by omega)
  have hk1 : Keeps [] w w1 := (((((Keeps.refl [] w).alloc _).alloc _).alloc _).drew).trans hkc (by intro x hx; rw [List.mem_singleton] at hx; omega)
  have hb01 := hb0.drew.keep hkc (by rw [List.mem_singleton]; omega)
  have hb11 := hb1.drew.keep hkc (by rw [List.mem_singleton]; omega)
  have hfirst : (List.replicate 13 (0 : Int)).take 0 ++ (r.drop 2).take 5 ++ (List.replicate 13 (0 : Int)).drop (0 + 5) = (r.drop 2).take 5 ++ List.replicate 8 0 := by simp
  rw [hfirst] at hbc
  have HCP := Lib.hid hcp
  have HBC := Lib.hid hbc
  have HB0 := Lib.hid hb01
  have HB1 := Lib.hid hb11
  have HK1 := Lib.hid hk1
  have hs13 := slice_all13 (w.heap.size + 1 + 1)
  have hs8 := slice_mid8 w.heap.size
  have c7 : w1.cell? ⟨w.heap.size, 7, none⟩ = some (.int .u64 (r.getD 7 0)) := by rw [hb01.cell, List.getElem?_toArray, u64s_get (by omega)]
  have HALL : Hid (numAll (putAll B ps) r = (r.drop 2).take 5 ++ (if r.getD 7 0 = 0 then List.replicate 8 0 else rowL (putAll B ps) (1080 + 8 * (r.getD 7 0).toNat))) := rfl
  have HAL := Lib.hid (numAll_len (X := putAll B ps) hr)
  have HNO : Hid (NumOk (putAll B ps) r ↔ r.getD 7 0 < 256 ∧ (∀ k, k < 13 → (numAll (putAll B ps) r).getD k 0 < 256) ∧ (r.getD 7 0 = 0 ∨ (numAll (putAll B ps) r).drop 5 ≠ List.replicate 8 0)) := Iff.rfl
  have HA64 : Hid (In64 (numAll (putAll B ps) r)) := by
    intro i
    have e : numAll (putAll B ps) r = (r.drop 2).take 5 ++ (if r.getD 7 0 = 0 then List.replicate 8 0 else rowL (putAll B ps) (1080 + 8 * (r.getD 7 0).toNat)) := rfl
    by_cases hi : i < 5
    · have : (numAll (putAll B ps) r).getD i 0 = r.getD (2 + i) 0 := by
        rw [e]
        simp only [List.getD_eq_getElem?_getD]
        rw [List.getElem?_append_left (by simp [hr]; omega), List.getElem?_take, if_pos hi, List.getElem?_drop]
      rw [this]
      exact hr64 _
    · have h2 : (numAll (putAll B ps) r).getD i 0 = (if r.getD 7 0 = 0 then List.replicate 8 0 else rowL (putAll B ps) (1080 + 8 * (r.getD 7 0).toNat)).getD (i - 5) 0 := by
        rw [e]
        simp only [List.getD_eq_getElem?_getD]
        rw [List.getElem?_append_right (by simp [hr]; omega)]
        simp [hr]
      rw [h2]
      split
      · rw [List.getD_eq_getElem?_getD, List.getElem?_replicate]
        split <;> simp
      · by_cases h8 : i - 5 < 8
        · rw [rowL_get _ _ _ h8]
          exact h64 _
        · rw [List.getD_eq_getElem?_getD, List.getElem?_eq_none (by rw [rowL_len]; omega)]
          simp
  have hli := hr64 7
  clear hb0 hb1 hb2 hcp hbc hkc hk1 hb01 hb11 h h64 hr64 hfirst
  generalize hzl : r.getD 7 0 = li at *
  have HZL := Lib.hid hzl
  clear hzl
  generalize (u64s r).toArray = Z at *
  generalize hzz : (zs (List.replicate 13 0)).toArray = ZN at *
  have HZZ := Lib.hid hzz
  clear hzz
  generalize (u64s (List.replicate 13 0)).toArray = ZR at *
  have HSZ : Hid (∀ wx, Blk wx (w.heap.size + 1) ZN 22 → ∃ w', (storeVar 22 ⟨w.heap.size + 1, 0, none⟩ (.agg ZN)).run Tryd.prog wx = .ok () w' ∧ (loadVar 22 ⟨w.heap.size + 1, 0, none⟩).run Tryd.prog w' = .ok (.agg ZN) w' ∧ Keeps [w.heap.size + 1] wx w') := fun wx hb => by
    have hz := HZZ.out
    obtain ⟨w', h1, h2, h3⟩ := store_whole (P := Tryd.prog) (ty := 22) (cs := zs (List.replicate 13 0)) (by rw [zs_len]; exact size_n13) hb (by rw [← hz]; simp) (zs_one _)
    have h4 := load_n13 (l := List.replicate 13 0) (off := 0) h2 (by simp) (fun k hk => by rw [Nat.zero_add, List.getElem?_toArray, zs_get (by simpa using hk)])
    rw [hz] at h1 h4
    exact ⟨w', h1, h4, h3⟩
  by_cases hbig : 256 ≤ li
  · have HF : Hid (¬ NumOk (putAll B ps) r) := fun h => by have := (HNO.out.1 h).1; omega
    obtain ⟨w2, hst, hld, hk2⟩ := HSZ.out w1 HB1.out
    have HST := Lib.hid hst
    have HLD := Lib.hid hld
    have HK2 := Lib.hid (HK1.out.trans hk2 (by simp))
    clear hst hld hk2 HALL HNO HA64
    go_enter Tryd.func42, Tryd.ntmps42
    go_wp2_with fail
    refine wp_region_last (l := [_, _]) (o := _) (S := fun wx => wx = (((w.alloc (.cells Z 63)).alloc (.cells ZN 22)).alloc (.cells ZR 104)).drew) (by kernel_rfl) rfl (by kernel_rfl) (fun d _ _ _ _ h => by cases d <;> exact h) rfl (by kernel_rfl) (by kernel_rfl) ?_
    repeat (refine EachList.cons ?_ (EachIf.val rfl ?h) ?_; (case h => (intro wx hx; go_simp; rfl)); simp only [Act.put, List.setIfInBounds_toArray, List.set_cons_zero, List.set_cons_succ])
    refine EachList.done fun wx hx => ?_
    subst hx
    refine wpList_copy_any rfl (.tmp 13) (.tmp 14) 44 44 rfl _ _ rfl rfl (HCP.out _) ?_
    go_wp2_with ((with_reducible show wpList _ _ _ (⟨_, .store 22 (.tmp 4) (.tmp 20), _, _, _, _⟩ :: _) _ _); refine wpList_store_any rfl 22 (.tmp 4) (.tmp 20) rfl _ rfl _ rfl _ HST.out ?_)
    refine bodyPost_ret (results_cell3 Tryd.results42 rfl HLD.out rfl rfl) rfl ⟨List.replicate 13 0, 0, false, ?_, fun h => (by cases h), fun _ => HF.out, by simp, HK2.out⟩
    rw [HZZ.out]
    rfl
  · have hwli : wrap64 li = li := by unfold wrap64; omega
    have hzr8 := zero_r8
    have HWLI : Hid (IntKind.i64.wrap li = li) := IntWalk.i64_in _ (by omega)
    by_cases hl0 : li = 0
    · have HBA : Hid (Blk w1 (w.heap.size + 1 + 1) (u64s (numAll (putAll B ps) r)).toArray 104) := by
        have e := HALL.out
        rw [if_pos hl0] at e
        show Blk _ _ _ _
        rw [e]
        exact HBC.out
      have HLE : Hid (li = 0 ∨ (numAll (putAll B ps) r).drop 5 ≠ List.replicate 8 0 ↔ True) := ⟨fun _ => trivial, fun _ => .inl hl0⟩
      have HBZ := HB1
      have HKA := HK1
      have e0 : (li == 0) = true := beq_iff_eq.2 hl0
      have e1 : (li != 0) = false := by rw [bne, e0]; rfl
      go_enter Tryd.func42, Tryd.ntmps42
      go_wp2_with fail
      refine wp_region_last (l := [_, _]) (o := _) (S := fun wx => wx = (((w.alloc (.cells Z 63)).alloc (.cells ZN 22)).alloc (.cells ZR 104)).drew) (by kernel_rfl) rfl (by kernel_rfl) (fun d _ _ _ _ h => by cases d <;> exact h) rfl (by kernel_rfl) (by kernel_rfl) ?_
      repeat (refine EachList.cons ?_ (EachIf.val rfl ?h) ?_; (case h => (intro wx hx; go_simp; rfl)); simp only [Act.put, List.setIfInBounds_toArray, List.set_cons_zero, List.set_cons_succ])
      refine EachList.done fun wx hx => ?_
      subst hx
      refine wpList_copy_any rfl (.tmp 13) (.tmp 14) 44 44 rfl _ _ rfl rfl (HCP.out _) ?_
      clear HALL
      generalize w1 = wA at *
      have HBL0 := Lib.hid (Blk.new wA ZN 22)
      have HL93 := Lib.hid (load_r13 (HBA.out.alloc (.cells ZN 22)) HAL.out)
      have HU : Hid (∀ k, k < 13 → (u64s (numAll (putAll B ps) r)).toArray[k]? = some (.int .u64 ((numAll (putAll B ps) r).getD k 0))) := fun k hk => by rw [List.getElem?_toArray, u64s_get (by rw [HAL.out]; exact hk)]
      have HWA : Hid (w.heap.size + 1 + 1 < wA.heap.size) := HBA.out.lt
      clear HBA
      generalize hal : numAll (putAll B ps) r = al at *
      have HALE := Lib.hid hal
      clear hal
      generalize (u64s al).toArray = UA at *
      go_wp2_with ((with_reducible show wpList _ _ _ (⟨_, .load 104 (.tmp 7), _, _, _, _⟩ :: _) _ _); refine wpList_load_any rfl 104 (.tmp 7) rfl _ rfl _ HL93.out ?_)
      clear hzr HL93
      go_loopg [32] 13 (fun gh s32 wx => ∃ k : Nat, k + gh = 13 ∧ s32 = .int .i64 (k : Int) ∧ Hid (Blk wx wA.heap.size (zs (fillTo 0 al k)).toArray 22 ∧ Blk wx (w.heap.size + 1) ZN 22 ∧ (∀ i, i < k → al.getD i 0 < 256) ∧ Keeps [] w wx))
      case atStart =>
        refine ⟨0, by omega, rfl, ?_, HBZ.out.alloc _, by simp, HKA.out.alloc _⟩
        rw [fillTo_zero, HAL.out, HZZ.out]
        exact HBL0.out
      case round =>
        clear HBZ HKA HBL0
        obtain ⟨k, hk, rfl, HP⟩ := hrel
        obtain ⟨hb1, hb2, hpre, hkp⟩ := HP.out
        cases gk with
        | zero =>
          obtain rfl : k = 13 := by omega
          rw [show fillTo 0 al 13 = al by rw [← HAL.out]; exact fillTo_all 0 al] at hb1
          have hnA : wA.heap.size ∉ [w.heap.size + 1] := by have := HWA.out; rw [List.mem_singleton]; omega
          have HLB := Lib.hid (fun (wx : World) (hk : Keeps [w.heap.size + 1] wr wx) => load_n13 (off := 0) (hb1.keep hk hnA) HAL.out (fun k hk => by rw [Nat.zero_add, List.getElem?_toArray, zs_get (by rw [HAL.out]; exact hk)]))
          have HSB : Hid (∀ wx, Blk wx (w.heap.size + 1) ZN 22 → ∃ w', (storeVar 22 ⟨w.heap.size + 1, 0, none⟩ (.agg (zs al).toArray)).run Tryd.prog wx = .ok () w' ∧ Blk w' (w.heap.size + 1) (zs al).toArray 22 ∧ Keeps [w.heap.size + 1] wx w') := fun wx hb => by
            have hz := HZZ.out
            exact store_whole (P := Tryd.prog) (ty := 22) (cs := zs al) (by rw [zs_len, HAL.out]; exact size_n13) hb (by rw [← hz, zs_len, HAL.out]; simp [zs_len]) (zs_one _)
          have HLF : Hid (∀ wx, Blk wx (w.heap.size + 1) (zs al).toArray 22 → (loadVar 22 ⟨w.heap.size + 1, 0, none⟩).run Tryd.prog wx = .ok (.agg (zs al).toArray) wx) := fun wx hb => load_n13 (off := 0) hb HAL.out (fun k hk => by rw [Nat.zero_add, List.getElem?_toArray, zs_get (by rw [HAL.out]; exact hk)])
          have HKP := Lib.hid hkp
          have HBN := Lib.hid hb2
          have hwn1 : w.heap.size ≤ w.heap.size + 1 := by omega
          have HF : Hid (NumOk (putAll B ps) r) := HNO.out.2 ⟨by omega, hpre, .inl hl0⟩
          clear HP hb1 hb2 hpre hkp hk HNO HBC HB0 HB1 HK1 hnA
          generalize hza : (zs al).toArray = ZA at *
          have HZA := Lib.hid hza
          clear hza
          go_wp2_with fail
          refine wp_region_store (l := [_, _, _, _, _, _, _, _, _, _, _]) (f := _) (mid := [_]) (o := _) (tl := []) (S := fun b wx => Keeps [w.heap.size + 1] wr wx ∧ Blk wx (w.heap.size + 1) (cond b ZA ZN) 22) (by kernel_rfl) rfl (by kernel_rfl) (fun d _ _ _ _ h => by cases d <;> exact h) ⟨(Keeps.refl _ _).drew, HBN.out.drew⟩ (by kernel_rfl) (by kernel_rfl) ?_
          repeat (first
            | (refine EachListB.cons (.agg ZA) (fun b => EachIf.load rfl 22 (.tmp 10) rfl _ rfl fun wx hx => HLB.out wx hx.1) ?_; simp only [Act.put, List.setIfInBounds_toArray, List.set_cons_zero, List.set_cons_succ])
            | (refine EachListB.cons undef (fun b => EachIf.off rfl) ?_; simp only [Act.put, List.setIfInBounds_toArray, List.set_cons_zero, List.set_cons_succ])
            | (refine EachListB.cons ?_ (fun b => EachIf.val rfl ?h) ?_; (case h => (intro wx hx; clear hx; go_simp; rfl)); simp only [Act.put, List.setIfInBounds_toArray, List.set_cons_zero, List.set_cons_succ]))
          refine EachListB.done ⟨undef, Each2.store rfl 22 (.tmp 4) (.tmp 44) rfl _ rfl _ rfl (fun wx hx => ?_), ?_⟩
          · obtain ⟨w', h1, h2, h3⟩ := HSB.out wx hx.2
            exact ⟨w', h1, hx.1.trans' h3, h2⟩
          refine EachList.cons ?_ (EachIf.val rfl ?h) ?_
          case h => intro wx hx; clear hx; go_simp; rfl
          simp only [Act.put, List.setIfInBounds_toArray, List.set_cons_zero, List.set_cons_succ]
          refine EachList.done fun wx hx => ?_
          have HLD6 := Lib.hid (HLF.out wx hx.2)
          have HK6 := Lib.hid (HKP.out.trans hx.1 (by intro x hx; rw [List.mem_singleton] at hx; omega))
          clear hx
          go_wp2_with fail
          refine bodyPost_ret (results_cell3 Tryd.results42 rfl HLD6.out rfl rfl) rfl ⟨al, 0, true, ?_, fun _ => ⟨HF.out, HALE.out.symm, by rw [HZL.out]; exact hl0.symm⟩, fun h => (by cases h), HAL.out, HK6.out⟩
          rw [HZA.out]
          rfl
        | succ gg =>
          have hk13 : k < 13 := by omega
          have hlt : (k : Int) < 13 := by omega
          have hk0 : (0 : Int) ≤ (k : Int) := by omega
          have hix := index_r13 hk13 (HU.out k hk13)
          have hx0 := HA64.out k
          by_cases hbx : 256 ≤ al.getD k 0
          · have HF : Hid (¬ NumOk (putAll B ps) r) := fun h => by have := (HNO.out.1 h).2.1 k hk13; omega
            obtain ⟨w5, hst5, hld5, hk5⟩ := HSZ.out wr hb2
            have HST5 := Lib.hid hst5
            have HLD5 := Lib.hid hld5
            have HK5 := Lib.hid (hkp.trans hk5 (by simp))
            clear hst5 hld5 hk5 HP hb1 hb2 hpre hkp hk
            generalize al.getD k 0 = x at *
            go_wp2_with ((with_reducible show wpList _ _ _ (⟨_, .store 22 (.tmp 4) (.tmp 38), _, _, _, _⟩ :: _) _ _); refine wpList_store_any rfl 22 (.tmp 4) (.tmp 38) rfl _ rfl _ rfl _ HST5.out ?_)
            refine bodyPost_ret (results_cell3 Tryd.results42 rfl HLD5.out rfl rfl) rfl ⟨List.replicate 13 0, 0, false, ?_, fun h => (by cases h), fun _ => HF.out, by simp, HK5.out⟩
            rw [HZZ.out]
            rfl
          · have hwx : wrap64 (al.getD k 0) = al.getD k 0 := by unfold wrap64; omega
            have hcell : wr.cell? ⟨wA.heap.size, k, none⟩ = some (.int .i64 ((fillTo 0 al k).getD k 0)) := by
              rw [hb1.cell, List.getElem?_toArray, zs_get (by rw [fillTo_len _ _ _ (by rw [HAL.out]; omega), HAL.out]; exact hk13)]
            have hfz : wr.frozen? ⟨wA.heap.size, k, none⟩ = false := hb1.frozen k
            have HR : Hid (Blk (wr.setCell ⟨wA.heap.size, k, none⟩ (.int .i64 (al.getD k 0))) wA.heap.size (zs (fillTo 0 al (k + 1))).toArray 22 ∧ Blk (wr.setCell ⟨wA.heap.size, k, none⟩ (.int .i64 (al.getD k 0))) (w.heap.size + 1) ZN 22 ∧ (∀ i, i < k + 1 → al.getD i 0 < 256) ∧ Keeps [] w (wr.setCell ⟨wA.heap.size, k, none⟩ (.int .i64 (al.getD k 0)))) := by
              have hlA := HWA.out
              refine ⟨?_, hb2.other (by show w.heap.size + 1 ≠ wA.heap.size; omega) _, fun i hi => ?_, hkp.setCell (.inr (by show w.heap.size ≤ wA.heap.size; omega)) _⟩
              · have := hb1.set k (.int .i64 (al.getD k 0))
                rw [List.setIfInBounds_toArray, zs_set, fillTo_succ 0 al k (by rw [HAL.out]; exact hk13) (al.getD k 0) (by simp [List.getD_eq_getElem?_getD, show k < al.length by rw [HAL.out]; exact hk13])] at this
                exact this
              · by_cases e : i = k
                · subst e; omega
                · exact hpre i (by omega)
            clear HP hb1 hb2 hpre hkp
            generalize al.getD k 0 = x at *
            generalize (fillTo 0 al k).getD k 0 = y at *
            go_wp2_with fail
            go_roundg gg
            case measure => omega
            case rel => exact ⟨k + 1, by omega, by go_num, HR.out⟩
    · have e0 : (li == 0) = false := beq_eq_false_iff_ne.2 hl0
      have e1 : (li != 0) = true := bne_iff_ne.2 hl0
      obtain ⟨q, hq⟩ : ∃ q : Nat, li = (q : Int) := ⟨li.toNat, by omega⟩
      have HBLK := Lib.hid (txBlock_at li w1)
      have hblk : blockN li = ((1080 + 8 * q : Nat) : Int) := by unfold blockN; rw [if_neg (by omega)]; omega
      rw [hblk] at HBLK
      have HROW : Hid (∀ wx, Keeps [] w wx → Calls Tryd.prog 40 #[.pointer (some ⟨b, 0, none⟩), .int .i64 ((1080 + 8 * q : Nat) : Int)] wx fun e w' => e = .returned (.agg (u64s (rowL (putAll B ps) (1080 + 8 * q))).toArray) ∧ Keeps [] wx w') := fun wx hk => rowAt_at (HS.out.keep hk (by simp) (by simp)) (1080 + 8 * q) (by omega)
      have HALL2 : Hid (numAll (putAll B ps) r = (r.drop 2).take 5 ++ rowL (putAll B ps) (1080 + 8 * q)) := by
        have e := HALL.out
        rw [if_neg hl0, hq, Int.toNat_natCast] at e
        exact e
      have HRL := Lib.hid (rowL_len (putAll B ps) (1080 + 8 * q))
      have hs5 := slice_five13 (w.heap.size + 1 + 1)
      have hs88 := slice_all8
      clear HALL hblk hq
      generalize rowL (putAll B ps) (1080 + 8 * q) = row at *
      generalize ((1080 + 8 * q : Nat) : Int) = p at *
      generalize hz8 : (u64s (List.replicate 8 0)).toArray = Z8 at *
      go_enter Tryd.func42, Tryd.ntmps42
      go_wp2_with fail
      refine wp_region_last (l := [_, _]) (o := _) (S := fun wx => wx = (((w.alloc (.cells Z 63)).alloc (.cells ZN 22)).alloc (.cells ZR 104)).drew) (by kernel_rfl) rfl (by kernel_rfl) (fun d _ _ _ _ h => by cases d <;> exact h) rfl (by kernel_rfl) (by kernel_rfl) ?_
      repeat (refine EachList.cons ?_ (EachIf.val rfl ?h) ?_; (case h => (intro wx hx; go_simp; rfl)); simp only [Act.put, List.setIfInBounds_toArray, List.set_cons_zero, List.set_cons_succ])
      refine EachList.done fun wx hx => ?_
      subst hx
      refine wpList_copy_any rfl (.tmp 13) (.tmp 14) 44 44 rfl _ _ rfl rfl (HCP.out _) ?_
      go_wp2_with fail
      refine HBLK.out.mono ?_; rintro e w' ⟨rfl, rfl⟩
      go_wp2_with fail
      refine (HROW.out _ HK1.out).mono ?_; rintro e w2 ⟨rfl, hk2⟩
      obtain ⟨w3, hst, hb9, hk3⟩ := store_whole (P := Tryd.prog) (ty := 63) (cs := u64s row) (by rw [u64s_len, HRL.out]; exact size_r8) (Blk.new w2 Z8 63) (by rw [← hz8]; simp [u64s_len, HRL.out]) (u64s_one _)
      have hlt2 : w.heap.size + 1 + 1 < w2.heap.size := Nat.lt_of_lt_of_le HBC.out.lt hk2.size
      have hkA : Keeps [] w (w3.drew) := ((((HK1.out.trans' hk2).alloc (.cells Z8 63)).trans hk3 (by intro x hx; rw [List.mem_singleton] at hx; have := HK1.out.size; have := hk2.size; omega))).drew
      have hbA := ((HBC.out.keep hk2 (by simp)).alloc (.cells Z8 63)).keep hk3 (by rw [List.mem_singleton]; omega)
      have hbZ := ((HB1.out.keep hk2 (by simp)).alloc (.cells Z8 63)).keep hk3 (by rw [List.mem_singleton]; omega)
      obtain ⟨v4, wA, hcp2, hbA2, hkA2⟩ := copy_words (o := 5) (n := 8) (cap := 8) (so := 0) (m := 8) (mc := 8) hbA.drew hb9.drew (by omega) (by simp [hr]) (by have := HRL.out; omega)
      have hsecond : ((r.drop 2).take 5 ++ List.replicate 8 (0 : Int)).take 5 ++ (row.drop 0).take 8 ++ ((r.drop 2).take 5 ++ List.replicate 8 (0 : Int)).drop (5 + 8) = numAll (putAll B ps) r := by
        rw [HALL2.out]
        exact second_cells _ _ (by simp [hr]) HRL.out
      rw [hsecond] at hbA2
      have HBA := Lib.hid hbA2
      have HBZ := Lib.hid (hbZ.drew.keep hkA2 (by rw [List.mem_singleton]; omega))
      have HKA := Lib.hid (hkA.trans hkA2 (by intro x hx; rw [List.mem_singleton] at hx; omega))
      have HST := Lib.hid hst
      have HCP2 := Lib.hid hcp2
      clear hst hb9 hk3 hlt2 hkA hbA hbZ hcp2 hbA2 hkA2 hsecond hk2
      go_wp2_with ((with_reducible show wpList _ _ _ (⟨_, .store 63 (.tmp 9) (.tmp 27), _, _, _, _⟩ :: _) _ _); refine wpList_store_any rfl 63 (.tmp 9) (.tmp 27) rfl _ rfl _ rfl _ HST.out ?_)
      refine wp_region_last (l := [_, _]) (o := _) (S := fun wx => wx = w3.drew) (by kernel_rfl) rfl (by kernel_rfl) (fun d _ _ _ _ h => by cases d <;> exact h) rfl (by kernel_rfl) (by kernel_rfl) ?_
      repeat (refine EachList.cons ?_ (EachIf.val rfl ?h) ?_; (case h => (intro wx hx; go_simp; rfl)); simp only [Act.put, List.setIfInBounds_toArray, List.set_cons_zero, List.set_cons_succ])
      refine EachList.done fun wx hx => ?_
      subst hx
      refine wpList_copy_any rfl (.tmp 28) (.tmp 29) 44 44 rfl _ _ rfl rfl (HCP2.out _) ?_
      have HBL0 := Lib.hid (Blk.new wA ZN 22)
      have HL93 := Lib.hid (load_r13 (HBA.out.alloc (.cells ZN 22)) HAL.out)
      have HU : Hid (∀ k, k < 13 → (u64s (numAll (putAll B ps) r)).toArray[k]? = some (.int .u64 ((numAll (putAll B ps) r).getD k 0))) := fun k hk => by rw [List.getElem?_toArray, u64s_get (by rw [HAL.out]; exact hk)]
      have HWA : Hid (w.heap.size + 1 + 1 < wA.heap.size) := HBA.out.lt
      clear HBA
      generalize hal : numAll (putAll B ps) r = al at *
      have HALE := Lib.hid hal
      clear hal
      generalize (u64s al).toArray = UA at *
      go_wp2_with ((with_reducible show wpList _ _ _ (⟨_, .load 104 (.tmp 7), _, _, _, _⟩ :: _) _ _); refine wpList_load_any rfl 104 (.tmp 7) rfl _ rfl _ HL93.out ?_)
      clear hzr HL93
      go_loopg [32] 13 (fun gh s32 wx => ∃ k : Nat, k + gh = 13 ∧ s32 = .int .i64 (k : Int) ∧ Hid (Blk wx wA.heap.size (zs (fillTo 0 al k)).toArray 22 ∧ Blk wx (w.heap.size + 1) ZN 22 ∧ (∀ i, i < k → al.getD i 0 < 256) ∧ Keeps [] w wx))
      case atStart =>
        refine ⟨0, by omega, rfl, ?_, HBZ.out.alloc _, by simp, HKA.out.alloc _⟩
        rw [fillTo_zero, HAL.out, HZZ.out]
        exact HBL0.out
      case round =>
        clear HBZ HKA HBL0
        obtain ⟨k, hk, rfl, HP⟩ := hrel
        obtain ⟨hb1, hb2, hpre, hkp⟩ := HP.out
        cases gk with
        | zero =>
          obtain rfl : k = 13 := by omega
          rw [show fillTo 0 al 13 = al by rw [← HAL.out]; exact fillTo_all 0 al] at hb1
          have hnA : wA.heap.size ∉ [w.heap.size + 1] := by have := HWA.out; rw [List.mem_singleton]; omega
          have HLB := Lib.hid (fun (wx : World) (hk : Keeps [w.heap.size + 1] wr wx) => load_n13 (off := 0) (hb1.keep hk hnA) HAL.out (fun k hk => by rw [Nat.zero_add, List.getElem?_toArray, zs_get (by rw [HAL.out]; exact hk)]))
          have HSB : Hid (∀ wx, Blk wx (w.heap.size + 1) ZN 22 → ∃ w', (storeVar 22 ⟨w.heap.size + 1, 0, none⟩ (.agg (zs al).toArray)).run Tryd.prog wx = .ok () w' ∧ Blk w' (w.heap.size + 1) (zs al).toArray 22 ∧ Keeps [w.heap.size + 1] wx w') := fun wx hb => by
            have hz := HZZ.out
            exact store_whole (P := Tryd.prog) (ty := 22) (cs := zs al) (by rw [zs_len, HAL.out]; exact size_n13) hb (by rw [← hz, zs_len, HAL.out]; simp [zs_len]) (zs_one _)
          have HLF : Hid (∀ wx, Blk wx (w.heap.size + 1) (zs al).toArray 22 → (loadVar 22 ⟨w.heap.size + 1, 0, none⟩).run Tryd.prog wx = .ok (.agg (zs al).toArray) wx) := fun wx hb => load_n13 (off := 0) hb HAL.out (fun k hk => by rw [Nat.zero_add, List.getElem?_toArray, zs_get (by rw [HAL.out]; exact hk)])
          have HKP := Lib.hid hkp
          have HBN := Lib.hid hb2
          have hwn1 : w.heap.size ≤ w.heap.size + 1 := by omega
          have HRE := Lib.hid (rest_at al HAL.out)
          have HEQ8 := Lib.hid (fun wx => eq_n8 (a := al.drop 5) (b := List.replicate 8 0) (by simp [HAL.out]) rfl wx)
          have hg8 := guard_n8
          have hz8v := zero_n8
          obtain ⟨t, ht⟩ : ∃ t, decide (al.drop 5 = List.replicate 8 0) = t := ⟨_, rfl⟩
          have HF : Hid (NumOk (putAll B ps) r ↔ t = false) := by
            show _ ↔ _
            rw [HNO.out, ← ht, decide_eq_false_iff_not]
            exact ⟨fun h => h.2.2.resolve_left hl0, fun h => ⟨by omega, hpre, .inr h⟩⟩
          rw [ht] at HEQ8
          have heq8 := HEQ8.out
          generalize (zs (al.drop 5)).toArray = ZD at *
          generalize (zs (List.replicate 8 0)).toArray = ZE at *
          clear ht HEQ8
          clear HP hb1 hb2 hpre hkp hk HNO HBC HB0 HB1 HK1 hnA
          generalize hza : (zs al).toArray = ZA at *
          have HZA := Lib.hid hza
          clear hza
          go_wp2_with fail
          refine wp_region_store (l := [_, _, _, _, _, _, _, _, _, _, _]) (f := _) (mid := [_]) (o := _) (tl := []) (S := fun b wx => Keeps [w.heap.size + 1] wr wx ∧ Blk wx (w.heap.size + 1) (cond b ZA ZN) 22) (by kernel_rfl) rfl (by kernel_rfl) (fun d _ _ _ _ h => by cases d <;> exact h) ⟨(Keeps.refl _ _).drew, HBN.out.drew⟩ (by kernel_rfl) (by kernel_rfl) ?_
          repeat (first
            | (refine EachListB.cons (.agg ZA) (fun b => EachIf.load rfl 22 (.tmp 10) rfl _ rfl fun wx hx => HLB.out wx hx.1) ?_; simp only [Act.put, List.setIfInBounds_toArray, List.set_cons_zero, List.set_cons_succ])
            | (refine EachListB.cons (.agg ZD) (fun b => EachIf.call rfl 63 #[.agg ZA] ?he ?h) ?_; (case he => (intro wz; go_simp)); (case h => exact fun wx hx => (HRE.out wx).mono fun e w' he => ⟨he.1, hx.1.trans he.2 (by simp), hx.2.keep he.2 (by simp)⟩); simp only [Act.put, List.setIfInBounds_toArray, List.set_cons_zero, List.set_cons_succ])
            | (refine EachListB.cons undef (fun b => EachIf.off rfl) ?_; simp only [Act.put, List.setIfInBounds_toArray, List.set_cons_zero, List.set_cons_succ])
            | (refine EachListB.cons ?_ (fun b => EachIf.val rfl ?h) ?_; (case h => (intro wx hx; clear hx; go_simp; rfl)); simp only [Act.put, List.setIfInBounds_toArray, List.set_cons_zero, List.set_cons_succ]))
          refine EachListB.done ⟨undef, Each2.store rfl 22 (.tmp 4) (.tmp 44) rfl _ rfl _ rfl (fun wx hx => ?_), ?_⟩
          · obtain ⟨w', h1, h2, h3⟩ := HSB.out wx hx.2
            exact ⟨w', h1, hx.1.trans' h3, h2⟩
          refine EachList.cons ?_ (EachIf.val rfl ?h) ?_
          case h => intro wx hx; clear hx; go_simp; rfl
          simp only [Act.put, List.setIfInBounds_toArray, List.set_cons_zero, List.set_cons_succ]
          refine EachList.done fun wx hx => ?_
          have HLD6 := Lib.hid (HLF.out wx hx.2)
          have HK6 := Lib.hid (HKP.out.trans hx.1 (by intro x hx; rw [List.mem_singleton] at hx; omega))
          clear hx
          go_wp2_with fail
          refine bodyPost_ret (results_cell3 Tryd.results42 rfl HLD6.out rfl rfl) rfl ⟨al, li, !t, ?_, fun h => ⟨HF.out.2 (by simpa using h), HALE.out.symm, HZL.out.symm⟩, fun h hn => ?_, HAL.out, HK6.out⟩
          · rw [HZA.out]
            show Ending.returned (.tuple #[.agg ZA, .int .i64 (IntKind.i64.wrap li), .bool !t]) = _
            rw [HWLI.out]
          · have := HF.out.1 hn
            rw [this] at h
            cases h
        | succ gg =>
          have hk13 : k < 13 := by omega
          have hlt : (k : Int) < 13 := by omega
          have hk0 : (0 : Int) ≤ (k : Int) := by omega
          have hix := index_r13 hk13 (HU.out k hk13)
          have hx0 := HA64.out k
          by_cases hbx : 256 ≤ al.getD k 0
          · have HF : Hid (¬ NumOk (putAll B ps) r) := fun h => by have := (HNO.out.1 h).2.1 k hk13; omega
            obtain ⟨w5, hst5, hld5, hk5⟩ := HSZ.out wr hb2
            have HST5 := Lib.hid hst5
            have HLD5 := Lib.hid hld5
            have HK5 := Lib.hid (hkp.trans hk5 (by simp))
            clear hst5 hld5 hk5 HP hb1 hb2 hpre hkp hk
            generalize al.getD k 0 = x at *
            go_wp2_with ((with_reducible show wpList _ _ _ (⟨_, .store 22 (.tmp 4) (.tmp 38), _, _, _, _⟩ :: _) _ _); refine wpList_store_any rfl 22 (.tmp 4) (.tmp 38) rfl _ rfl _ rfl _ HST5.out ?_)
            refine bodyPost_ret (results_cell3 Tryd.results42 rfl HLD5.out rfl rfl) rfl ⟨List.replicate 13 0, 0, false, ?_, fun h => (by cases h), fun _ => HF.out, by simp, HK5.out⟩
            rw [HZZ.out]
            rfl
          · have hwx : wrap64 (al.getD k 0) = al.getD k 0 := by unfold wrap64; omega
            have hcell : wr.cell? ⟨wA.heap.size, k, none⟩ = some (.int .i64 ((fillTo 0 al k).getD k 0)) := by
              rw [hb1.cell, List.getElem?_toArray, zs_get (by rw [fillTo_len _ _ _ (by rw [HAL.out]; omega), HAL.out]; exact hk13)]
            have hfz : wr.frozen? ⟨wA.heap.size, k, none⟩ = false := hb1.frozen k
            have HR : Hid (Blk (wr.setCell ⟨wA.heap.size, k, none⟩ (.int .i64 (al.getD k 0))) wA.heap.size (zs (fillTo 0 al (k + 1))).toArray 22 ∧ Blk (wr.setCell ⟨wA.heap.size, k, none⟩ (.int .i64 (al.getD k 0))) (w.heap.size + 1) ZN 22 ∧ (∀ i, i < k + 1 → al.getD i 0 < 256) ∧ Keeps [] w (wr.setCell ⟨wA.heap.size, k, none⟩ (.int .i64 (al.getD k 0)))) := by
              have hlA := HWA.out
              refine ⟨?_, hb2.other (by show w.heap.size + 1 ≠ wA.heap.size; omega) _, fun i hi => ?_, hkp.setCell (.inr (by show w.heap.size ≤ wA.heap.size; omega)) _⟩
              · have := hb1.set k (.int .i64 (al.getD k 0))
                rw [List.setIfInBounds_toArray, zs_set, fillTo_succ 0 al k (by rw [HAL.out]; exact hk13) (al.getD k 0) (by simp [List.getD_eq_getElem?_getD, show k < al.length by rw [HAL.out]; exact hk13])] at this
                exact this
              · by_cases e : i = k
                · subst e; omega
                · exact hpre i (by omega)
            clear HP hb1 hb2 hpre hkp
            generalize al.getD k 0 = x at *
            generalize (fillTo 0 al k).getD k 0 = y at *
            go_wp2_with fail
            go_roundg gg
            case measure => omega
            case rel => exact ⟨k + 1, by omega, by go_num, HR.out⟩

end Go.Proofs.YtmhcnkjmnbnldaaDoor

namespace Go.Proofs.YtmhcnkjmnbnldaaDoor
open Go.RowKit

theorem slice_to8 (b c : Nat) (hc : c ≤ 8) (w : World) : (Instr.sliceAt 63 (.pointer (some ⟨b, 0, none⟩)) none (some (.int .i64 (c : Int))) none).run Tryd.prog w = .ok (.slice (some ⟨b, 0, none⟩) c 8) w := by
  have h : c = 0 ∨ c = 1 ∨ c = 2 ∨ c = 3 ∨ c = 4 ∨ c = 5 ∨ c = 6 ∨ c = 7 ∨ c = 8 := by omega
  rcases h with rfl | rfl | rfl | rfl | rfl | rfl | rfl | rfl | rfl
  all_goals (show Sem.run _ _ _ = _; kernel_rfl)

/-- A part of an array of words, as a slice. -/
theorem Blk.reads {w : World} {b T o n c : Nat} {l : List Int} (h : Blk w b (u64s l).toArray T) (hn : o + n ≤ l.length) (hc : n ≤ c) (hm : c ≤ 1000) : Reads w (.slice (some ⟨b, o, none⟩) n c) b (u64s ((l.drop o).take n)) := by
  have hl : (u64s ((l.drop o).take n)).length = n := by rw [u64s_len, List.length_take, List.length_drop]; omega
  refine ⟨_, c, by rw [hl], by rw [hl]; exact hc, by unfold maxLen; omega, fun _ => ⟨h.lt, o, rfl, fun j hj => ?_⟩⟩
  rw [hl] at hj
  rw [h.cell, List.getElem?_toArray, u64s_get (by omega), u64s_get (by rw [List.length_take, List.length_drop]; omega)]
  simp [List.getD_eq_getElem?_getD, hj]

theorem Keeps.grown2 {w wr w1 : World} {row : Option Nat} (hk : Keeps [] w wr) (hg : wr.grownBy w1 row) (hr : ∀ k, row = some k → w.heap.size ≤ k) : Keeps [] w w1 := hk.grown hg hr

/-- What entriesOf leaves. -/
def EntsPost (w : World) (X l : List Int) (m : Nat) (e : Ending) (w' : World) : Prop :=
  ∃ v E ok g, e = .returned (.tuple #[v, .bool ok]) ∧ EReads w' v g E ∧ w.heap.size ≤ g ∧ (ok = true → EntsOk X l m ∧ E = entsE X l m) ∧ (ok = false → ¬ EntsOk X l m ∧ E = []) ∧ Keeps [] w w'

theorem EntsPost.no {w w' : World} {X l : List Int} {m : Nat} (h : ¬ EntsOk X l m) (hk : Keeps [] w w') : EntsPost w X l m (.returned (.tuple #[.slice none 0 0, .bool false])) w' :=
  ⟨_, [], false, w.heap.size, rfl, EReads.nil _ _, Nat.le_refl _, fun h => (by cases h), fun _ => ⟨h, rfl⟩, hk⟩

set_option maxRecDepth 100000 in
set_option maxHeartbeats 8000000 in
theorem entriesOf_at {w : World} {b gp : Nat} {B : List Int} {ps : List (Int × Int)} (h : ShAt w b gp B ps) (h64 : In64 (putAll B ps)) (l : List Int) (hl : l.length = 13) (hl256 : ∀ k, 0 ≤ l.getD k 0 ∧ l.getD k 0 < 256) (m : Nat) (hm : m ≤ 832) :
    Calls Tryd.prog 43 #[.pointer (some ⟨b, 0, none⟩), .agg (zs l).toArray, .int .i64 (m : Int)] w (EntsPost w (putAll B ps) l m) := by
  have HS := Lib.hid h
  have H64 := Lib.hid h64
  have hb0 := Blk.new w (zs l).toArray 22
  have HB0 := Lib.hid hb0
  have HK0 : Hid (Keeps [] w (w.alloc (.cells (zs l).toArray 22))) := (Keeps.refl _ _).alloc _
  have hpa := parts_at m 4 (by omega) (by omega) (by omega)
  rw [show (m + 4 - 1) / 4 = blocksN m by unfold blocksN; congr 1] at hpa
  have HP := Lib.hid hpa
  have hbn : blocksN m ≤ 300 := by unfold blocksN; omega
  have HLD : Hid (∀ wx, Keeps [] (w.alloc (.cells (zs l).toArray 22)) wx → (loadVar 22 ⟨w.heap.size, 0, none⟩).run Tryd.prog wx = .ok (.agg (zs l).toArray) wx) := fun wx hk =>
    load_n13 (off := 0) (hb0.keep hk (by simp)) hl (fun k hk => by rw [Nat.zero_add, List.getElem?_toArray, zs_get (by omega)])
  have HCELL : Hid (∀ wx k, k < 13 → Keeps [] (w.alloc (.cells (zs l).toArray 22)) wx → wx.cell? ⟨w.heap.size, k, none⟩ = some (.int .i64 (l.getD k 0))) := fun wx k hk hkp => by
    rw [(hb0.keep hkp (by simp)).cell, List.getElem?_toArray, zs_get (by omega)]
  have HL256 := Lib.hid hl256
  have HL := Lib.hid hl
  clear h h64 hb0 hpa hl256
  generalize hz : (zs l).toArray = Z at *
  have HZ := Lib.hid hz
  clear hz
  by_cases h24 : 24 < m
  · have HN : Hid (¬ EntsOk (putAll B ps) l m) := fun h => by have := h.1; omega
    have hg24 : (24 : Int) < (m : Int) := by omega
    generalize blocksN m = cnt at *
    clear hl
    go_enter Tryd.func43, Tryd.ntmps43
    go_wp2_with fail
    refine (HP.out _).mono ?_; rintro e w' ⟨rfl, rfl⟩
    go_wp2_with fail
    have hd24 : decide (24 < m) = true := decide_eq_true h24
    refine wp_region_each (S := fun wx => wx = (w.alloc (.cells Z 22)).drew) (by kernel_rfl) (by kernel_rfl) (fun d _ _ _ _ h => by cases d <;> exact h) rfl (by kernel_rfl) ?_
    repeat (first
      | (refine EachList.cons undef (EachIf.off rfl) ?_; simp only [Act.put, List.setIfInBounds_toArray, List.set_cons_zero, List.set_cons_succ])
      | (refine EachList.cons (.bool true) (EachIf.val rfl ?h) ?_; (case h => (intro wx hx; clear hx; first | (go_simp; done) | (go_simp; simp [hd24]; done))); simp only [Act.put, List.setIfInBounds_toArray, List.set_cons_zero, List.set_cons_succ])
      | (refine EachList.cons ?_ (EachIf.val rfl ?h) ?_; (case h => (intro wx hx; go_simp; rfl)); simp only [Act.put, List.setIfInBounds_toArray, List.set_cons_zero, List.set_cons_succ]))
    refine EachList.done fun wx hx => ?_
    subst hx
    go_wp2_with fail
    go_ret2
    exact EntsPost.no HN.out HK0.out.drew
  · have hd24 : decide (24 < m) = false := decide_eq_false h24
    have hn24 : ¬ (24 : Int) < (m : Int) := by omega
    have hcnt13 : blocksN m ≤ 13 := by unfold blocksN; omega
    have HU := Lib.hid (upTo_at l (blocksN m) hl hcnt13)
    have HEQ := Lib.hid (fun wx => eq_n13 (a := l) (b := uptoL l (blocksN m)) hl (uptoL_len hl hcnt13) wx)
    rw [HZ.out] at HU HEQ
    have hg13 := guard_n13
    obtain ⟨t, ht⟩ : ∃ t, decide (l = uptoL l (blocksN m)) = t := ⟨_, rfl⟩
    rw [ht] at HEQ
    have heq := HEQ.out
    generalize (zs (uptoL l (blocksN m))).toArray = ZU at *
    clear HEQ
    cases t
    · have HN : Hid (¬ EntsOk (putAll B ps) l m) := fun h => of_decide_eq_false ht h.2.1
      clear ht hl HL HL256
      generalize blocksN m = cnt at *
      go_enter Tryd.func43, Tryd.ntmps43
      go_wp2_with fail
      refine (HP.out _).mono ?_; rintro e w' ⟨rfl, rfl⟩
      go_wp2_with fail
      refine wp_region_each (S := fun wx => Keeps [] (w.alloc (.cells Z 22)) wx) (by kernel_rfl) (by kernel_rfl) (fun d _ _ _ _ h => by cases d <;> exact h) ((Keeps.refl _ _).drew) (by kernel_rfl) ?_
      repeat (first
        | (refine EachList.cons (.agg Z) (EachIf.load rfl 22 (.tmp 4) rfl _ rfl fun wx hx => HLD.out wx hx) ?_; simp only [Act.put, List.setIfInBounds_toArray, List.set_cons_zero, List.set_cons_succ])
        | (refine EachList.cons (.agg ZU) (EachIf.call rfl 67 #[.agg Z, .int .i64 (cnt : Int)] ?he ?h) ?_; (case he => (intro wz; go_simp)); (case h => exact fun wx hx => (HU.out wx).mono fun e w' he => ⟨he.1, hx.trans' he.2⟩); simp only [Act.put, List.setIfInBounds_toArray, List.set_cons_zero, List.set_cons_succ])
        | (refine EachList.cons (.bool false) (EachIf.val rfl ?h) ?_; (case h => (intro wx hx; clear hx; first | (go_simp; done) | (go_simp; simp [hd24]; done))); simp only [Act.put, List.setIfInBounds_toArray, List.set_cons_zero, List.set_cons_succ])
        | (refine EachList.cons ?_ (EachIf.val rfl ?h) ?_; (case h => (intro wx hx; clear hx; go_simp; rfl)); simp only [Act.put, List.setIfInBounds_toArray, List.set_cons_zero, List.set_cons_succ]))
      refine EachList.done fun wx hx => ?_
      have HKX := Lib.hid (HK0.out.trans' hx)
      clear hx
      go_wp2_with fail
      go_ret2
      exact EntsPost.no HN.out HKX.out
    · have hlu := of_decide_eq_true ht
      have HLU := Lib.hid hlu
      clear hlu
      have hsl := fun wx => slice_to w.heap.size (blocksN m) hcnt13 wx
      clear ht hl
      generalize hcn : blocksN m = cnt at *
      have HCN := Lib.hid hcn
      clear hcn
      go_enter Tryd.func43, Tryd.ntmps43
      go_wp2_with fail
      refine (HP.out _).mono ?_; rintro e w' ⟨rfl, rfl⟩
      go_wp2_with fail
      refine wp_region_each (S := fun wx => Keeps [] (w.alloc (.cells Z 22)) wx) (by kernel_rfl) (by kernel_rfl) (fun d _ _ _ _ h => by cases d <;> exact h) ((Keeps.refl _ _).drew) (by kernel_rfl) ?_
      repeat (first
        | (refine EachList.cons (.agg Z) (EachIf.load rfl 22 (.tmp 4) rfl _ rfl fun wx hx => HLD.out wx hx) ?_; simp only [Act.put, List.setIfInBounds_toArray, List.set_cons_zero, List.set_cons_succ])
        | (refine EachList.cons (.agg ZU) (EachIf.call rfl 67 #[.agg Z, .int .i64 (cnt : Int)] ?he ?h) ?_; (case he => (intro wz; go_simp)); (case h => exact fun wx hx => (HU.out wx).mono fun e w' he => ⟨he.1, hx.trans' he.2⟩); simp only [Act.put, List.setIfInBounds_toArray, List.set_cons_zero, List.set_cons_succ])
        | (refine EachList.cons (.bool false) (EachIf.val rfl ?h) ?_; (case h => (intro wx hx; clear hx; first | (go_simp; done) | (go_simp; simp [hd24]; done))); simp only [Act.put, List.setIfInBounds_toArray, List.set_cons_zero, List.set_cons_succ])
        | (refine EachList.cons ?_ (EachIf.val rfl ?h) ?_; (case h => (intro wx hx; clear hx; go_simp; rfl)); simp only [Act.put, List.setIfInBounds_toArray, List.set_cons_zero, List.set_cons_succ]))
      refine EachList.done fun w1 hx => ?_
      have HK1 := Lib.hid hx
      clear hx
      obtain ⟨E, hE⟩ : ∃ E, E = entsE (putAll B ps) l m := ⟨_, rfl⟩
      have HE := Lib.hid hE
      have hEl : E.length = m := by rw [hE]; exact entsE_len _ _ _
      have HEL := Lib.hid hEl
      have HEG : Hid (∀ e, e < m → enm E e = strN ((nameN (entW (putAll B ps) l e)).getD []) ∧ eno E e = entI (putAll B ps) l e) := fun e he => by rw [hE]; exact entsE_get _ _ _ _ he
      have hm4 : m ≤ 4 * cnt ∧ ∀ k, k < cnt → 4 * k < m := by
        have hc := HCN.out
        unfold blocksN at hc
        exact ⟨by omega, fun k hk => by omega⟩
      have HM4 := Lib.hid hm4
      clear hE hEl hm4
      obtain ⟨i0, hi, hz0, hz1, hz2⟩ := info_parts Tryd.info_entry
      have HI := Lib.hid hi
      have hzr8 := zero_r8
      clear hi
      go_wp2_with fail
      clear hsl heq hg13
      go_loopg [9, 29] cnt (fun gh s9 s29 wx => ∃ k : Nat, k + gh = cnt ∧ s29 = .int .i64 (k : Int) ∧ Hid (wx.ownsRow (w.heap.size + 1) 57 2 s9 (min m (4 * k)) (ecells (E.take (4 * k))) ∧ (∀ i, i < k → BlkOk (putAll B ps) l m i) ∧ Keeps [] (w.alloc (.cells Z 22)) wx))
      case atStart => exact ⟨0, by omega, rfl, ⟨by simp [ecells], .inl ⟨rfl, by simp⟩⟩, by simp, HK1.out⟩
      case round =>
        clear HK1
        obtain ⟨k, hk, rfl, HP⟩ := hrel
        obtain ⟨hown, hpre, hkp⟩ := HP.out
        cases gk with
        | zero =>
          obtain rfl : k = cnt := by omega
          have HFIN : Hid (EntsPost w (putAll B ps) l m (.returned (.tuple #[u9, .bool true])) wr) := by
            have h1 := HM4.out.1
            rw [Nat.min_eq_left h1, List.take_of_length_le (by rw [HEL.out]; exact h1)] at hown
            obtain ⟨g, ho, hg⟩ := Owns.of_row hown
            obtain ⟨g2, hg2, hr2⟩ : ∃ g2, w.heap.size ≤ g2 ∧ EReads wr u9 g2 E := by
              by_cases h0 : m = 0
              · exact ⟨w.heap.size, Nat.le_refl _, (ho.ereads HEL.out.symm).anyG (by rw [HEL.out, h0]) _⟩
              · exact ⟨g, by have := (hg h0).1; omega, ho.ereads HEL.out.symm⟩
            exact ⟨u9, E, true, g2, rfl, hr2, hg2, fun _ => ⟨⟨by omega, by rw [HCN.out]; exact HLU.out, by rw [HCN.out]; exact hpre⟩, HE.out⟩, fun h => (by cases h), HK0.out.trans' hkp⟩
          clear HP hown hpre hkp hk
          go_wp2_with fail
          go_ret2
          exact HFIN.out
        | succ gg =>
          have hkc : k < cnt := by omega
          have hlt : (k : Int) < (cnt : Int) := by omega
          have hk0 : (0 : Int) ≤ (k : Int) := by omega
          have hk4 := HM4.out.2 k hkc
          have hcell := HCELL.out wr k (by omega) hkp
          have hb256 := HL256.out k
          have HNB : Hid (¬ BlkOk (putAll B ps) l m k → ¬ EntsOk (putAll B ps) l m) := fun h hh => h (hh.2.2 k (by rw [HCN.out]; exact hkc))
          have HBO : Hid (BlkOk (putAll B ps) l m k ↔ l.getD k 0 ≠ 0 ∧ (∀ j, j < min 4 (m - 4 * k) → (nameN (entW (putAll B ps) l (4 * k + j))).isSome = true ∧ entI (putAll B ps) l (4 * k + j) < 32) ∧ entRow E k = rowL (putAll B ps) (1080 + 8 * (l.getD k 0).toNat)) := by
            have e := HE.out
            show _ ↔ _
            rw [e]
            exact Iff.rfl
          have HPRE := Lib.hid hpre
          have HKP := Lib.hid hkp
          have HPL : Hid (∀ j, j < 4 → entAt l (4 * k + j) = 1080 + 8 * (l.getD k 0).toNat + 2 * j) := fun j hj => ent_place l k j hj
          obtain ⟨q, hq⟩ : ∃ q : Nat, l.getD k 0 = (q : Int) := ⟨(l.getD k 0).toNat, by omega⟩
          rw [hq] at hcell HBO HPL hb256
          rw [Int.toNat_natCast] at HBO HPL
          rw [Nat.min_eq_right (by omega)] at hown
          have HOW := Lib.hid hown
          clear HP hown hpre hkp hq
          by_cases hq0 : q = 0
          · subst hq0
            have HN : Hid (¬ EntsOk (putAll B ps) l m) := HNB.out fun h => (HBO.out.1 h).1 rfl
            have HKX := Lib.hid (HK0.out.trans' HKP.out)
            clear HBO HPL HNB hk
            go_wp2_with fail
            go_ret2
            exact EntsPost.no HN.out HKX.out
          · have e0 : ((q : Int) == 0) = false := beq_eq_false_iff_ne.2 (by omega)
            have hblk := txBlock_at (q : Int) wr
            rw [show blockN (q : Int) = ((1080 + 8 * q : Nat) : Int) by unfold blockN; rw [if_neg (by omega)]; omega] at hblk
            have HBLK := Lib.hid hblk
            have HROW := Lib.hid (rowAt_at (HS.out.keep (HK0.out.trans' HKP.out) (by simp) (by simp)) (1080 + 8 * q) (by omega))
            obtain ⟨r, hr⟩ : ∃ r, r = rowL (putAll B ps) (1080 + 8 * q) := ⟨_, rfl⟩
            rw [← hr] at HROW HBO
            have HRX := Lib.hid hr
            have hr8 : r.length = 8 := by rw [hr]; exact rowL_len _ _
            have HRG : Hid (∀ j, j < 4 → r.getD (j * 2) 0 = ((entW (putAll B ps) l (4 * k + j) : Nat) : Int) ∧ r.getD (j * 2 + 1) 0 = entI (putAll B ps) l (4 * k + j)) := fun j hj => by
              have hpl := HPL.out j hj
              rw [hr, rowL_get _ _ _ (by omega), rowL_get _ _ _ (by omega)]
              unfold entW entI
              rw [hpl]
              have h64 := H64.out (1080 + 8 * q + 2 * j)
              rw [show 1080 + 8 * q + j * 2 = 1080 + 8 * q + 2 * j by omega, show 1080 + 8 * q + (j * 2 + 1) = 1080 + 8 * q + 2 * j + 1 by omega]
              exact ⟨by omega, rfl⟩
            have HR8 := Lib.hid hr8
            have HI64 : Hid (∀ j, j < 4 → 0 ≤ entI (putAll B ps) l (4 * k + j)) := fun j hj => by
              have := (H64.out (entAt l (4 * k + j) + 1)).1
              exact this
            clear hr hr8 HPL hblk
            generalize hp : ((1080 + 8 * q : Nat) : Int) = p at *
            clear hp
            obtain ⟨c, hc⟩ : ∃ c, c = min 4 (m - 4 * k) := ⟨_, rfl⟩
            have HC := Lib.hid hc
            have hc4 : c ≤ 4 := by omega
            have hcm : 4 * k + c ≤ m := by omega
            have hsub : (m : Int) - (k : Int) * 4 = ((m - 4 * k : Nat) : Int) := by omega
            obtain ⟨d, hd⟩ : ∃ d, d = m - 4 * k := ⟨_, rfl⟩
            rw [← hd] at hsub hc
            have hHc : ((4 : Int) ≤ (d : Int) ∧ c = 4) ∨ ((d : Int) < 4 ∧ c = d) := by omega
            clear hc hd
            have hww : w.heap.size + 1 ≤ wr.heap.size := by have := HKP.out.size; simpa using this
            go_wp2_with fail
            refine HBLK.out.mono ?_; rintro e w' ⟨rfl, rfl⟩
            go_wp2_with fail
            refine HROW.out.mono ?_; rintro e w3 ⟨rfl, hk3⟩
            obtain ⟨w5, hst, hb5, hk5⟩ := store_whole (P := Tryd.prog) (ty := 63) (cs := u64s r) (by rw [u64s_len, HR8.out]; exact size_r8) (Blk.new w3 (u64s (List.replicate 8 0)).toArray 63) (by simp [u64s_len, HR8.out]) (u64s_one _)
            have hw3 := hk3.size
            have HST := Lib.hid hst
            have HB5 := Lib.hid hb5
            have HK5 : Hid (Keeps [] wr w5) := ((hk3.alloc (.cells (u64s (List.replicate 8 0)).toArray 63)).trans hk5 (by intro x hx; rw [List.mem_singleton] at hx; omega))
            clear hst hb5 hk5 hk3 HBLK HROW
            have HKW : Hid (Keeps [] (w.alloc (.cells Z 22)) w5) := HKP.out.trans' HK5.out
            have HE5 : Hid (∀ g, u9.ownBlock = some g → g ≠ w3.heap.size) := fun g hg => by
              obtain ⟨-, h1⟩ := HOW.out
              rcases h1 with ⟨hv, -⟩ | ⟨g2, cap, cur, hv, -, hh, -⟩
              · rw [hv] at hg; cases hg
              · rw [hv] at hg
                cases hg
                have := (Array.getElem?_eq_some_iff.1 hh).1
                show g2 ≠ w3.heap.size
                omega
            have HO5 : Hid (w5.ownsRow (w.heap.size + 1) 57 2 u9 (4 * k + 0) (ecells (E.take (4 * k + 0)))) := ownsRow_keep HOW.out HK5.out (by simp)
            have hw31 : w.heap.size + 1 ≤ w3.heap.size := by omega
            obtain ⟨n2, hn2⟩ : ∃ n2, n2 = 2 * c := ⟨_, rfl⟩
            have HGT : Hid (∀ j, j < c → (r.take n2).getD (j * 2) 0 = ((entW (putAll B ps) l (4 * k + j) : Nat) : Int) ∧ (r.take n2).getD (j * 2 + 1) 0 = entI (putAll B ps) l (4 * k + j)) := fun j hj => by
              have e0 : (r.take n2).getD (j * 2) 0 = r.getD (j * 2) 0 := by simp [List.getD_eq_getElem?_getD, show j * 2 < n2 by omega]
              have e1 : (r.take n2).getD (j * 2 + 1) 0 = r.getD (j * 2 + 1) 0 := by simp [List.getD_eq_getElem?_getD, show j * 2 + 1 < n2 by omega]
              rw [e0, e1]
              exact HRG.out j (by omega)
            have HLOK : Hid (EntsLOk (r.take n2) c ↔ ∀ j, j < c → (nameN (entW (putAll B ps) l (4 * k + j))).isSome = true ∧ entI (putAll B ps) l (4 * k + j) < 32) := by
              constructor
              · intro h j hj
                have := h j hj
                rw [(HGT.out j hj).1, (HGT.out j hj).2, Int.toNat_natCast] at this
                exact this
              · intro h j hj
                rw [(HGT.out j hj).1, (HGT.out j hj).2, Int.toNat_natCast]
                exact h j hj
            have HEE : Hid (E.take (4 * k + c) = E.take (4 * k) ++ entsL (r.take n2) c) := by
              show _ = _
              rw [List.take_add]
              congr 1
              have hl1 : ((E.drop (4 * k)).take c).length = c := by rw [List.length_take, List.length_drop, HEL.out]; omega
              refine e_ext (by rw [hl1, entsL_len]) fun j hj => ?_
              rw [hl1] at hj
              rw [(ent_sub E (4 * k) c j hj).1, (ent_sub E (4 * k) c j hj).2, (entsL_get _ _ _ hj).1, (entsL_get _ _ _ hj).2, (HGT.out j hj).1, (HGT.out j hj).2, Int.toNat_natCast]
              exact HEG.out _ (by omega)
            have HR64 : Hid (∀ j, 0 ≤ (r.take n2).getD j 0 ∧ (r.take n2).getD j 0 < 18446744073709551616) := fun j => by
              by_cases hj : j < n2
              · have e0 : (r.take n2).getD j 0 = r.getD j 0 := by simp [List.getD_eq_getElem?_getD, hj]
                rw [e0, HRX.out]
                by_cases hj8 : j < 8
                · rw [rowL_get _ _ _ hj8]; exact H64.out _
                · rw [List.getD_eq_getElem?_getD, List.getElem?_eq_none (by rw [rowL_len]; omega)]
                  simp
              · rw [List.getD_eq_getElem?_getD, List.getElem?_eq_none (by rw [List.length_take]; omega)]
                simp
            have hRD : Reads w5 (.slice (some ⟨w3.heap.size, 0, none⟩) n2 8) w3.heap.size (u64s (r.take n2)) := by
              have := HB5.out.reads (o := 0) (n := n2) (c := 8) (by rw [HR8.out]; omega) (by omega) (by omega)
              rwa [List.drop_zero] at this
            have HEOF := Lib.hid (rowEntriesOf_at hRD (by rw [List.length_take, HR8.out]; omega) c (by rw [List.length_take, HR8.out]; omega) HR64.out)
            have HSL8 : Hid (∀ x : Int, x = (n2 : Int) → ∀ wx, (Instr.sliceAt 63 (.pointer (some ⟨w3.heap.size, 0, none⟩)) none (some (.int .i64 x)) none).run Tryd.prog wx = .ok (.slice (some ⟨w3.heap.size, 0, none⟩) n2 8) wx) := fun x hx wx => by
              rw [hx]
              exact slice_to8 _ _ (by omega) wx
            have hc1 : 1 ≤ c := by have := HC.out; omega
            clear hRD HRG HGT HR64
            have HN2 := Lib.hid hn2
            clear hn2
            rcases hHc with ⟨hH1, hH2⟩ | ⟨hH1, hH2⟩
            · have hs8 := HSL8.out 8 (by have := HN2.out; omega)
              have HH2 := Lib.hid hH2
              clear hH2 HSL8
              go_wp2_with ((with_reducible show wpList _ _ _ (⟨_, .store 63 (.tmp 12) (.tmp 39), _, _, _, _⟩ :: _) _ _); refine wpList_store_any rfl 63 (.tmp 12) (.tmp 39) rfl _ rfl _ rfl _ HST.out ?_)
              refine HEOF.out.mono ?_; rintro e w6 hpost
              rcases hpost with ⟨g7, rfl, ho7, hg7, hok7, hk6⟩ | ⟨rfl, hno, hk6⟩
              · have hok := HLOK.out.1 hok7
                have HOW6 := Lib.hid (ownsRow_keep HO5.out hk6 (by simp))
                have HK6 := Lib.hid (HK5.out.trans' hk6)
                have HBR6 := Lib.hid (HB5.out.keep hk6 (by simp))
                have HNEWS : Hid (∀ j u, (ecells (entsL (r.take n2) c))[j]? = some u → w6.cell? ((⟨g7, 0, none⟩ : Addr).add j) = some u) := fun j u hu => by
                  obtain ⟨-, -, hcc, -⟩ := ho7.cell (by omega)
                  have hj := (List.getElem?_eq_some_iff.1 hu).1
                  rw [ecells_len, entsL_len] at hj
                  rw [add_plain, Nat.zero_add, hcc j hj]
                  exact hu
                have HNL : Hid ((ecells (entsL (r.take n2) c)).length = c * 2) := by show _ = _; rw [ecells_len, entsL_len]
                have hw6 : w.heap.size + 1 ≤ w6.heap.size := by have := HK6.out.size; omega
                have hi := HI.out
                clear hs8 ho7 hg7 hok7 hk6 HEOF
                go_wp2_with (at_builtin; refine wpList_append_own _ rfl _ _ 23 rfl (w.heap.size + 1) 57 i0 (.agg #[.string ⟨#[]⟩, .int .i64 0]) 2 24 Tryd.underlying23 hi hz0 hz1 hz2 rfl (by decide) u9 (4 * k + 0) _ rfl HOW6.out ⟨g7, 0, none⟩ c c (ecells (entsL (r.take n2) c)) rfl HNL.out HNEWS.out (ecells_one _) (by unfold maxLen; omega) (by omega) hw6 ?_)
                intro v9 w7 hown7 hgrow _
                have hown : w7.ownsRow (w.heap.size + 1) 57 2 v9 (4 * k + c) (ecells (E.take (4 * k + c))) := by
                  rw [HEE.out, ecells_append]
                  exact hown7
                have hbr : Blk w7 w3.heap.size (u64s r).toArray 63 := (hgrow.block _ HBR6.out.lt (fun e => HE5.out _ e.symm rfl)).trans HBR6.out
                have hkp : Keeps [] (w.alloc (.cells Z 22)) w7 := (HKP.out.trans' HK6.out).grown2 hgrow fun g hg => by have := ownsRow_block HOW6.out g hg; simpa using this
                clear hown7 hgrow HOW6 HK6 HBR6 HKW HK5 HO5 HE5 HB5 HKP HOW hi
                obtain ⟨g0, ho0, hg0⟩ := Owns.of_row hown
                have HER := Lib.hid (ho0.ereads (by rw [List.length_take, HEL.out]; omega))
                have HEO : Hid (EntOk (E.take (4 * k + c))) := by
                  have hin : ∀ e, e < 4 * k + c → 0 ≤ entI (putAll B ps) l e ∧ entI (putAll B ps) l e < 32 := fun e he => by
                    have h0 : 0 ≤ entI (putAll B ps) l e := (H64.out (entAt l e + 1)).1
                    refine ⟨h0, ?_⟩
                    by_cases hek : e < 4 * k
                    · have := ((HPRE.out (e / 4) (by omega)).2.1 (e % 4) (by omega)).2
                      rw [show 4 * (e / 4) + e % 4 = e by omega] at this
                      exact this
                    · have := (hok (e - 4 * k) (by omega)).2
                      rw [show 4 * k + (e - 4 * k) = e by omega] at this
                      exact this
                  refine ⟨by rw [List.length_take, HEL.out]; omega, fun e he => ?_, fun e he => ?_⟩
                  · rw [List.length_take, HEL.out] at he
                    rw [(take_ent E (4 * k + c) e (by omega)).1, (HEG.out e (by omega)).1]
                    have := name_size (entW (putAll B ps) l e)
                    omega
                  · rw [List.length_take, HEL.out] at he
                    rw [(take_ent E (4 * k + c) e (by omega)).2, (HEG.out e (by omega)).2]
                    have := hin e (by omega)
                    omega
                have HROWC : Hid (∀ wx, Keeps [] w7 wx → Calls Tryd.prog 37 #[v9, .int .i64 (k : Int)] wx fun e w' => e = .returned (.agg (u64s (entRow E k)).toArray) ∧ Keeps [] wx w') := fun wx hk2 => by
                  have := entryRow_at (HER.out.keep hk2 (by simp)) HEO.out k (by rw [List.length_take, HEL.out]; omega)
                  rw [entRow_take E k c (by rw [HC.out, HEL.out]) (by rw [HEL.out]; exact hk4)] at this
                  exact this
                have HLR : Hid (∀ wx, Keeps [] w7 wx → (loadVar 63 ⟨w3.heap.size, 0, none⟩).run Tryd.prog wx = .ok (.agg (u64s r).toArray) wx) := fun wx hk2 => load_r8 (hbr.keep hk2 (by simp)) HR8.out
                have HEQ8 := Lib.hid (fun wx => eq_r8 (a := entRow E k) (b := r) (entTo_len _ _ _) HR8.out wx)
                have hgr8 := guard_r8
                have HKP := Lib.hid hkp
                have HOW := Lib.hid hown
                obtain ⟨t2, ht2⟩ : ∃ t2, decide (entRow E k = r) = t2 := ⟨_, rfl⟩
                rw [ht2] at HEQ8
                have heq8 := HEQ8.out
                have HBK : Hid (BlkOk (putAll B ps) l m k ↔ t2 = true) := by
                  show _ ↔ _
                  rw [HBO.out, ← ht2, decide_eq_true_iff]
                  refine ⟨fun h => h.2.2, fun h => ⟨by omega, fun i hi => hok i ?_, h⟩⟩
                  have := HC.out
                  omega
                clear hown hok hbr hkp ho0 hg0 ht2 HEQ8
                generalize (u64s (entRow E k)).toArray = ZQ at *
                generalize (u64s r).toArray = ZP at *
                cases t2
                all_goals
                  go_wp2_with fail
                  refine wp_region_each (S := fun wx => Keeps [] w7 wx) (by kernel_rfl) (by kernel_rfl) (fun d _ _ _ _ h => by cases d <;> exact h) ((Keeps.refl _ _).drew) (by kernel_rfl) ?_
                  repeat (first
                    | (refine EachList.cons (.agg ZP) (EachIf.load rfl 63 (.tmp 12) rfl _ rfl fun wx hx => HLR.out wx hx) ?_; simp only [Act.put, List.setIfInBounds_toArray, List.set_cons_zero, List.set_cons_succ])
                    | (refine EachList.cons (.agg ZQ) (EachIf.call rfl 37 #[v9, .int .i64 (k : Int)] ?he ?h) ?_; (case he => (intro wz; go_simp)); (case h => exact fun wx hx => (HROWC.out wx hx).mono fun e w' he => ⟨he.1, hx.trans' he.2⟩); simp only [Act.put, List.setIfInBounds_toArray, List.set_cons_zero, List.set_cons_succ])
                    | (refine EachList.cons ?_ (EachIf.val rfl ?h) ?_; (case h => (intro wx hx; clear hx; go_simp; rfl)); simp only [Act.put, List.setIfInBounds_toArray, List.set_cons_zero, List.set_cons_succ]))
                  refine EachList.done fun wz hx => ?_
                  have HKZ := Lib.hid hx
                  clear hx
                · have HN : Hid (¬ EntsOk (putAll B ps) l m) := HNB.out fun h => by have := HBK.out.1 h; cases this
                  have HKX := Lib.hid (HK0.out.trans' (HKP.out.trans' HKZ.out))
                  go_wp2_with fail
                  go_ret2
                  exact EntsPost.no HN.out HKX.out
                · have HNEXT : Hid (wz.ownsRow (w.heap.size + 1) 57 2 v9 (min m (4 * (k + 1))) (ecells (E.take (4 * (k + 1)))) ∧ (∀ i, i < k + 1 → BlkOk (putAll B ps) l m i) ∧ Keeps [] (w.alloc (.cells Z 22)) wz) := by
                    refine ⟨?_, fun i hi => ?_, HKP.out.trans' HKZ.out⟩
                    · have h1 := ownsRow_keep HOW.out HKZ.out (by simp)
                      have hcc := HC.out
                      rw [show min m (4 * (k + 1)) = 4 * k + c by omega]
                      have e : E.take (4 * (k + 1)) = E.take (4 * k + c) := by
                        by_cases h4 : c = 4
                        · rw [h4, Nat.mul_add]
                        · rw [List.take_of_length_le (by rw [HEL.out]; omega), List.take_of_length_le (by rw [HEL.out]; omega)]
                      rw [e]
                      exact h1
                    · by_cases e : i = k
                      · subst e; exact HBK.out.2 (by simp)
                      · exact HPRE.out i (by omega)
                  go_wp2_with fail
                  go_roundg gg
                  case measure => omega
                  case rel => exact ⟨k + 1, by omega, by go_num, HNEXT.out⟩
              · have HN : Hid (¬ EntsOk (putAll B ps) l m) := HNB.out fun h => hno (HLOK.out.2 fun j hj => (HBO.out.1 h).2.1 j (by have := HC.out; omega))
                have HKX := Lib.hid (HK0.out.trans' ((HKP.out.trans' HK5.out).trans' hk6))
                clear hno hk6 HEOF
                go_wp2_with fail
                go_ret2
                exact EntsPost.no HN.out HKX.out
            · have hd2 : 2 * (d : Int) = (n2 : Int) := by have := HN2.out; omega
              have hs8 := HSL8.out (n2 : Int) rfl
              have HH2 := Lib.hid hH2
              clear hH2 HSL8
              go_wp2_with ((with_reducible show wpList _ _ _ (⟨_, .store 63 (.tmp 12) (.tmp 39), _, _, _, _⟩ :: _) _ _); refine wpList_store_any rfl 63 (.tmp 12) (.tmp 39) rfl _ rfl _ rfl _ HST.out ?_)
              refine HEOF.out.mono ?_; rintro e w6 hpost
              rcases hpost with ⟨g7, rfl, ho7, hg7, hok7, hk6⟩ | ⟨rfl, hno, hk6⟩
              · have hok := HLOK.out.1 hok7
                have HOW6 := Lib.hid (ownsRow_keep HO5.out hk6 (by simp))
                have HK6 := Lib.hid (HK5.out.trans' hk6)
                have HBR6 := Lib.hid (HB5.out.keep hk6 (by simp))
                have HNEWS : Hid (∀ j u, (ecells (entsL (r.take n2) c))[j]? = some u → w6.cell? ((⟨g7, 0, none⟩ : Addr).add j) = some u) := fun j u hu => by
                  obtain ⟨-, -, hcc, -⟩ := ho7.cell (by omega)
                  have hj := (List.getElem?_eq_some_iff.1 hu).1
                  rw [ecells_len, entsL_len] at hj
                  rw [add_plain, Nat.zero_add, hcc j hj]
                  exact hu
                have HNL : Hid ((ecells (entsL (r.take n2) c)).length = c * 2) := by show _ = _; rw [ecells_len, entsL_len]
                have hw6 : w.heap.size + 1 ≤ w6.heap.size := by have := HK6.out.size; omega
                have hi := HI.out
                clear hs8 ho7 hg7 hok7 hk6 HEOF
                go_wp2_with (at_builtin; refine wpList_append_own _ rfl _ _ 23 rfl (w.heap.size + 1) 57 i0 (.agg #[.string ⟨#[]⟩, .int .i64 0]) 2 24 Tryd.underlying23 hi hz0 hz1 hz2 rfl (by decide) u9 (4 * k + 0) _ rfl HOW6.out ⟨g7, 0, none⟩ c c (ecells (entsL (r.take n2) c)) rfl HNL.out HNEWS.out (ecells_one _) (by unfold maxLen; omega) (by omega) hw6 ?_)
                intro v9 w7 hown7 hgrow _
                have hown : w7.ownsRow (w.heap.size + 1) 57 2 v9 (4 * k + c) (ecells (E.take (4 * k + c))) := by
                  rw [HEE.out, ecells_append]
                  exact hown7
                have hbr : Blk w7 w3.heap.size (u64s r).toArray 63 := (hgrow.block _ HBR6.out.lt (fun e => HE5.out _ e.symm rfl)).trans HBR6.out
                have hkp : Keeps [] (w.alloc (.cells Z 22)) w7 := (HKP.out.trans' HK6.out).grown2 hgrow fun g hg => by have := ownsRow_block HOW6.out g hg; simpa using this
                clear hown7 hgrow HOW6 HK6 HBR6 HKW HK5 HO5 HE5 HB5 HKP HOW hi
                obtain ⟨g0, ho0, hg0⟩ := Owns.of_row hown
                have HER := Lib.hid (ho0.ereads (by rw [List.length_take, HEL.out]; omega))
                have HEO : Hid (EntOk (E.take (4 * k + c))) := by
                  have hin : ∀ e, e < 4 * k + c → 0 ≤ entI (putAll B ps) l e ∧ entI (putAll B ps) l e < 32 := fun e he => by
                    have h0 : 0 ≤ entI (putAll B ps) l e := (H64.out (entAt l e + 1)).1
                    refine ⟨h0, ?_⟩
                    by_cases hek : e < 4 * k
                    · have := ((HPRE.out (e / 4) (by omega)).2.1 (e % 4) (by omega)).2
                      rw [show 4 * (e / 4) + e % 4 = e by omega] at this
                      exact this
                    · have := (hok (e - 4 * k) (by omega)).2
                      rw [show 4 * k + (e - 4 * k) = e by omega] at this
                      exact this
                  refine ⟨by rw [List.length_take, HEL.out]; omega, fun e he => ?_, fun e he => ?_⟩
                  · rw [List.length_take, HEL.out] at he
                    rw [(take_ent E (4 * k + c) e (by omega)).1, (HEG.out e (by omega)).1]
                    have := name_size (entW (putAll B ps) l e)
                    omega
                  · rw [List.length_take, HEL.out] at he
                    rw [(take_ent E (4 * k + c) e (by omega)).2, (HEG.out e (by omega)).2]
                    have := hin e (by omega)
                    omega
                have HROWC : Hid (∀ wx, Keeps [] w7 wx → Calls Tryd.prog 37 #[v9, .int .i64 (k : Int)] wx fun e w' => e = .returned (.agg (u64s (entRow E k)).toArray) ∧ Keeps [] wx w') := fun wx hk2 => by
                  have := entryRow_at (HER.out.keep hk2 (by simp)) HEO.out k (by rw [List.length_take, HEL.out]; omega)
                  rw [entRow_take E k c (by rw [HC.out, HEL.out]) (by rw [HEL.out]; exact hk4)] at this
                  exact this
                have HLR : Hid (∀ wx, Keeps [] w7 wx → (loadVar 63 ⟨w3.heap.size, 0, none⟩).run Tryd.prog wx = .ok (.agg (u64s r).toArray) wx) := fun wx hk2 => load_r8 (hbr.keep hk2 (by simp)) HR8.out
                have HEQ8 := Lib.hid (fun wx => eq_r8 (a := entRow E k) (b := r) (entTo_len _ _ _) HR8.out wx)
                have hgr8 := guard_r8
                have HKP := Lib.hid hkp
                have HOW := Lib.hid hown
                obtain ⟨t2, ht2⟩ : ∃ t2, decide (entRow E k = r) = t2 := ⟨_, rfl⟩
                rw [ht2] at HEQ8
                have heq8 := HEQ8.out
                have HBK : Hid (BlkOk (putAll B ps) l m k ↔ t2 = true) := by
                  show _ ↔ _
                  rw [HBO.out, ← ht2, decide_eq_true_iff]
                  refine ⟨fun h => h.2.2, fun h => ⟨by omega, fun i hi => hok i ?_, h⟩⟩
                  have := HC.out
                  omega
                clear hown hok hbr hkp ho0 hg0 ht2 HEQ8
                generalize (u64s (entRow E k)).toArray = ZQ at *
                generalize (u64s r).toArray = ZP at *
                cases t2
                all_goals
                  go_wp2_with fail
                  refine wp_region_each (S := fun wx => Keeps [] w7 wx) (by kernel_rfl) (by kernel_rfl) (fun d _ _ _ _ h => by cases d <;> exact h) ((Keeps.refl _ _).drew) (by kernel_rfl) ?_
                  repeat (first
                    | (refine EachList.cons (.agg ZP) (EachIf.load rfl 63 (.tmp 12) rfl _ rfl fun wx hx => HLR.out wx hx) ?_; simp only [Act.put, List.setIfInBounds_toArray, List.set_cons_zero, List.set_cons_succ])
                    | (refine EachList.cons (.agg ZQ) (EachIf.call rfl 37 #[v9, .int .i64 (k : Int)] ?he ?h) ?_; (case he => (intro wz; go_simp)); (case h => exact fun wx hx => (HROWC.out wx hx).mono fun e w' he => ⟨he.1, hx.trans' he.2⟩); simp only [Act.put, List.setIfInBounds_toArray, List.set_cons_zero, List.set_cons_succ])
                    | (refine EachList.cons ?_ (EachIf.val rfl ?h) ?_; (case h => (intro wx hx; clear hx; go_simp; rfl)); simp only [Act.put, List.setIfInBounds_toArray, List.set_cons_zero, List.set_cons_succ]))
                  refine EachList.done fun wz hx => ?_
                  have HKZ := Lib.hid hx
                  clear hx
                · have HN : Hid (¬ EntsOk (putAll B ps) l m) := HNB.out fun h => by have := HBK.out.1 h; cases this
                  have HKX := Lib.hid (HK0.out.trans' (HKP.out.trans' HKZ.out))
                  go_wp2_with fail
                  go_ret2
                  exact EntsPost.no HN.out HKX.out
                · have HNEXT : Hid (wz.ownsRow (w.heap.size + 1) 57 2 v9 (min m (4 * (k + 1))) (ecells (E.take (4 * (k + 1)))) ∧ (∀ i, i < k + 1 → BlkOk (putAll B ps) l m i) ∧ Keeps [] (w.alloc (.cells Z 22)) wz) := by
                    refine ⟨?_, fun i hi => ?_, HKP.out.trans' HKZ.out⟩
                    · have h1 := ownsRow_keep HOW.out HKZ.out (by simp)
                      have hcc := HC.out
                      rw [show min m (4 * (k + 1)) = 4 * k + c by omega]
                      have e : E.take (4 * (k + 1)) = E.take (4 * k + c) := by
                        by_cases h4 : c = 4
                        · rw [h4, Nat.mul_add]
                        · rw [List.take_of_length_le (by rw [HEL.out]; omega), List.take_of_length_le (by rw [HEL.out]; omega)]
                      rw [e]
                      exact h1
                    · by_cases e : i = k
                      · subst e; exact HBK.out.2 (by simp)
                      · exact HPRE.out i (by omega)
                  go_wp2_with fail
                  go_roundg gg
                  case measure => omega
                  case rel => exact ⟨k + 1, by omega, by go_num, HNEXT.out⟩
              · have HN : Hid (¬ EntsOk (putAll B ps) l m) := HNB.out fun h => hno (HLOK.out.2 fun j hj => (HBO.out.1 h).2.1 j (by have := HC.out; omega))
                have HKX := Lib.hid (HK0.out.trans' ((HKP.out.trans' HK5.out).trans' hk6))
                clear hno hk6 HEOF
                go_wp2_with fail
                go_ret2
                exact EntsPost.no HN.out HKX.out
end Go.Proofs.YtmhcnkjmnbnldaaDoor

namespace Go.Proofs.YtmhcnkjmnbnldaaDoor
open Go.RowKit

theorem ret_intP {k : IntKind} {a b : Int} (h : a = b) : Ending.returned (.int k a) = .returned (.int k b) := by rw [h]

def isBl (b : Int) : Bool := decide (0 ≤ b) && decide (b < 256)
theorem isBl_iff {b : Int} : isBl b = true ↔ 0 ≤ b ∧ b < 256 := by simp [isBl]

set_option maxHeartbeats 400000 in
theorem paIsBlock_at (i : Int) (w : World) : Calls Tryd.prog 82 #[.int .i64 i] w fun e w' => e = .returned (.bool (isBl i)) ∧ w = w' := by
  by_cases h0 : 0 ≤ i
  · by_cases h1 : i < 256
    · rw [isBl_iff.2 ⟨h0, h1⟩]
      go_enter Tryd.func82, Tryd.ntmps82
      go_wp2
      go_ret
      exact ⟨rfl, rfl⟩
    · rw [show isBl i = false by simp [isBl]; omega]
      go_enter Tryd.func82, Tryd.ntmps82
      go_wp2
      go_ret
      exact ⟨rfl, rfl⟩
  · rw [show isBl i = false by simp [isBl]; omega]
    go_enter Tryd.func82, Tryd.ntmps82
    go_wp2
    go_ret
    exact ⟨rfl, rfl⟩

set_option maxHeartbeats 400000 in
theorem paBitsOf_at (b : Nat) (hb : b < 256) (w : World) : Calls Tryd.prog 83 #[.int .i64 (b : Int)] w fun e w' => e = .returned (.int .i64 ((816 + b / 64 : Nat) : Int)) ∧ w = w' := by
  have h0 : (0 : Int) ≤ (b : Int) := by omega
  have h1 : (b : Int) < 256 := by omega
  go_enter Tryd.func83, Tryd.ntmps83
  go_wp2
  go_ret
  exact ⟨ret_intP (by omega), rfl⟩

/-- Which bit of its word is a block's. -/
def mskN (b : Nat) : Nat := 2 ^ (b % 64)

theorem mskN_lt (b : Nat) : mskN b < 18446744073709551616 := pow_lt64 (Nat.mod_lt _ (by decide))

theorem mskN_shl (b : Nat) : IntKind.u64.wrap (2 ^ (b % 64)) = ((mskN b : Nat) : Int) := by
  have h := mskN_lt b
  have e : ((2 : Int) ^ (b % 64)) = ((2 ^ (b % 64) : Nat) : Int) := by simp
  rw [IntKind.wrap_u64, e]
  unfold mskN at *
  generalize 2 ^ (b % 64) = x at *
  omega

set_option maxHeartbeats 400000 in
theorem paMaskOf_at (b : Nat) (hb : b < 256) (w : World) : Calls Tryd.prog 84 #[.int .i64 (b : Int)] w fun e w' => e = .returned (.int .u64 ((mskN b : Nat) : Int)) ∧ w = w' := by
  have h0 : (0 : Int) ≤ (b : Int) := by omega
  have h1 : (b : Int) < 256 := by omega
  have H := Lib.hid (mskN_shl b)
  go_enter Tryd.func84, Tryd.ntmps84
  go_wp2
  go_ret
  exact ⟨ret_intP H.out, rfl⟩

theorem and_pow (x j : Nat) : x &&& 2 ^ j = if x.testBit j = true then 2 ^ j else 0 := by
  apply Nat.eq_of_testBit_eq
  intro i
  rw [Nat.testBit_and, Nat.testBit_two_pow]
  by_cases e : j = i
  · subst e
    cases h : x.testBit j <;> simp
  · cases h : x.testBit j <;> simp [e]

theorem and_mskN (x b : Nat) : (x &&& mskN b ≠ 0) ↔ x.testBit (b % 64) = true := by
  unfold mskN
  rw [and_pow]
  have := Nat.two_pow_pos (b % 64)
  cases x.testBit (b % 64) <;> simp <;> omega

/-- The words, as they are read: a word of the bits. -/
theorem getN_bits {B : List Int} {ps : List (Int × Int)} (h : In64 (putAll B ps)) (k : Nat) (hk : k < 2000) : getN B ps ((816 + k : Nat) : Int) = ((bw (putAll B ps) k : Nat) : Int) := by
  unfold getN
  rw [if_pos (by omega), bw_cast h, Int.toNat_natCast]

end Go.Proofs.YtmhcnkjmnbnldaaDoor

namespace Go.Proofs.YtmhcnkjmnbnldaaDoor
open Go.RowKit

theorem setW_mskN (x b : Nat) : setW x (b % 64) false = x &&& (18446744073709551615 - mskN b) ∧ setW x (b % 64) true = (x &&& (18446744073709551615 - mskN b)) ||| mskN b := ⟨rfl, rfl⟩

set_option maxHeartbeats 2000000 in
theorem paSet_at {w : World} {b gp : Nat} {B : List Int} {ps : List (Int × Int)} (h : ShAt w b gp B ps) (h64 : In64 (putAll B ps)) (hn : ps.length ≤ 1000000) (i : Int) (u : Bool) :
    Calls Tryd.prog 61 #[.pointer (some ⟨b, 0, none⟩), .int .i64 i, .bool u] w (PutPost w b gp B (ps ++ setPs (putAll B ps) i.toNat u)) := by
  have HI := Lib.hid (paIsBlock_at i w)
  by_cases hz : i = 0
  · subst hz
    have HM : Hid (PutPost w b gp B (ps ++ setPs (putAll B ps) (0 : Int).toNat u) (.returned (.tuple #[])) w) := by
      show PutPost _ _ _ _ _ _ _
      rw [show setPs (putAll B ps) (0 : Int).toNat u = [] by simp [setPs], List.append_nil]
      exact ⟨rfl, gp, .inl rfl, h, Keeps.refl _ _⟩
    clear h
    go_enter Tryd.func61, Tryd.ntmps61
    go_wp2_with fail
    go_end0
    exact HM.out
  have e0 : (i == 0) = false := by simpa using hz
  cases hi : isBl i
  · rw [hi] at HI
    have HM : Hid (PutPost w b gp B (ps ++ setPs (putAll B ps) i.toNat u) (.returned (.tuple #[])) w) := by
      show PutPost _ _ _ _ _ _ _
      have : ¬ (0 ≤ i ∧ i < 256) := fun e => by rw [isBl_iff.2 e] at hi; cases hi
      rw [show setPs (putAll B ps) i.toNat u = [] by unfold setPs; rw [if_pos (by omega)], List.append_nil]
      exact ⟨rfl, gp, .inl rfl, h, Keeps.refl _ _⟩
    clear hi h hz
    go_enter Tryd.func61, Tryd.ntmps61
    go_wp2_with fail
    refine HI.out.mono ?_; rintro e w' ⟨rfl, rfl⟩
    go_wp2_with fail
    go_end0
    exact HM.out
  · rw [hi] at HI
    obtain ⟨h0, h1⟩ := isBl_iff.1 hi
    clear hi
    obtain ⟨j, rfl⟩ := Int.eq_ofNat_of_zero_le h0
    have hj : j < 256 := by omega
    have hj0 : ¬ (j = 0 ∨ 256 ≤ j) := by omega
    clear hz
    have HB := Lib.hid (paBitsOf_at j hj w)
    have HM := Lib.hid (paMaskOf_at j hj w)
    have HG := Lib.hid (txGet_at h ((816 + j / 64 : Nat) : Int))
    rw [getN_bits h64 (j / 64) (by omega)] at HG
    have hx := bw_lt h64 (j / 64)
    have hm := mskN_lt j
    have ha := u64_andNot_nat (bw (putAll B ps) (j / 64)) (mskN j) hx hm
    have hy : bw (putAll B ps) (j / 64) &&& (18446744073709551615 - mskN j) < 18446744073709551616 := Nat.lt_of_le_of_lt Nat.and_le_left hx
    have hin : inB ((816 + j / 64 : Nat) : Int) = true := inB_iff.2 ⟨by omega, by omega⟩
    obtain ⟨s0, s1⟩ := setW_mskN (bw (putAll B ps) (j / 64)) j
    cases u
    · have HP : Hid (Calls Tryd.prog 23 #[.pointer (some ⟨b, 0, none⟩), .int .i64 ((816 + j / 64 : Nat) : Int), .int .u64 ((bw (putAll B ps) (j / 64) &&& (18446744073709551615 - mskN j) : Nat) : Int)] w (PutPost w b gp B (ps ++ setPs (putAll B ps) (j : Int).toNat false))) := by
        have := txPut_at h hn ((816 + j / 64 : Nat) : Int) ((bw (putAll B ps) (j / 64) &&& (18446744073709551615 - mskN j) : Nat) : Int)
        unfold putN at this
        rw [if_pos hin] at this
        unfold setPs
        rw [Int.toNat_natCast, if_neg hj0, s0]
        exact this
      clear h h64 hn hx hm hin s0 s1 hj0 hy
      generalize ps ++ setPs (putAll B ps) (j : Int).toNat false = qs at *
      generalize bw (putAll B ps) (j / 64) &&& (18446744073709551615 - mskN j) = y at *
      generalize bw (putAll B ps) (j / 64) = x at *
      generalize mskN j = m at *
      go_enter Tryd.func61, Tryd.ntmps61
      go_wp2_with fail
      refine HI.out.mono ?_; rintro e w' ⟨rfl, rfl⟩
      go_wp2_with fail
      refine HB.out.mono ?_; rintro e w' ⟨rfl, rfl⟩
      go_wp2_with fail
      refine HG.out.mono ?_; rintro e w' ⟨rfl, rfl⟩
      go_wp2_with fail
      refine HM.out.mono ?_; rintro e w' ⟨rfl, rfl⟩
      go_wp2_with fail
      refine HB.out.mono ?_; rintro e w' ⟨rfl, rfl⟩
      go_wp2_with fail
      refine HP.out.mono ?_; rintro e w' hp
      have HQ := Lib.hid hp
      obtain ⟨rfl, -⟩ := hp
      go_wp2_with fail
      go_end0
      exact HQ.out
    · have ho := u64_or_nat (bw (putAll B ps) (j / 64) &&& (18446744073709551615 - mskN j)) (mskN j) hy hm
      have HP : Hid (Calls Tryd.prog 23 #[.pointer (some ⟨b, 0, none⟩), .int .i64 ((816 + j / 64 : Nat) : Int), .int .u64 (((bw (putAll B ps) (j / 64) &&& (18446744073709551615 - mskN j)) ||| mskN j : Nat) : Int)] w (PutPost w b gp B (ps ++ setPs (putAll B ps) (j : Int).toNat true))) := by
        have := txPut_at h hn ((816 + j / 64 : Nat) : Int) (((bw (putAll B ps) (j / 64) &&& (18446744073709551615 - mskN j)) ||| mskN j : Nat) : Int)
        unfold putN at this
        rw [if_pos hin] at this
        unfold setPs
        rw [Int.toNat_natCast, if_neg hj0, s1]
        exact this
      clear h h64 hn hx hm hin s0 s1 hj0 hy
      generalize ps ++ setPs (putAll B ps) (j : Int).toNat true = qs at *
      generalize (bw (putAll B ps) (j / 64) &&& (18446744073709551615 - mskN j)) ||| mskN j = z at *
      generalize bw (putAll B ps) (j / 64) &&& (18446744073709551615 - mskN j) = y at *
      generalize bw (putAll B ps) (j / 64) = x at *
      generalize mskN j = m at *
      go_enter Tryd.func61, Tryd.ntmps61
      go_wp2_with fail
      refine HI.out.mono ?_; rintro e w' ⟨rfl, rfl⟩
      go_wp2_with fail
      refine HB.out.mono ?_; rintro e w' ⟨rfl, rfl⟩
      go_wp2_with fail
      refine HG.out.mono ?_; rintro e w' ⟨rfl, rfl⟩
      go_wp2_with fail
      refine HM.out.mono ?_; rintro e w' ⟨rfl, rfl⟩
      go_wp2_with fail
      refine HM.out.mono ?_; rintro e w' ⟨rfl, rfl⟩
      go_wp2_with fail
      refine HB.out.mono ?_; rintro e w' ⟨rfl, rfl⟩
      go_wp2_with fail
      refine HP.out.mono ?_; rintro e w' hp
      have HQ := Lib.hid hp
      obtain ⟨rfl, -⟩ := hp
      go_wp2_with fail
      go_end0
      exact HQ.out

theorem xor_all (x : Nat) (hx : x < 18446744073709551616) : 18446744073709551615 ^^^ x = 18446744073709551615 - x := by
  apply Nat.eq_of_testBit_eq
  intro j
  rw [Nat.testBit_xor, testBit_not x j hx, show (18446744073709551615 : Nat) = 2 ^ 64 - 1 from rfl, Nat.testBit_two_pow_sub_one]
  by_cases h : j < 64
  · simp [h]
  · have : x.testBit j = false := by
      apply Nat.testBit_lt_two_pow
      exact Nat.lt_of_lt_of_le hx (Nat.pow_le_pow_right (n := 2) (i := 64) (by decide) (by omega))
    simp [h, this]

theorem xor_int (x : Nat) (hx : x < 18446744073709551616) : bits .xor .u64 IntKind.u64.max (x : Int) = ((18446744073709551615 - x : Nat) : Int) := by
  rw [← xor_all x hx]
  exact u64_xor_nat 18446744073709551615 x (by decide) hx

set_option maxHeartbeats 1000000 in
theorem paFreeIn_at {w : World} {b gp : Nat} {B : List Int} {ps : List (Int × Int)} (h : ShAt w b gp B ps) (h64 : In64 (putAll B ps)) (k : Nat) (hk : k < 4) :
    Calls Tryd.prog 80 #[.pointer (some ⟨b, 0, none⟩), .int .i64 (k : Int)] w fun e w' => e = .returned (.int .u64 ((frW (putAll B ps) k : Nat) : Int)) ∧ w = w' := by
  have HG := Lib.hid (txGet_at h ((816 + k : Nat) : Int))
  rw [getN_bits h64 k (by omega)] at HG
  have hx := xor_int _ (bw_lt h64 k)
  have ek : IntKind.i64.wrap (816 + (k : Int)) = ((816 + k : Nat) : Int) := by rw [IntWalk.i64_in _ (by omega)]; omega
  by_cases h0 : k = 0
  · subst h0
    have HM : Hid (Calls Tryd.prog 84 #[.int .i64 0] w (fun e w' => e = .returned (.int .u64 1) ∧ w = w')) := paMaskOf_at 0 (by decide) w
    have ha : bits .andNot .u64 (((18446744073709551615 - bw (putAll B ps) 0 : Nat)) : Int) 1 = ((frW (putAll B ps) 0 : Nat) : Int) := by
      rw [frW, if_pos rfl]
      exact u64_andNot_nat (18446744073709551615 - bw (putAll B ps) 0) 1 (by omega) (by decide)
    generalize frW (putAll B ps) 0 = f at *
    generalize 18446744073709551615 - bw (putAll B ps) 0 = y at *
    generalize bw (putAll B ps) 0 = x at *
    clear h h64
    go_enter Tryd.func80, Tryd.ntmps80
    go_wp2_with fail
    refine HG.out.mono ?_; rintro e w' ⟨rfl, rfl⟩
    go_wp2_with fail
    refine HM.out.mono ?_; rintro e w' ⟨rfl, rfl⟩
    go_wp2_with fail
    go_ret
    exact ⟨rfl, rfl⟩
  · have e0 : ((k : Int) == 0) = false := by simp; omega
    have hf : 18446744073709551615 - bw (putAll B ps) k = frW (putAll B ps) k := by rw [frW, if_neg h0]
    rw [hf] at hx
    clear hf
    generalize frW (putAll B ps) k = f at *
    generalize bw (putAll B ps) k = x at *
    clear h h64
    go_enter Tryd.func80, Tryd.ntmps80
    go_wp2_with fail
    refine HG.out.mono ?_; rintro e w' ⟨rfl, rfl⟩
    go_wp2_with fail
    go_ret
    exact ⟨rfl, rfl⟩

end Go.Proofs.YtmhcnkjmnbnldaaDoor

namespace Go.Proofs.YtmhcnkjmnbnldaaDoor
open Go.RowKit

theorem rep_85 : rep 85 8 = 6148914691236517205 := by decide
theorem rep_51 : rep 51 8 = 3689348814741910323 := by decide
theorem rep_15 : rep 15 8 = 1085102592571150095 := by decide

theorem wrapU (n : Nat) (h : n < 18446744073709551616) : IntKind.u64.wrap (n : Int) = (n : Int) := by rw [IntKind.wrap_u64]; omega

theorem and_half (x d m : Nat) (hx : x < 18446744073709551616) (hm : m < 18446744073709551616) : bits .and .u64 ((x : Int) / (d : Int)) (m : Int) = ((x / d &&& m : Nat) : Int) :=
  u64_and_nat (x / d) m (Nat.lt_of_le_of_lt (Nat.div_le_self x d) hx) hm

theorem i64_and127 (x : Nat) (h : x < 9223372036854775808) : bits .and .i64 (x : Int) 127 = ((x % 128 : Nat) : Int) := by
  show IntKind.i64.wrap ((BitVec.ofInt 64 (x : Int) &&& BitVec.ofInt 64 127).toNat : Int) = _
  have h1 : BitVec.ofInt 64 127 = BitVec.ofNat 64 127 := by decide
  rw [BitVec.toNat_and, ofInt_u64 x (by omega), h1, BitVec.toNat_ofNat, show (127 % 2 ^ 64 : Nat) = 2 ^ 7 - 1 from rfl, Nat.and_two_pow_sub_one_eq_mod]
  rw [IntWalk.i64_in _ (by omega)]

/-- The counting's steps, as the walk spells them. -/
theorem count_walk (x : Nat) (hx : x < 18446744073709551616) : ∃ x1 x2 x3 x4 x5 x6 : Nat,
    IntKind.u64.wrap (bits .and .u64 ((x : Int) / 2) 6148914691236517205 + bits .and .u64 (x : Int) 6148914691236517205) = (x1 : Int) ∧
    IntKind.u64.wrap (bits .and .u64 ((x1 : Int) / 4) 3689348814741910323 + bits .and .u64 (x1 : Int) 3689348814741910323) = (x2 : Int) ∧
    bits .and .u64 (IntKind.u64.wrap ((x2 : Int) / 16 + (x2 : Int))) 1085102592571150095 = (x3 : Int) ∧
    IntKind.u64.wrap ((x3 : Int) + (x3 : Int) / 256) = (x4 : Int) ∧
    IntKind.u64.wrap ((x4 : Int) + (x4 : Int) / 65536) = (x5 : Int) ∧
    IntKind.u64.wrap ((x5 : Int) + (x5 : Int) / 4294967296) = (x6 : Int) ∧
    IntKind.i64.wrap (x6 : Int) = (x6 : Int) ∧ bits .and .i64 (x6 : Int) 127 = ((ones 64 x : Nat) : Int) := by
  obtain ⟨x1, x2, x3, x4, x5, x6, s1, s2, s3, s4, s5, s6, b1, b2, b2', b3, b4, b5, b6, hm⟩ := count_steps x hx
  unfold st1 at s1
  unfold st2 at s2
  unfold st3 at s3
  rw [rep_85] at s1
  rw [rep_51] at s2
  rw [rep_15] at s3
  refine ⟨x1, x2, x3, x4, x5, x6, ?_, ?_, ?_, ?_, ?_, ?_, ?_, ?_⟩
  · rw [show (bits .and .u64 ((x : Int) / 2) 6148914691236517205) = _ from and_half x 2 6148914691236517205 hx (by decide), show (bits .and .u64 (x : Int) 6148914691236517205) = _ from u64_and_nat x 6148914691236517205 hx (by decide), ← Int.natCast_add, s1]
    exact wrapU _ b1
  · rw [show (bits .and .u64 ((x1 : Int) / 4) 3689348814741910323) = _ from and_half x1 4 3689348814741910323 b1 (by decide), show (bits .and .u64 (x1 : Int) 3689348814741910323) = _ from u64_and_nat x1 3689348814741910323 b1 (by decide), ← Int.natCast_add, s2]
    exact wrapU _ b2
  · rw [show (x2 : Int) / 16 + (x2 : Int) = ((x2 / 16 + x2 : Nat) : Int) by omega, wrapU _ b2', ← s3]
    exact u64_and_nat (x2 / 16 + x2) 1085102592571150095 b2' (by decide)
  · rw [show (x3 : Int) + (x3 : Int) / 256 = ((x4 : Nat) : Int) by omega]
    exact wrapU _ (by omega)
  · rw [show (x4 : Int) + (x4 : Int) / 65536 = ((x5 : Nat) : Int) by omega]
    exact wrapU _ (by omega)
  · rw [show (x5 : Int) + (x5 : Int) / 4294967296 = ((x6 : Nat) : Int) by omega]
    exact wrapU _ (by omega)
  · exact IntWalk.i64_in _ (by omega)
  · rw [i64_and127 _ b6, hm]

set_option maxHeartbeats 1000000 in
theorem ones_at (x : Nat) (hx : x < 18446744073709551616) (w : World) : Calls Tryd.prog 79 #[.int .u64 (x : Int)] w fun e w' => e = .returned (.int .i64 ((ones 64 x : Nat) : Int)) ∧ w = w' := by
  obtain ⟨x1, x2, x3, x4, x5, x6, E1, E2, E3, E4, E5, E6, E7, E8⟩ := count_walk x hx
  generalize ones 64 x = r at *
  clear hx
  go_enter Tryd.func79, Tryd.ntmps79
  go_wp2
  go_ret
  exact ⟨rfl, rfl⟩

/-- math/bits' table lies in its variable. -/
def TabAt (w : World) : Prop := ∀ j, j < 64 → w.cell? ⟨0, j, none⟩ = some (.int .u8 ((Lib.deBruijn64tab.getD j 0 : Nat) : Int))

theorem tz_key (x a : Nat) (hx : x < 18446744073709551616) (hx0 : x ≠ 0) (hlow : x &&& (18446744073709551616 - x) = a) :
    IntKind.u64.wrap (bits .and .u64 (x : Int) (IntKind.u64.wrap (-(x : Int))) * 285870213051353865) / 288230376151711744 = ((a * 285870213051353865 % 18446744073709551616 / 288230376151711744 : Nat) : Int) := by
  have e1 : IntKind.u64.wrap (-(x : Int)) = ((18446744073709551616 - x : Nat) : Int) := by rw [IntKind.wrap_u64]; omega
  rw [e1, u64_and_nat x _ hx (by omega), hlow, IntKind.wrap_u64]
  omega

set_option maxHeartbeats 1000000 in
theorem tz_core (x k idx : Nat) (w : World) (hx0 : ((x : Int) == 0) = false)
    (key : IntKind.u64.wrap (bits .and .u64 (x : Int) (IntKind.u64.wrap (-(x : Int))) * 285870213051353865) / 288230376151711744 = (idx : Int))
    (hi : idx < 64) (hk : k < 64) (hcell : w.cell? ⟨0, idx, none⟩ = some (.int .u8 k)) :
    Calls Tryd.prog 81 #[.int .u64 (x : Int)] w fun e w' => e = .returned (.int .i64 (k : Int)) ∧ w = w' := by
  go_enter Tryd.func81, Tryd.ntmps81
  go_wp2_with (simp only [key])
  go_ret
  exact ⟨rfl, rfl⟩

theorem tz_at (x : Nat) (hx : x < 18446744073709551616) (h0 : x ≠ 0) (w : World) (hT : TabAt w) : Calls Tryd.prog 81 #[.int .u64 (x : Int)] w fun e w' => e = .returned (.int .i64 ((Lib.ctz 64 x : Nat) : Int)) ∧ w = w' := by
  obtain ⟨hlow, hk⟩ := Lib.lowest_bit 64 x h0 hx
  obtain ⟨hi, htab⟩ := Lib.deBruijn64_at _ hk
  have hcell := hT _ hi
  rw [htab] at hcell
  exact tz_core x _ _ w (by simp; omega) (tz_key x _ hx h0 hlow) hi hk hcell

end Go.Proofs.YtmhcnkjmnbnldaaDoor
