/-
  Layer 9: the law TreeEntries. An array of thirteen numbers as an argument is read. An inode (api.Inode), and a list of its entries, as an argument is read; so pairs.
-/
import Derived.Test.YtlfkodlnhfdgjaaG09
import Derived.Test.YtlfkodlnhfdgjaaG00
import Derived.Test.YtlfkodlnhfdgjaaG02
import Derived.Test.YtlfkodlnhfdgjaaG01
import Derived.Test.YtlfkodlnhfdgjaaG06
namespace Go.Proofs.Ytlfkodlnhfdgjaa
open Go.RowKit

theorem load_str {P : Program} {w : World} {ty : TypeId} {g off T : Nat} {Z : Array Value} {v : Value} (hu : P.underlying ty = some .string) (hb : Blk w g Z T) (hz : Z[off]? = some v) : (loadVar ty ⟨g, off, none⟩).run P w = .ok v w := by
  have hagg : (isAgg ty).run P w = .ok false w := by
    unfold isAgg
    rw [Sem.run_bind, run_underlying hu w]
    rfl
  have hc : w.cell? ⟨g, off, none⟩ = some v := by rw [hb.cell, hz]
  simp [loadVar, Sem.run_bind, hagg, hc]

theorem load_strc {P : Program} {w : World} {ty : TypeId} {g off : Nat} {v : Value} (hu : P.underlying ty = some .string) (hc : w.cell? ⟨g, off, none⟩ = some v) : (loadVar ty ⟨g, off, none⟩).run P w = .ok v w := by
  have hagg : (isAgg ty).run P w = .ok false w := by
    unfold isAgg
    rw [Sem.run_bind, run_underlying hu w]
    rfl
  simp [loadVar, Sem.run_bind, hagg, hc]

theorem load_numc {P : Program} {w : World} {ty : TypeId} {k : IntKind} {g off : Nat} {v : Value} (hu : P.underlying ty = some (.int k)) (hc : w.cell? ⟨g, off, none⟩ = some v) : (loadVar ty ⟨g, off, none⟩).run P w = .ok v w := by
  have hagg : (isAgg ty).run P w = .ok false w := by
    unfold isAgg
    rw [Sem.run_bind, run_underlying hu w]
    rfl
  simp [loadVar, Sem.run_bind, hagg, hc]

theorem load_num {P : Program} {w : World} {ty : TypeId} {k : IntKind} {g off T : Nat} {Z : Array Value} {v : Value} (hu : P.underlying ty = some (.int k)) (hb : Blk w g Z T) (hz : Z[off]? = some v) : (loadVar ty ⟨g, off, none⟩).run P w = .ok v w := by
  have hagg : (isAgg ty).run P w = .ok false w := by
    unfold isAgg
    rw [Sem.run_bind, run_underlying hu w]
    rfl
  have hc : w.cell? ⟨g, off, none⟩ = some v := by rw [hb.cell, hz]
  simp [loadVar, Sem.run_bind, hagg, hc]

theorem owns_none (w : World) (T sz : Nat) : (w.alloc (.cells #[] T)).ownsRow w.heap.size T sz (.slice (some ⟨w.heap.size, 0, none⟩) 0 0) 0 [] :=
  ⟨by simp, .inr ⟨w.heap.size, 0, #[], rfl, Nat.le_refl _, Blk.new w _ _, Nat.le_refl _, by simp, by simp, by simp⟩⟩

set_option maxRecDepth 100000 in
set_option maxHeartbeats 8000000 in
theorem treeEntries_at (n : Ino) (v : Value) (g : Nat) (nm : ByteArray) (xi : Int) (hB : n.B.length = 13) (w : World) (hE : EReads w v g n.E) :
    Calls Try.prog 3 #[.agg (inoC n v), .agg #[.string nm, .int .i64 xi]] w fun e w' => e = .returned (.bool true) ∧ Keeps [] w w' := by
  have hb0 := (Blk.new w (inoC n v) 25).alloc (.cells #[.string nm, .int .i64 xi] 27)
  have hb1 := Blk.new (w.alloc (.cells (inoC n v) 25)) #[.string nm, .int .i64 xi] 27
  rw [show (w.alloc (.cells (inoC n v) 25)).heap.size = w.heap.size + 1 by simp] at hb1
  have hk0 : Keeps [] w ((w.alloc (.cells (inoC n v) 25)).alloc (.cells #[.string nm, .int .i64 xi] 27)) := ((Keeps.refl [] w).alloc _).alloc _
  have hz0 : ((w.alloc (.cells (inoC n v) 25)).alloc (.cells #[.string nm, .int .i64 xi] 27)).heap.size = w.heap.size + 2 := by simp
  have HAW := Lib.hid awake9_at
  have HFE : Hid (∀ wx, Keeps [] w wx → Calls Try.prog 5 #[.agg (inoC n v)] wx (FewPost wx n)) := fun wx hk => refFew_at n v g hB wx (hE.keep hk (by simp))
  have HRI : Hid (∀ wx, Keeps [] w wx → (∀ k, k < n.E.length → (enm n.E k).size ≤ 9223372036854775807) → Calls Try.prog 6 #[.agg (inoC n v)] wx fun e w' => e = .returned (.bool (decide (RightP n))) ∧ Keeps [] wx w') := fun wx hk hN => refRight_at n v g hB wx (hE.keep hk (by simp)) hN
  have HLN : Hid (∀ wx, Blk wx w.heap.size (inoC n v) 25 → (loadVar 25 ⟨w.heap.size, 0, none⟩).run Try.prog wx = .ok (.agg (inoC n v)) wx) := fun wx hb => load_ino hb hB
  have HE := Lib.hid hE
  have HBN := Lib.hid hB
  have HAT := Lib.hid (inoAt v hB)
  have hzv := zero_ino
  obtain ⟨Z0, hZ0⟩ : ∃ Z0, inoC inoZ (.slice none 0 0) = Z0 := ⟨_, rfl⟩
  have HZZ : Hid (Z0.size = 18) := by show _ = _; rw [← hZ0]; rfl
  rw [hZ0] at hzv
  clear hZ0
  obtain ⟨Z, hZ⟩ : ∃ Z, inoC n v = Z := ⟨_, rfl⟩
  have HZ := Lib.hid hZ
  rw [hZ] at hb0 hb1 hk0 hz0 HFE HRI HLN HAT ⊢
  have HB0 := Lib.hid hb0
  have HB1 := Lib.hid hb1
  have HK0 := Lib.hid hk0
  have HZ0 := Lib.hid hz0
  clear hE hB hZ hb0 hb1 hk0 hz0
  go_enter Try.func3, Try.ntmps3
  go_wp2_with fail
  refine (HAW.out _).mono ?_; rintro e w1 ⟨rfl, hk1⟩
  have HK1 := Lib.hid (HK0.out.trans' hk1)
  have HB0 := Lib.hid (HB0.out.keep hk1 (by simp))
  have HB1 := Lib.hid (HB1.out.keep hk1 (by simp))
  have HZ1 : Hid (w.heap.size + 2 ≤ w1.heap.size) := by have := hk1.size; rw [HZ0.out] at this; exact this
  clear hk1 HK0 HZ0
  have HL1 := Lib.hid (HLN.out w1 HB0.out)
  have HF1 := Lib.hid (HFE.out w1 HK1.out)
  clear HFE
  go_wp2_with ((with_reducible show wpList _ _ _ (⟨_, .load 25 (.tmp 2), _, _, _, _⟩ :: _) _ _); refine wpList_load_want rfl 25 (.tmp 2) rfl _ rfl _ HL1.out ?_)
  refine HF1.out.mono ?_; rintro e w2 ⟨⟨fb, rfl, hfb⟩, hk2⟩
  have HK2 := Lib.hid (HK1.out.trans' hk2)
  have HB0 := Lib.hid (HB0.out.keep hk2 (by simp))
  have HB1 := Lib.hid (HB1.out.keep hk2 (by simp))
  have HZ2 : Hid (w.heap.size + 2 ≤ w2.heap.size) := Nat.le_trans HZ1.out hk2.size
  have HFB := Lib.hid hfb
  clear hk2 hfb HF1 HL1 HZ1 HK1
  cases fb
  · clear HFB
    go_wp2_with fail
    refine (HAW.out _).mono ?_; rintro e w3 ⟨rfl, hk3⟩
    have HK3 := Lib.hid (HK2.out.trans' hk3)
    clear hk3
    go_wp2_with fail
    go_ret
    exact ⟨rfl, HK3.out⟩
  · have c10 : w2.cell? ⟨w.heap.size + 1, 0, none⟩ = some (.string nm) := by rw [HB1.out.cell]; rfl
    by_cases h50 : 50 < nm.size
    · have h50i : decide ((50 : Int) < (nm.size : Int)) = true := decide_eq_true (by omega)
      clear HFB
      go_wp2_with fail
      refine (HAW.out _).mono ?_; rintro e w3 ⟨rfl, hk3⟩
      have HK3 := Lib.hid (HK2.out.trans' hk3)
      clear hk3
      go_wp2_with fail
      go_ret
      exact ⟨rfl, HK3.out⟩
    · have h50i : decide ((50 : Int) < (nm.size : Int)) = false := decide_eq_false (by omega)
      have HR2 := Lib.hid (HRI.out w2 HK2.out fun k hk => by have := (HFB.out rfl).2 k hk; omega)
      have HL2 := Lib.hid (HLN.out w2 HB0.out)
      clear HRI
      go_wp2_with ((with_reducible show wpList _ _ _ (⟨_, .load 25 (.tmp 2), _, _, _, _⟩ :: _) _ _); refine wpList_load_want rfl 25 (.tmp 2) rfl _ rfl _ HL2.out ?_)
      refine HR2.out.mono ?_; rintro e w3 ⟨rfl, hk3⟩
      have HK3 := Lib.hid (HK2.out.trans' hk3)
      have HB0 := Lib.hid (HB0.out.keep hk3 (by simp))
      have HB1 := Lib.hid (HB1.out.keep hk3 (by simp))
      have HZ3 : Hid (w.heap.size + 2 ≤ w3.heap.size) := Nat.le_trans HZ2.out hk3.size
      clear hk3 HR2 HL2 HZ2 HK2 c10
      by_cases hR : RightP n
      · have hRd : decide (RightP n) = true := decide_eq_true hR
        have HRP := Lib.hid hR
        have c1 : w3.cell? ⟨w.heap.size, 1, none⟩ = some (.int .i64 n.K) := by rw [HB0.out.cell]; exact HAT.out.f1
        rw [hRd]
        clear hR hRd
        by_cases hK : n.K = 2
        · have e2 : (n.K != 2) = false := by rw [hK]; rfl
          have HDP : Hid (DirP n) := by
            rcases HRP.out.2.2 with ⟨h, -⟩ | ⟨-, h⟩
            · omega
            · exact h
          clear hK HRP
          generalize n.K = nk at *
          obtain ⟨A, M, B, hs⟩ := split_of (rises_dir HDP.out) nm
          have hm24 := HDP.out.1
          obtain ⟨i0, hi, hy0, hy1, hy2⟩ := info_parts Try.info_ent9
          obtain ⟨a, cap, hv, hcap, hmax, -⟩ := HE.out.open
          subst hv
          have c17 : (w3.alloc (.cells #[] 27)).cell? ⟨w.heap.size, 17, none⟩ = some (.slice a n.E.length cap) := by rw [(HB0.out.alloc _).cell]; exact HAT.out.f5
          obtain ⟨v5, w5, hr5, ho5, hg5⟩ := run_append_any (P := Try.prog) 23 27 23 i0 _ 2 24 Try.underlying23 hi hy0 hy1 hy2 rfl (by omega) w3.heap.size 0 _ [] (owns_none w3 _ 2) a n.E.length cap (ecells n.E) (ecells_len _) (ereads_cells (HE.out.keep (HK3.out.alloc _) (by simp))) (ecells_one _) (by unfold maxLen; omega) (by omega) (by simp)
          rw [Nat.zero_add, List.nil_append] at ho5
          have hk5 : Keeps [] w3 w5 := ((Keeps.refl [] w3).alloc _).grown hg5 (fun k e => by cases e; exact Nat.le_refl _)
          obtain ⟨g5, hq5, -⟩ := Owns.of_row ho5
          have hq5 := hq5.ereads rfl
          obtain ⟨a5, c5, hv5, -, -, -⟩ := hq5.open
          subst hv5
          have HK5 := Lib.hid (HK3.out.trans' hk5)
          have HB0 := Lib.hid (HB0.out.keep hk5 (by simp))
          have HB1 := Lib.hid (HB1.out.keep hk5 (by simp))
          have HZ5 : Hid (w.heap.size + 2 ≤ w5.heap.size) := Nat.le_trans HZ3.out hk5.size
          have HQ5 := Lib.hid hq5
          have hfind := refFind_at nm (HE.out.keep HK5.out (by simp))
          have HFI := Lib.hid hfind
          have hfin2 := find_at n (nm := nm) HBN.out (HE.out.keep HK5.out (by simp)) hs (by omega)
          rw [HZ.out] at hfin2
          unfold FindPost at hfin2
          have HFT := Lib.hid hfin2
          have HSP := Lib.hid hs
          have HM24 := Lib.hid hm24
          have HC5 : Hid (w5.cell? ⟨w.heap.size, 17, none⟩ = some (.slice a n.E.length cap) ∧ w5.cell? ⟨w.heap.size + 1, 0, none⟩ = some (.string nm)) := ⟨by rw [HB0.out.cell]; exact HAT.out.f5, by rw [HB1.out.cell]; rfl⟩
          have HL5 := Lib.hid (HLN.out w5 HB0.out)
          clear hs ho5 hg5 hk5 hq5 hfind hfin2 hi hy0 hy1 hy2 hmax hcap HK3 HZ3
          generalize hme : n.E.length = m at *
          have HME := Lib.hid hme
          clear hme
          obtain ⟨c17b, c10b⟩ := HC5.out
          clear HC5
          go_wp2_with (at_builtin; refine wpList_append_run rfl (.tmp 39) (.tmp 41) 23 23 ?_ (.slice (some ⟨w3.heap.size, 0, none⟩) 0 0) (.slice a m cap) ?_ ?_ hr5 ?_; all_goals first | rfl | skip)
          refine HFI.out.mono ?_; rintro e w' ⟨rfl, rfl⟩
          go_wp2_with ((with_reducible show wpList _ _ _ (⟨_, .load 25 (.tmp 2), _, _, _, _⟩ :: _) _ _); refine wpList_load_any rfl 25 (.tmp 2) rfl _ rfl _ HL5.out ?_)
          refine HFT.out.mono ?_; rintro e w6 ⟨rfl, hk6⟩
          have HK6 := Lib.hid (HK5.out.trans' hk6)
          have HB0 := Lib.hid (HB0.out.keep hk6 (by simp))
          have HB1 := Lib.hid (HB1.out.keep hk6 (by simp))
          have HZ6 : Hid (w.heap.size + 2 ≤ w6.heap.size) := Nat.le_trans HZ5.out hk6.size
          have HQ6 := Lib.hid (HQ5.out.keep hk6 (by simp))
          have HE6 := Lib.hid (HE.out.keep HK6.out (by simp))
          clear hk6 HFI HFT HL5 HK5 HZ5 HQ5 c17b c10b hr5 c17
          have hme := HME.out
          have hla := (HSP.out.newLen xi)
          have hLm := congrArg List.length HSP.out.eq
          rw [List.length_append, List.length_append] at hLm
          have hrA := HSP.out.rises (rises_dir HDP.out) [(nm, xi)] (.inr ⟨xi, rfl⟩)
          have hsA := HSP.out.change [(nm, xi)] (.inr ⟨xi, rfl⟩)
          have hwi := with_at9 (w := w6) n (nm := nm) xi HBN.out HE6.out HSP.out (by have := HM24.out; omega)
          have hfb : ∀ mm, mm ≠ nm → findE (A ++ B) mm = findE n.E mm := fun mm hmm => HSP.out.find_other hmm [] (.inl rfl)
          have hout := fun wx (hk : Keeps [] w wx) => without_at (w := wx) n (nm := nm) HBN.out (HE.out.keep hk (by simp)) HSP.out (by have := HM24.out; omega)
          have hwa := fun wx u gu (h : EReads wx u gu (A ++ ([(nm, xi)] ++ B))) => without_at (w := wx) (setE n (A ++ ([(nm, xi)] ++ B))) (nm := nm) HBN.out h hsA (by have := HM24.out; show (A ++ ([(nm, xi)] ++ B)).length ≤ 500; omega)
          have hse : setE (setE n (A ++ ([(nm, xi)] ++ B))) (A ++ B) = setE n (A ++ B) := rfl
          have hfa : findE (A ++ ([(nm, xi)] ++ B)) nm = xi := hsA.find_some
          have hcase : (M.isEmpty = true ∧ findE n.E nm = -1 ∧ inoM M = 0 ∧ (A ++ ([(nm, xi)] ++ B)).length = m + 1) ∨ (M.isEmpty = false ∧ 0 ≤ findE n.E nm ∧ inoM M = findE n.E nm ∧ (A ++ ([(nm, xi)] ++ B)).length = m) := by
            rcases HSP.out.one with e | ⟨i, e⟩
            · refine .inl ⟨by rw [e]; rfl, ?_, by rw [e]; rfl, ?_⟩
              · have := HSP.out
                rw [e] at this
                exact this.find_none
              · rw [e] at hLm
                simp only [List.length_append, List.length_cons, List.length_nil] at hLm ⊢
                omega
            · have h1 : findE n.E nm = i := by
                have := HSP.out
                rw [e] at this
                exact this.find_some
              have h2 := HSP.out.mid (by rw [e]; simp)
              have h3 := (HDP.out.2.2.2 _ h2.1).2.1.1
              rw [h2.2, e] at h3
              refine .inr ⟨by rw [e]; rfl, by rw [h1]; exact h3, by rw [h1, e]; rfl, ?_⟩
              rw [e] at hLm
              simp only [List.length_append, List.length_cons, List.length_nil] at hLm ⊢
              omega
          have hlb : (A ++ B).length + 1 = (A ++ ([(nm, xi)] ++ B)).length := by
            simp only [List.length_append, List.length_cons, List.length_nil]
            omega
          unfold EditPost at hwi hout hwa
          rw [hse] at hwa
          have HWI := Lib.hid hwi
          have HFB := Lib.hid hfb
          have HOUT := Lib.hid hout
          have HWA := Lib.hid hwa
          have HFA := Lib.hid hfa
          have HRA := Lib.hid hrA
          have HLB := Lib.hid hlb
          have HCASE := Lib.hid hcase
          clear hwi hfb hout hwa hfa hrA hsA hlb hcase hla hLm hse hme
          generalize A ++ ([(nm, xi)] ++ B) = La at *
          generalize A ++ B = Lb at *
          generalize findE n.E nm = fi at *
          generalize inoM M = im at *
          generalize M.isEmpty = me at *
          rw [HZ.out] at HWI HOUT
          obtain ⟨q, hq⟩ : ∃ q, La.length = q := ⟨_, rfl⟩
          have HQL := Lib.hid hq
          rw [hq] at HCASE HLB
          clear hq
          rcases HCASE.out with ⟨rfl, rfl, rfl, hqm⟩ | ⟨rfl, hfi, rfl, hqm⟩
          all_goals
            have HL6 := Lib.hid (HLN.out w6 HB0.out)
            have HEN6 : Hid ((loadVar 27 ⟨w.heap.size + 1, 0, none⟩).run Try.prog w6 = .ok (.agg #[.string nm, .int .i64 xi]) w6) := load_entry (by rw [HB1.out.cell]; rfl) (by rw [HB1.out.cell]; rfl)
            go_wp2_with (first | ((with_reducible show wpList _ _ _ (⟨_, .load 25 (.tmp 2), _, _, _, _⟩ :: _) _ _); refine wpList_load_any rfl 25 (.tmp 2) rfl _ rfl _ HL6.out ?_) | ((with_reducible show wpList _ _ _ (⟨_, .load 27 (.tmp 3), _, _, _, _⟩ :: _) _ _); refine wpList_load_any rfl 27 (.tmp 3) rfl _ rfl _ HEN6.out ?_))
            refine HWI.out.mono ?_; rintro e w7 ⟨u7, g7, rfl, hu7, hg7, hk7⟩
            obtain ⟨a7, c7, huv7, -, -, -⟩ := hu7.open
            rw [HQL.out] at huv7
            subst huv7
            obtain ⟨w8, p1, p2, p3⟩ := store_ino9 (n := setE n La) (v := .slice a7 q c7) (Blk.new w7 Z0 25) HZZ.out HBN.out rfl
            have hk8 : Keeps [] w7 w8 := ((Keeps.refl [] w7).alloc _).trans p3 (by intro x hx; rw [List.mem_singleton] at hx; omega)
            have HS8 := Lib.hid p1
            have HA8 := Lib.hid p2
            have HK8 := Lib.hid ((HK6.out.trans' hk7).trans' hk8)
            have HB0 := Lib.hid ((HB0.out.keep hk7 (by simp)).keep hk8 (by simp))
            have HB1 := Lib.hid ((HB1.out.keep hk7 (by simp)).keep hk8 (by simp))
            have HQ8 := Lib.hid ((HQ6.out.keep hk7 (by simp)).keep hk8 (by simp))
            have HU8 := Lib.hid (hu7.keep hk8 (by simp))
            have HLA8 := Lib.hid (load_ino p2 HBN.out)
            have c8 : w8.cell? ⟨w.heap.size + 1, 0, none⟩ = some (.string nm) := by rw [HB1.out.cell]; rfl
            have HWA8 := Lib.hid (HWA.out w8 _ _ HU8.out)
            clear hu7 hg7 hk7 p1 p2 p3 hk8 HL6 HEN6 HWI HWA HE6 HK6 HQ6 HZ6
            obtain ⟨Z8, hZ8⟩ : ∃ Z8, inoC (setE n La) (.slice a7 q c7) = Z8 := ⟨_, rfl⟩
            have HZ8 := Lib.hid hZ8
            rw [hZ8] at HS8 HA8 HLA8 HWA8 ⊢
            clear hZ8
            go_wp2_with (first | ((with_reducible show wpList _ _ _ (⟨_, .load 25 (.tmp 9), _, _, _, _⟩ :: _) _ _); refine wpList_load_any rfl 25 (.tmp 9) rfl _ rfl _ HLA8.out ?_) | ((with_reducible show wpList _ _ _ (⟨_, .store 25 (.tmp 9) (.tmp 77), _, _, _, _⟩ :: _) _ _); refine wpList_store_any rfl 25 (.tmp 9) (.tmp 77) rfl _ rfl _ rfl _ HS8.out ?_))
            refine HWA8.out.mono ?_; rintro e w9 ⟨u9, g9, rfl, hu9, hg9, hk9⟩
            obtain ⟨w10, p1, p2, p3⟩ := store_ino9 (n := setE n Lb) (v := u9) (Blk.new w9 Z0 25) HZZ.out HBN.out hu9.one
            have hk10 : Keeps [] w9 w10 := ((Keeps.refl [] w9).alloc _).trans p3 (by intro x hx; rw [List.mem_singleton] at hx; omega)
            have HS10 := Lib.hid p1
            have HBB10 := Lib.hid p2
            have HA10 := Lib.hid ((HA8.out.keep hk9 (by simp)).keep hk10 (by simp))
            have HK10 := Lib.hid ((HK8.out.trans' hk9).trans' hk10)
            have HB0 := Lib.hid ((HB0.out.keep hk9 (by simp)).keep hk10 (by simp))
            have HB1 := Lib.hid ((HB1.out.keep hk9 (by simp)).keep hk10 (by simp))
            have HQ10 := Lib.hid ((HQ8.out.keep hk9 (by simp)).keep hk10 (by simp))
            have HU10 := Lib.hid ((HU8.out.keep hk9 (by simp)).keep hk10 (by simp))
            have HV10 := Lib.hid (hu9.keep hk10 (by simp))
            have HL10 := Lib.hid (HLN.out w10 HB0.out)
            have c10 : w10.cell? ⟨w.heap.size + 1, 0, none⟩ = some (.string nm) := by rw [HB1.out.cell]; rfl
            have HOUT10 := Lib.hid (HOUT.out w10 HK10.out)
            clear hu9 hg9 hk9 p1 p2 p3 hk10 HLA8 HWA8 HOUT HK8 HQ8 HU8 HA8 HS8 c8
            obtain ⟨Z10, hZ10⟩ : ∃ Z10, inoC (setE n Lb) u9 = Z10 := ⟨_, rfl⟩
            have HZ10 := Lib.hid hZ10
            rw [hZ10] at HS10 HBB10 ⊢
            clear hZ10
            go_wp2_with (first | ((with_reducible show wpList _ _ _ (⟨_, .load 25 (.tmp 2), _, _, _, _⟩ :: _) _ _); refine wpList_load_any rfl 25 (.tmp 2) rfl _ rfl _ HL10.out ?_) | ((with_reducible show wpList _ _ _ (⟨_, .store 25 (.tmp 10) (.tmp 81), _, _, _, _⟩ :: _) _ _); refine wpList_store_any rfl 25 (.tmp 10) (.tmp 81) rfl _ rfl _ rfl _ HS10.out ?_))
            refine HOUT10.out.mono ?_; rintro e w11 ⟨u11, g11, rfl, hu11, hg11, hk11⟩
            obtain ⟨w12, p1, p2, p3⟩ := store_ino9 (n := setE n Lb) (v := u11) (Blk.new w11 Z0 25) HZZ.out HBN.out hu11.one
            have hk12 : Keeps [] w11 w12 := ((Keeps.refl [] w11).alloc _).trans p3 (by intro x hx; rw [List.mem_singleton] at hx; omega)
            have HS12 := Lib.hid p1
            have HC12 := Lib.hid p2
            have HA12 := Lib.hid ((HA10.out.keep hk11 (by simp)).keep hk12 (by simp))
            have HBB12 := Lib.hid ((HBB10.out.keep hk11 (by simp)).keep hk12 (by simp))
            have HK12 := Lib.hid ((HK10.out.trans' hk11).trans' hk12)
            have HB0 := Lib.hid ((HB0.out.keep hk11 (by simp)).keep hk12 (by simp))
            have HB1 := Lib.hid ((HB1.out.keep hk11 (by simp)).keep hk12 (by simp))
            have HQ12 := Lib.hid ((HQ10.out.keep hk11 (by simp)).keep hk12 (by simp))
            have HU12 := Lib.hid ((HU10.out.keep hk11 (by simp)).keep hk12 (by simp))
            have HV12 := Lib.hid ((HV10.out.keep hk11 (by simp)).keep hk12 (by simp))
            have HW12 := Lib.hid (hu11.keep hk12 (by simp))
            clear hu11 hg11 hk11 p1 p2 p3 hk12 HOUT10 HK10 HQ10 HU10 HV10 HA10 HBB10 HS10 HL10 c10
            obtain ⟨Z12, hZ12⟩ : ∃ Z12, inoC (setE n Lb) u11 = Z12 := ⟨_, rfl⟩
            have HZ12 := Lib.hid hZ12
            rw [hZ12] at HS12 HC12 ⊢
            clear hZ12
            have hm24i : (m : Int) ≤ 24 := by have := HM24.out; omega
            go_wp2_with ((with_reducible show wpList _ _ _ (⟨_, .store 25 (.tmp 11) (.tmp 85), _, _, _, _⟩ :: _) _ _); refine wpList_store_any rfl 25 (.tmp 11) (.tmp 85) rfl _ rfl _ rfl _ HS12.out ?_)
            clear HS12
            obtain ⟨a9, c9, hv9, -, -, -⟩ := HV12.out.open
            obtain ⟨lb, hlbq⟩ : ∃ lb, Lb.length = lb := ⟨_, rfl⟩
            have HLBQ : Hid (lb + 1 = q) := by show _ = _; rw [← hlbq]; exact HLB.out
            rw [hlbq] at hv9
            subst hv9
            have HA3 : Hid (Z8[3]? = some (.int .i64 (q : Int)) ∧ Z8[17]? = some (.slice a7 q c7)) := by
              show _ ∧ _
              rw [← HZ8.out, ← HQL.out]
              exact ⟨(inoAt (n := setE n La) _ HBN.out).f3, (inoAt (n := setE n La) _ HBN.out).f5⟩
            have HB3 : Hid (Z10[3]? = some (.int .i64 (lb : Int)) ∧ Z10[17]? = some (.slice a9 lb c9)) := by
              show _ ∧ _
              rw [← HZ10.out, ← hlbq]
              exact ⟨(inoAt (n := setE n Lb) _ HBN.out).f3, (inoAt (n := setE n Lb) _ HBN.out).f5⟩
            clear hlbq
            have HSM : Hid (∀ wx, Keeps [] w12 wx → Calls Try.prog 11 #[.agg Z10, .agg Z12] wx fun e w' => e = .returned (.bool true) ∧ Keeps [] wx w') := fun wx hk => by
              have := refSame_at (setE n Lb) _ _ _ _ HBN.out wx (HV12.out.keep hk (by simp)) (HW12.out.keep hk (by simp))
              rwa [HZ10.out, HZ12.out] at this
            have HFN : Hid (∀ wx, Keeps [] w12 wx → Calls Try.prog 7 #[.slice a7 q c7, .string nm] wx fun e w' => e = .returned (.int .i64 xi) ∧ wx = w') := fun wx hk => by
              have := refFind_at nm (HU12.out.keep hk (by simp))
              rwa [HFA.out] at this
            have HFL : Hid (∀ wx, Keeps [] w12 wx → ∀ mm, Calls Try.prog 7 #[.slice a9 lb c9, .string mm] wx fun e w' => e = .returned (.int .i64 (findE Lb mm)) ∧ wx = w') := fun wx hk mm => refFind_at mm (HV12.out.keep hk (by simp))
            have HZA := Lib.hid (HLN.out)
            generalize w7.heap.size = ba at *
            generalize w9.heap.size = bb at *
            generalize w11.heap.size = bc at *
            have HL93 : Hid (∀ wx, Keeps [] w12 wx → (loadVar 3 ⟨ba, 3, none⟩).run Try.prog wx = .ok (.int .i64 (q : Int)) wx) := fun wx hk => load_num (off := 3) Try.underlying3 (HA12.out.keep hk (by simp)) HA3.out.1
            have HL98 : Hid (∀ wx, Keeps [] w12 wx → (loadVar 23 ⟨ba, 17, none⟩).run Try.prog wx = .ok (.slice a7 q c7) wx) := fun wx hk => load_sl (off := 17) Try.underlying23 (HA12.out.keep hk (by simp)) HA3.out.2
            have HL107 : Hid (∀ wx, Keeps [] w12 wx → (loadVar 9 ⟨w.heap.size + 1, 0, none⟩).run Try.prog wx = .ok (.string nm) wx) := fun wx hk => load_str (off := 0) Try.underlying9 (HB1.out.keep hk (by simp)) rfl
            have HL110 : Hid (∀ wx, Keeps [] w12 wx → (loadVar 3 ⟨w.heap.size + 1, 1, none⟩).run Try.prog wx = .ok (.int .i64 xi) wx) := fun wx hk => load_num (off := 1) Try.underlying3 (HB1.out.keep hk (by simp)) rfl
            have HL119 : Hid (∀ wx, Keeps [] w12 wx → (loadVar 25 ⟨bb, 0, none⟩).run Try.prog wx = .ok (.agg Z10) wx) := fun wx hk => by
              have h1 := HBB12.out.keep hk (by simp)
              rw [← HZ10.out] at h1 ⊢
              exact load_ino h1 HBN.out
            have HL120 : Hid (∀ wx, Keeps [] w12 wx → (loadVar 25 ⟨bc, 0, none⟩).run Try.prog wx = .ok (.agg Z12) wx) := fun wx hk => by
              have h1 := HC12.out.keep hk (by simp)
              rw [← HZ12.out] at h1 ⊢
              exact load_ino h1 HBN.out
            have HL126 : Hid (∀ wx, Keeps [] w12 wx → (loadVar 3 ⟨bb, 3, none⟩).run Try.prog wx = .ok (.int .i64 (lb : Int)) wx) := fun wx hk => load_num (off := 3) Try.underlying3 (HBB12.out.keep hk (by simp)) HB3.out.1
            have HQM := Lib.hid hqm
            have hq25 : q ≤ 25 := by have := HM24.out; omega
            have hwm : IntKind.i64.wrap ((m : Int) + 1) = (m : Int) + 1 := IntWalk.i64_in _ (by omega)
            have hwm4 : IntKind.i64.wrap (m : Int) = (m : Int) := IntWalk.i64_in _ (by omega)
            have hwm2 : IntKind.i64.wrap ((m : Int) + 1 - 1) = (m : Int) + 1 - 1 := IntWalk.i64_in _ (by omega)
            have hwm3 : IntKind.i64.wrap ((m : Int) - 1) = (m : Int) - 1 := IntWalk.i64_in _ (by omega)
            clear hqm
            refine wp_region_each (S := fun wx => Keeps [] w12 wx) (by kernel_rfl) (by kernel_rfl) (fun d _ _ _ _ h => by cases d <;> exact h) ((Keeps.refl _ _).drew) (by kernel_rfl) ?_
            repeat (first
              | (refine EachList.cons (.int .i64 (q : Int)) (EachIf.load rfl 3 (.tmp 92) rfl _ rfl fun wx hx => HL93.out wx hx) ?_; simp only [Act.put, List.setIfInBounds_toArray, List.set_cons_zero, List.set_cons_succ])
              | (refine EachList.cons (.slice a7 q c7) (EachIf.load rfl 23 (.tmp 97) rfl _ rfl fun wx hx => HL98.out wx hx) ?_; simp only [Act.put, List.setIfInBounds_toArray, List.set_cons_zero, List.set_cons_succ])
              | (refine EachList.cons (.slice a7 q c7) (EachIf.load rfl 23 (.tmp 104) rfl _ rfl fun wx hx => HL98.out wx hx) ?_; simp only [Act.put, List.setIfInBounds_toArray, List.set_cons_zero, List.set_cons_succ])
              | (refine EachList.cons (.string nm) (EachIf.load rfl 9 (.tmp 106) rfl _ rfl fun wx hx => HL107.out wx hx) ?_; simp only [Act.put, List.setIfInBounds_toArray, List.set_cons_zero, List.set_cons_succ])
              | (refine EachList.cons (.int .i64 xi) (EachIf.load rfl 3 (.tmp 109) rfl _ rfl fun wx hx => HL110.out wx hx) ?_; simp only [Act.put, List.setIfInBounds_toArray, List.set_cons_zero, List.set_cons_succ])
              | (refine EachList.cons (.agg Z10) (EachIf.load rfl 25 (.tmp 10) rfl _ rfl fun wx hx => HL119.out wx hx) ?_; simp only [Act.put, List.setIfInBounds_toArray, List.set_cons_zero, List.set_cons_succ])
              | (refine EachList.cons (.agg Z12) (EachIf.load rfl 25 (.tmp 11) rfl _ rfl fun wx hx => HL120.out wx hx) ?_; simp only [Act.put, List.setIfInBounds_toArray, List.set_cons_zero, List.set_cons_succ])
              | (refine EachList.cons (.int .i64 (lb : Int)) (EachIf.load rfl 3 (.tmp 125) rfl _ rfl fun wx hx => HL126.out wx hx) ?_; simp only [Act.put, List.setIfInBounds_toArray, List.set_cons_zero, List.set_cons_succ])
              | (refine EachList.cons (.int .i64 xi) (EachIf.call rfl 7 #[.slice a7 q c7, .string nm] ?he ?h) ?_; (case he => (intro wz; go_simp)); (case h => exact fun wx hx => (HFN.out wx hx).mono fun e w' he => ⟨he.1, he.2 ▸ hx⟩); simp only [Act.put, List.setIfInBounds_toArray, List.set_cons_zero, List.set_cons_succ])
              | (refine EachList.cons (.bool true) (EachIf.call rfl 11 #[.agg Z10, .agg Z12] ?he ?h) ?_; (case he => (intro wz; go_simp)); (case h => exact fun wx hx => (HSM.out wx hx).mono fun e w' he => ⟨he.1, hx.trans' he.2⟩); simp only [Act.put, List.setIfInBounds_toArray, List.set_cons_zero, List.set_cons_succ])
              | (refine EachList.cons undef (EachIf.off rfl) ?_; simp only [Act.put, List.setIfInBounds_toArray, List.set_cons_zero, List.set_cons_succ])
              | ((with_reducible show EachList _ _ _ _ (⟨_, _, 4, _, _, _⟩ :: _) _); refine EachList.cons (.bool false) (EachIf.val rfl ?h) ?_; (case h => (intro wx hx; clear hx; first | (go_simp; done) | (go_simp; have := HQM.out; have := HLBQ.out; omega))); simp only [Act.put, List.setIfInBounds_toArray, List.set_cons_zero, List.set_cons_succ])
              | (refine EachList.cons ?_ (EachIf.val rfl ?h) ?_; (case h => (intro wx hx; clear hx; go_simp; rfl)); simp only [Act.put, List.setIfInBounds_toArray, List.set_cons_zero, List.set_cons_succ]))
            refine EachList.done fun w13 hx => ?_
            have HK13 := Lib.hid hx
            have HEA : Hid (∀ k, k < q → g7 < w12.heap.size ∧ ∃ off, a7 = some ⟨g7, off, none⟩ ∧ w12.cell? ⟨g7, off + k * 2, none⟩ = some (.string (enm La k))) := fun k hk => by
              obtain ⟨a', cap', hv, -, -, h3⟩ := HU12.out
              injection hv with e1 e2 e3
              obtain ⟨h4, off, h5, h6⟩ := h3 (by omega)
              exact ⟨h4, off, by rw [e1]; exact h5, (h6 k (by omega)).1⟩
            have HEW : Hid (∀ k, k < m → g5 < w12.heap.size ∧ ∃ off, a5 = some ⟨g5, off, none⟩ ∧ w12.cell? ⟨g5, off + k * 2, none⟩ = some (.string (enm n.E k)) ∧ w12.cell? ⟨g5, off + k * 2 + 1, none⟩ = some (.int .i64 (eno n.E k))) := fun k hk => by
              obtain ⟨a', cap', hv, -, -, h3⟩ := HQ12.out
              injection hv with e1 e2 e3
              obtain ⟨h4, off, h5, h6⟩ := h3 (by omega)
              exact ⟨h4, off, by rw [e1]; exact h5, h6 k (by omega)⟩
            have HEN : Hid (∀ k, k < m → g < w12.heap.size ∧ ∃ off, a = some ⟨g, off, none⟩ ∧ w12.cell? ⟨g, off + k * 2, none⟩ = some (.string (enm n.E k)) ∧ w12.cell? ⟨g, off + k * 2 + 1, none⟩ = some (.int .i64 (eno n.E k))) := fun k hk => by
              obtain ⟨a', cap', hv, -, -, h3⟩ := HE.out.keep HK12.out (by simp)
              injection hv with e1 e2 e3
              obtain ⟨h4, off, h5, h6⟩ := h3 (by omega)
              exact ⟨h4, off, by rw [e1]; exact h5, h6 k (by omega)⟩
            have HC17 : Hid (∀ wx, Keeps [] w12 wx → (loadVar 23 ⟨w.heap.size, 17, none⟩).run Try.prog wx = .ok (.slice a m cap) wx) := fun wx hk => load_sl (off := 17) Try.underlying23 (HB0.out.keep hk (by simp)) HAT.out.f5
            have HB17 : Hid (∀ wx, Keeps [] w12 wx → (loadVar 23 ⟨bb, 17, none⟩).run Try.prog wx = .ok (.slice a9 lb c9) wx) := fun wx hk => load_sl (off := 17) Try.underlying23 (HBB12.out.keep hk (by simp)) HB3.out.2
            have HA17 : Hid (∀ wx, Keeps [] w12 wx → wx.cell? ⟨ba, 17, none⟩ = some (.slice a7 q c7)) := fun wx hk => by rw [(HA12.out.keep hk (by simp)).cell]; exact HA3.out.2
            have HRL : Hid (∀ p k, p < k → k < q → ltB (enm La p) (enm La k)) := fun p k h1 h2 => rises_lt HRA.out h1 (by rw [HQL.out]; exact h2)
            have HFO : Hid (∀ k, k < m → enm n.E k ≠ nm → findE Lb (enm n.E k) = eno n.E k) := fun k hk hne => by
              rw [HFB.out _ hne]
              exact rises_find (rises_dir HDP.out) (by rw [HME.out]; exact hk)
            have hq1 : 1 ≤ q := by have := HLBQ.out; omega
            clear hx HSM HFN HL93 HL119 HL120 HL126 hwm hwm2 hwm3 hwm4 HU12 HQ12 HW12 HA3 HB3 HQM HV12 HZA
            go_wp2_with fail
            go_loopg [13] (q - 1) (fun gh s13 wx => ∃ k : Nat, 1 ≤ k ∧ k + gh = q ∧ s13 = .int .i64 (k : Int) ∧ Hid (Keeps [] w12 wx))
            case atStart => exact ⟨1, by omega, by omega, rfl, HK13.out⟩
            case round =>
              clear HK13
              obtain ⟨k, hk1, hk, rfl, HP⟩ := hrel
              have c17a := HA17.out wr HP.out
              cases gk with
              | succ gg =>
                have hlt : (k : Int) < (q : Int) := by omega
                have hk0 : (0 : Int) ≤ (k : Int) := by omega
                obtain ⟨p, hp⟩ : ∃ p, k = p + 1 := ⟨k - 1, by omega⟩
                have hkp : (k : Int) - 1 = (p : Int) := by omega
                have hpq : (p : Int) < (q : Int) := by omega
                have hp0 : (0 : Int) ≤ (p : Int) := by omega
                have hwp : IntKind.i64.wrap (p : Int) = (p : Int) := IntWalk.i64_in _ (by omega)
                obtain ⟨hgg, off, rfl, d1⟩ := HEA.out k (by omega)
                obtain ⟨-, off', ho, d2⟩ := HEA.out p (by omega)
                cases ho
                have hlt2 := HRL.out p k (by omega) (by omega)
                have hle : (Op.bytesLess (enm La k).toList (enm La p).toList || ((enm La k).toList == (enm La p).toList)) = false := by
                  rw [Bool.or_eq_false_iff]
                  constructor
                  · cases hb : Op.bytesLess (enm La k).toList (enm La p).toList with
                    | false => rfl
                    | true => exact absurd (ltB_trans hlt2 hb) (ltB_irrefl _)
                  · rw [beq_eq_false_iff_ne]
                    exact fun e => ltB_ne hlt2 (bytes_ext e).symm
                have HS17 : Hid (∀ wx, Keeps [] wr wx → (loadVar 23 ⟨ba, 17, none⟩).run Try.prog wx = .ok (.slice (some ⟨g7, off, none⟩) q c7) wx) := fun wx hk => HL98.out wx (HP.out.trans' hk)
                have HNK : Hid (∀ wx, Keeps [] wr wx → (loadVar 9 ⟨g7, off + k * 2, none⟩).run Try.prog wx = .ok (.string (enm La k)) wx) := fun wx hk => load_strc Try.underlying9 ((World.cell?_of_block (w := w12) (a := ⟨g7, off + k * 2, none⟩) ((HP.out.trans' hk).block g7 hgg (by simp))).trans d1)
                have HNP : Hid (∀ wx, Keeps [] wr wx → (loadVar 9 ⟨g7, off + p * 2, none⟩).run Try.prog wx = .ok (.string (enm La p)) wx) := fun wx hk => load_strc Try.underlying9 ((World.cell?_of_block (w := w12) (a := ⟨g7, off + p * 2, none⟩) ((HP.out.trans' hk).block g7 hgg (by simp))).trans d2)
                clear d1 d2 hp hlt2 HEA HRL HL98
                generalize enm La k = nk at *
                generalize enm La p = np at *
                go_wp2_with fail
                refine wp_region_each (S := fun wx => Keeps [] wr wx) (by kernel_rfl) (by kernel_rfl) (fun d _ _ _ _ h => by cases d <;> exact h) ((Keeps.refl _ _).drew) (by kernel_rfl) ?_
                repeat (first
                  | (refine EachList.cons (.slice (some ⟨g7, off, none⟩) q c7) (EachIf.load rfl 23 (.tmp 138) rfl _ rfl fun wx hx => HS17.out wx hx) ?_; simp only [Act.put, List.setIfInBounds_toArray, List.set_cons_zero, List.set_cons_succ])
                  | (refine EachList.cons (.slice (some ⟨g7, off, none⟩) q c7) (EachIf.load rfl 23 (.tmp 144) rfl _ rfl fun wx hx => HS17.out wx hx) ?_; simp only [Act.put, List.setIfInBounds_toArray, List.set_cons_zero, List.set_cons_succ])
                  | (refine EachList.cons (.string nk) (EachIf.load rfl 9 (.tmp 142) rfl _ rfl fun wx hx => HNK.out wx hx) ?_; simp only [Act.put, List.setIfInBounds_toArray, List.set_cons_zero, List.set_cons_succ])
                  | (refine EachList.cons (.string np) (EachIf.load rfl 9 (.tmp 149) rfl _ rfl fun wx hx => HNP.out wx hx) ?_; simp only [Act.put, List.setIfInBounds_toArray, List.set_cons_zero, List.set_cons_succ])
                  | ((with_reducible show EachList _ _ _ _ (⟨some 147, _, _, _, _, _⟩ :: _) _); refine EachList.cons (.int .i64 (p : Int)) (EachIf.val rfl ?h) ?_; (case h => (intro wx hx; clear hx; go_simp; done)); simp only [Act.put, List.setIfInBounds_toArray, List.set_cons_zero, List.set_cons_succ])
                  | ((with_reducible show EachList _ _ _ _ (⟨_, _, 4, _, _, _⟩ :: _) _); refine EachList.cons (.bool false) (EachIf.val rfl ?h) ?_; (case h => (intro wx hx; clear hx; first | (go_simp; done) | (go_simp; simp [*]; done))); simp only [Act.put, List.setIfInBounds_toArray, List.set_cons_zero, List.set_cons_succ])
                  | (refine EachList.cons ?_ (EachIf.val rfl ?h) ?_; (case h => (intro wx hx; clear hx; go_simp; rfl)); simp only [Act.put, List.setIfInBounds_toArray, List.set_cons_zero, List.set_cons_succ]))
                refine EachList.done fun wx hx => ?_
                have HKX := Lib.hid (HP.out.trans' hx)
                clear hx
                go_wp2_with fail
                go_roundg gg
                case measure => omega
                case rel => exact ⟨k + 1, by omega, by omega, by go_num, HKX.out⟩
              | zero =>
                have hnlt : ¬ (k : Int) < (q : Int) := by omega
                clear HEA HRL HL98 HA17
                go_wp2_with fail
                clear c17a hnlt hk hk1
                go_loopg [14] m (fun gh s14 wx => ∃ i : Nat, i + gh = m ∧ s14 = .int .i64 (i : Int) ∧ Hid (Keeps [] w12 wx))
                case atStart => exact ⟨0, by omega, rfl, HP.out⟩
                case round =>
                  clear HP
                  obtain ⟨i, hi, rfl, HP⟩ := hrel
                  cases gk with
                  | zero =>
                    obtain rfl : i = m := by omega
                    have HKF := Lib.hid (HK12.out.trans' HP.out)
                    clear HP
                    go_wp2_with fail
                    go_ret
                    exact ⟨rfl, HKF.out⟩
                  | succ gg =>
                    have hlt : (i : Int) < (m : Int) := by omega
                    have hi0 : (0 : Int) ≤ (i : Int) := by omega
                    obtain ⟨hgg5, off5, rfl, d1, d2⟩ := HEW.out i (by omega)
                    obtain ⟨hggn, offn, rfl, d3, d4⟩ := HEN.out i (by omega)
                    have hcc : ∀ wx, Keeps [] wr wx → ∀ g off, g < w12.heap.size → wx.cell? ⟨g, off, none⟩ = w12.cell? ⟨g, off, none⟩ := fun wx hk' g off hg => World.cell?_of_block ((HP.out.trans' hk').block g hg (by simp))
                    have HS17 : Hid (∀ wx, Keeps [] wr wx → (loadVar 23 ⟨w.heap.size, 17, none⟩).run Try.prog wx = .ok (.slice (some ⟨g, offn, none⟩) m cap) wx) := fun wx hk => HC17.out wx (HP.out.trans' hk)
                    have HT17 : Hid (∀ wx, Keeps [] wr wx → (loadVar 23 ⟨bb, 17, none⟩).run Try.prog wx = .ok (.slice a9 lb c9) wx) := fun wx hk => HB17.out wx (HP.out.trans' hk)
                    have HEI : Hid (∀ wx, Keeps [] wr wx → (loadVar 27 ⟨g, offn + i * 2, none⟩).run Try.prog wx = .ok (.agg #[.string (enm n.E i), .int .i64 (eno n.E i)]) wx) := fun wx hk => load_entry ((hcc wx hk _ _ hggn).trans d3) ((hcc wx hk _ _ hggn).trans d4)
                    have HWI : Hid (∀ wx, Keeps [] wr wx → (loadVar 27 ⟨g5, off5 + i * 2, none⟩).run Try.prog wx = .ok (.agg #[.string (enm n.E i), .int .i64 (eno n.E i)]) wx) := fun wx hk => load_entry ((hcc wx hk _ _ hgg5).trans d1) ((hcc wx hk _ _ hgg5).trans d2)
                    have HWS : Hid (∀ wx, Keeps [] wr wx → (loadVar 9 ⟨g5, off5 + i * 2, none⟩).run Try.prog wx = .ok (.string (enm n.E i)) wx) := fun wx hk => load_strc Try.underlying9 ((hcc wx hk _ _ hgg5).trans d1)
                    have HWN : Hid (∀ wx, Keeps [] wr wx → (loadVar 3 ⟨g5, off5 + i * 2 + 1, none⟩).run Try.prog wx = .ok (.int .i64 (eno n.E i)) wx) := fun wx hk => load_numc Try.underlying3 ((hcc wx hk _ _ hgg5).trans d2)
                    have HXN : Hid (∀ wx, Keeps [] wr wx → (loadVar 9 ⟨w.heap.size + 1, 0, none⟩).run Try.prog wx = .ok (.string nm) wx) := fun wx hk => HL107.out wx (HP.out.trans' hk)
                    have hes := eq_entry (enm n.E i) (eno n.E i)
                    have hge := guard_entry
                    by_cases hne : enm n.E i = nm
                    · have hb : ((enm n.E i).toList == nm.toList) = true := by rw [hne]; simp
                      clear d1 d2 d3 d4 hcc HEW HEN HC17 HB17 hne HFO
                      generalize enm n.E i = nk at *
                      generalize eno n.E i = ik at *
                      go_wp2_with fail
                      refine wp_region_each (S := fun wx => Keeps [] wr wx) (by kernel_rfl) (by kernel_rfl) (fun d _ _ _ _ h => by cases d <;> exact h) ((Keeps.refl _ _).drew) (by kernel_rfl) ?_
                      repeat (first
                        | (refine EachList.cons (.slice (some ⟨g, offn, none⟩) m cap) (EachIf.load rfl 23 (.tmp 158) rfl _ rfl fun wx hx => HS17.out wx hx) ?_; simp only [Act.put, List.setIfInBounds_toArray, List.set_cons_zero, List.set_cons_succ])
                        | (refine EachList.cons (.agg #[.string nk, .int .i64 ik]) (EachIf.load rfl 27 (.tmp 161) rfl _ rfl fun wx hx => HEI.out wx hx) ?_; simp only [Act.put, List.setIfInBounds_toArray, List.set_cons_zero, List.set_cons_succ])
                        | (refine EachList.cons (.agg #[.string nk, .int .i64 ik]) (EachIf.load rfl 27 (.tmp 165) rfl _ rfl fun wx hx => HWI.out wx hx) ?_; simp only [Act.put, List.setIfInBounds_toArray, List.set_cons_zero, List.set_cons_succ])
                        | (refine EachList.cons (.string nk) (EachIf.load rfl 9 (.tmp 172) rfl _ rfl fun wx hx => HWS.out wx hx) ?_; simp only [Act.put, List.setIfInBounds_toArray, List.set_cons_zero, List.set_cons_succ])
                        | (refine EachList.cons (.string nm) (EachIf.load rfl 9 (.tmp 174) rfl _ rfl fun wx hx => HXN.out wx hx) ?_; simp only [Act.put, List.setIfInBounds_toArray, List.set_cons_zero, List.set_cons_succ])
                        | (refine EachList.cons undef (EachIf.off rfl) ?_; simp only [Act.put, List.setIfInBounds_toArray, List.set_cons_zero, List.set_cons_succ])
                        | ((with_reducible show EachList _ _ _ _ (⟨_, _, 4, _, _, _⟩ :: _) _); refine EachList.cons (.bool false) (EachIf.val rfl ?h) ?_; (case h => (intro wx hx; clear hx; first | (go_simp; done) | (go_simp; simp [*]; done))); simp only [Act.put, List.setIfInBounds_toArray, List.set_cons_zero, List.set_cons_succ])
                        | (refine EachList.cons ?_ (EachIf.val rfl ?h) ?_; (case h => (intro wx hx; clear hx; go_simp; rfl)); simp only [Act.put, List.setIfInBounds_toArray, List.set_cons_zero, List.set_cons_succ]))
                      refine EachList.done fun wx hx => ?_
                      have HKX := Lib.hid (HP.out.trans' hx)
                      clear hx
                      go_wp2_with fail
                      go_roundg gg
                      case measure => omega
                      case rel => exact ⟨i + 1, by omega, by go_num, HKX.out⟩
                    · have hb : ((enm n.E i).toList == nm.toList) = false := by
                        rw [beq_eq_false_iff_ne]
                        exact fun e => hne (bytes_ext e)
                      have HFX : Hid (∀ wx, Keeps [] wr wx → Calls Try.prog 7 #[.slice a9 lb c9, .string (enm n.E i)] wx fun e w' => e = .returned (.int .i64 (eno n.E i)) ∧ wx = w') := fun wx hk => by
                        have := HFL.out wx (HP.out.trans' hk) (enm n.E i)
                        rwa [HFO.out i (by omega) hne] at this
                      clear d1 d2 d3 d4 hcc HEW HEN HC17 HB17 hne HFO HFL
                      generalize enm n.E i = nk at *
                      generalize eno n.E i = ik at *
                      go_wp2_with fail
                      refine wp_region_each (S := fun wx => Keeps [] wr wx) (by kernel_rfl) (by kernel_rfl) (fun d _ _ _ _ h => by cases d <;> exact h) ((Keeps.refl _ _).drew) (by kernel_rfl) ?_
                      repeat (first
                        | (refine EachList.cons (.slice (some ⟨g, offn, none⟩) m cap) (EachIf.load rfl 23 (.tmp 158) rfl _ rfl fun wx hx => HS17.out wx hx) ?_; simp only [Act.put, List.setIfInBounds_toArray, List.set_cons_zero, List.set_cons_succ])
                        | (refine EachList.cons (.agg #[.string nk, .int .i64 ik]) (EachIf.load rfl 27 (.tmp 161) rfl _ rfl fun wx hx => HEI.out wx hx) ?_; simp only [Act.put, List.setIfInBounds_toArray, List.set_cons_zero, List.set_cons_succ])
                        | (refine EachList.cons (.agg #[.string nk, .int .i64 ik]) (EachIf.load rfl 27 (.tmp 165) rfl _ rfl fun wx hx => HWI.out wx hx) ?_; simp only [Act.put, List.setIfInBounds_toArray, List.set_cons_zero, List.set_cons_succ])
                        | (refine EachList.cons (.string nk) (EachIf.load rfl 9 (.tmp 172) rfl _ rfl fun wx hx => HWS.out wx hx) ?_; simp only [Act.put, List.setIfInBounds_toArray, List.set_cons_zero, List.set_cons_succ])
                        | (refine EachList.cons (.string nm) (EachIf.load rfl 9 (.tmp 174) rfl _ rfl fun wx hx => HXN.out wx hx) ?_; simp only [Act.put, List.setIfInBounds_toArray, List.set_cons_zero, List.set_cons_succ])
                        | (refine EachList.cons (.slice a9 lb c9) (EachIf.load rfl 23 (.tmp 178) rfl _ rfl fun wx hx => HT17.out wx hx) ?_; simp only [Act.put, List.setIfInBounds_toArray, List.set_cons_zero, List.set_cons_succ])
                        | (refine EachList.cons (.string nk) (EachIf.load rfl 9 (.tmp 183) rfl _ rfl fun wx hx => HWS.out wx hx) ?_; simp only [Act.put, List.setIfInBounds_toArray, List.set_cons_zero, List.set_cons_succ])
                        | (refine EachList.cons (.int .i64 ik) (EachIf.load rfl 3 (.tmp 189) rfl _ rfl fun wx hx => HWN.out wx hx) ?_; simp only [Act.put, List.setIfInBounds_toArray, List.set_cons_zero, List.set_cons_succ])
                        | (refine EachList.cons (.int .i64 ik) (EachIf.call rfl 7 #[.slice a9 lb c9, .string nk] ?he ?h) ?_; (case he => (intro wz; go_simp)); (case h => exact fun wx hx => (HFX.out wx hx).mono fun e w' he => ⟨he.1, he.2 ▸ hx⟩); simp only [Act.put, List.setIfInBounds_toArray, List.set_cons_zero, List.set_cons_succ])
                        | ((with_reducible show EachList _ _ _ _ (⟨_, _, 4, _, _, _⟩ :: _) _); refine EachList.cons (.bool false) (EachIf.val rfl ?h) ?_; (case h => (intro wx hx; clear hx; first | (go_simp; done) | (go_simp; simp [*]; done))); simp only [Act.put, List.setIfInBounds_toArray, List.set_cons_zero, List.set_cons_succ])
                        | ((with_reducible show EachList _ _ _ _ (⟨_, _, 4, _, _, _⟩ :: _) _); refine EachList.cons (.bool true) (EachIf.val rfl ?h) ?_; (case h => (intro wx hx; clear hx; first | (go_simp; done) | (go_simp; simp [*]; done))); simp only [Act.put, List.setIfInBounds_toArray, List.set_cons_zero, List.set_cons_succ])
                        | (refine EachList.cons ?_ (EachIf.val rfl ?h) ?_; (case h => (intro wx hx; clear hx; go_simp; rfl)); simp only [Act.put, List.setIfInBounds_toArray, List.set_cons_zero, List.set_cons_succ]))
                      refine EachList.done fun wx hx => ?_
                      have HKX := Lib.hid (HP.out.trans' hx)
                      clear hx
                      go_wp2_with fail
                      go_roundg gg
                      case measure => omega
                      case rel => exact ⟨i + 1, by omega, by go_num, HKX.out⟩
        · have e2 : (n.K != 2) = true := bne_iff_ne.2 hK
          clear hK
          generalize n.K = nk at *
          go_wp2_with fail
          refine (HAW.out _).mono ?_; rintro e w4 ⟨rfl, hk4⟩
          have HK4 := Lib.hid (HK3.out.trans' hk4)
          clear hk4
          go_wp2_with fail
          go_ret
          exact ⟨rfl, HK4.out⟩
      · have hRd : decide (RightP n) = false := decide_eq_false hR
        rw [hRd]
        clear hR hRd
        go_wp2_with fail
        refine (HAW.out _).mono ?_; rintro e w4 ⟨rfl, hk4⟩
        have HK4 := Lib.hid (HK3.out.trans' hk4)
        clear hk4
        go_wp2_with fail
        go_ret
        exact ⟨rfl, HK4.out⟩

end Go.Proofs.Ytlfkodlnhfdgjaa

namespace Go.Proofs.Ytlfkodlnhfdgjaa
open Go.ChangeShapes Go.WideShapes Go.ChangeAt Go.RowKit

section
variable {H : Type} {enc : TypeId × Value → H} {W : World} {base : Nat} {spare : Nat → Bool} {held : Bool}

/-- The number in a cell. -/
def intV : Option Value → Int
  | some (.int _ z) => z
  | _ => 0

set_option maxRecDepth 100000 in
theorem open_n13 {fuel : Nat} {cs : List Value} {x : DataW H × List MemPlace} (h : DataW.trod enc Try.prog W base spare held fuel 22 cs = some x) : ∃ l : List Int, cs = zs l ∧ l.length = 13 := by
  obtain ⟨xs, m, -, -, hl, hlen, hf⟩ := DataW.trod_array Try.underlying22 h
  rw [show Try.prog.cellsOf 22 = 13 by kernel_rfl] at hl
  have hone : ∀ i, i < 13 → ∃ z : Int, cs[i]? = some (.int .i64 z) := fun i hi => by
    have h1 := hf i hi
    rw [show Try.prog.cellsOf 3 = 1 by kernel_rfl, Nat.mul_one, List.getElem?_eq_getElem (by omega : i < xs.length)] at h1
    obtain ⟨z, e, -, -⟩ := DataW.trod_int Try.underlying3 h1
    refine ⟨z, ?_⟩
    have h2 := congrArg (fun l => l[0]?) e
    simpa using h2
  refine ⟨(List.range 13).map fun i => intV cs[i]?, ?_, by simp⟩
  apply List.ext_getElem?
  intro i
  by_cases hi : i < 13
  · obtain ⟨z, hz⟩ := hone i hi
    have h2 : (zs ((List.range 13).map fun i => intV cs[i]?))[i]? = some (.int .i64 (intV cs[i]?)) := by simp [zs, hi]
    rw [h2, hz]
    rfl
  · rw [List.getElem?_eq_none (by omega), List.getElem?_eq_none (by simp [zs]; omega)]


end

end Go.Proofs.Ytlfkodlnhfdgjaa

namespace Go.Proofs.Ytlfkodlnhfdgjaa
open Go.ChangeShapes Go.WideShapes Go.ChangeAt Go.RowKit

section
variable {H : Type} {enc : TypeId × Value → H} {W : World} {base : Nat} {spare : Nat → Bool} {held : Bool}

set_option maxRecDepth 100000 in
theorem open_entry {fuel : Nat} {cs : List Value} {x : DataW H × List MemPlace} (h : DataW.trod enc Try.prog W base spare held fuel 27 cs = some x) :
    ∃ (s : ByteArray) (y : Int), cs = [.string s, .int .i64 y] := by
  obtain ⟨xs, n, -, -, hl, hlen, hf⟩ := DataW.trod_struct Try.underlying27 h
  rw [show Try.prog.cellsOf 27 = 2 by kernel_rfl] at hl
  match cs, hl with
  | [c0, c1], _ =>
    have f0 : DataW.trod enc Try.prog W base spare held n 9 (([c0, c1].drop 0).take (Try.prog.cellsOf 9)) = xs[0]? := hf 0 _ rfl
    have f1 : DataW.trod enc Try.prog W base spare held n 3 (([c0, c1].drop 1).take (Try.prog.cellsOf 3)) = xs[1]? := hf 1 _ rfl
    simp only [show Try.prog.cellsOf 9 = 1 by kernel_rfl, show Try.prog.cellsOf 3 = 1 by kernel_rfl, List.drop_zero, List.drop_succ_cons, List.take_succ_cons, List.take_zero] at f0 f1
    match xs, hlen with
    | [y0, y1], _ =>
      simp only [List.getElem?_cons_zero, List.getElem?_cons_succ] at f0 f1
      obtain ⟨s, e0, -⟩ := DataW.trod_string Try.underlying9 f0
      obtain ⟨n1, e1, -, w1⟩ := DataW.trod_int Try.underlying3 f1
      simp only [List.cons.injEq, and_true] at e0 e1
      subst e0 e1
      exact ⟨s, n1, rfl⟩

set_option maxRecDepth 100000 in
theorem open_ents {fuel : Nat} {cs : List Value} {x : DataW H × List MemPlace} (h : DataW.trod enc Try.prog W base spare held fuel 23 cs = some x) :
    ∃ v g E, cs = [v] ∧ EReads W v g E := by
  obtain ⟨a, len, cap, rfl, h1, h2, h3⟩ := open_rows (sz := 2) Try.underlying23 (by kernel_rfl) (by omega) h
  by_cases h0 : len = 0
  · subst h0
    exact ⟨_, 0, [], rfl, ⟨a, cap, rfl, by simp, h2, fun h => absurd rfl h⟩⟩
  · obtain ⟨g, off, rfl, hg, hx⟩ := h3 h0
    have hex : ∀ i, i < len → ∃ p : ByteArray × Int, W.cell? ⟨g, off + i * 2, none⟩ = some (.string p.1) ∧ W.cell? ⟨g, off + i * 2 + 1, none⟩ = some (.int .i64 p.2) := fun i hi => by
      obtain ⟨cs', y, n, hl, hc, ht⟩ := hx i hi
      obtain ⟨q, z, rfl⟩ := open_entry ht
      exact ⟨(q, z), hc 0 (by omega), hc 1 (by omega)⟩
    obtain ⟨f, hf⟩ : ∃ f : Nat → ByteArray × Int, ∀ i, i < len → W.cell? ⟨g, off + i * 2, none⟩ = some (.string (f i).1) ∧ W.cell? ⟨g, off + i * 2 + 1, none⟩ = some (.int .i64 (f i).2) :=
      ⟨fun i => if h : i < len then Classical.choose (hex i h) else (ByteArray.empty, 0), fun i hi => by simp only [dif_pos hi]; exact Classical.choose_spec (hex i hi)⟩
    refine ⟨_, g, (List.range len).map f, rfl, ⟨_, cap, by simp, by simpa using h1, h2, fun _ => ⟨hg, off, rfl, fun j hj => ?_⟩⟩⟩
    have hj' : j < len := by simpa using hj
    have e1 : enm ((List.range len).map f) j = (f j).1 := by simp [enm, List.getD_eq_getElem?_getD, hj']
    have e2 : eno ((List.range len).map f) j = (f j).2 := by simp [eno, List.getD_eq_getElem?_getD, hj']
    rw [e1, e2]
    exact hf j hj'

set_option maxRecDepth 100000 in
theorem open_ino {b0 : Nat} {v : Value} {d : DataW H} {p : List MemPlace} (hval : Value.okWide Try.prog W .any b0 25 v)
    (h : DataW.Trod enc Try.prog W base spare held 25 v d p) : ∃ (n : Ino) (u : Value) (g : Nat), v = .agg (inoC n u) ∧ n.B.length = 13 ∧ EReads W u g n.E := by
  obtain ⟨cs, rfl, hsz, _⟩ : ∃ cs, v = .agg cs ∧ cs.size = Try.prog.cellsOf 25 ∧ Row.okWide Try.prog W .any b0 25 cs := by
    simpa [Value.okWide, Try.underlying25] using hval
  rw [show Try.prog.cellsOf 25 = 18 by kernel_rfl] at hsz
  obtain ⟨l⟩ := cs
  obtain ⟨fuel, hf⟩ := h
  obtain ⟨xs, n, -, -, hl, hlen, hf⟩ := DataW.trod_struct Try.underlying25 hf
  have hlen6 : xs.length = 6 := hlen
  have ci : Try.prog.cellsOf 3 = 1 := by kernel_rfl
  have one : ∀ (k : Nat) (hk : k < l.length) (y : DataW H × List MemPlace), DataW.trod enc Try.prog W base spare held n 3 ((l.drop k).take (Try.prog.cellsOf 3)) = some y → ∃ z : Int, l[k]? = some (.int .i64 z) := fun k hk y hy => by
    rw [ci] at hy
    obtain ⟨z, e, -, -⟩ := DataW.trod_int Try.underlying3 hy
    refine ⟨z, ?_⟩
    have h2 := congrArg (fun l => l[0]?) e
    simpa using h2
  have hsz' : l.length = 18 := hsz
  have hsome : ∀ i, i < 6 → ∃ y, xs[i]? = some y := fun i hi => ⟨xs[i], List.getElem?_eq_getElem (by omega)⟩
  obtain ⟨y0, e0⟩ := hsome 0 (by omega)
  obtain ⟨y1, e1⟩ := hsome 1 (by omega)
  obtain ⟨y2, e2⟩ := hsome 2 (by omega)
  obtain ⟨y3, e3⟩ := hsome 3 (by omega)
  obtain ⟨y4, e4⟩ := hsome 4 (by omega)
  obtain ⟨y5, e5⟩ := hsome 5 (by omega)
  have f0 : DataW.trod enc Try.prog W base spare held n 3 ((l.drop 0).take (Try.prog.cellsOf 3)) = xs[0]? := hf 0 _ rfl
  have f1 : DataW.trod enc Try.prog W base spare held n 3 ((l.drop 1).take (Try.prog.cellsOf 3)) = xs[1]? := hf 1 _ rfl
  have f2 : DataW.trod enc Try.prog W base spare held n 3 ((l.drop 2).take (Try.prog.cellsOf 3)) = xs[2]? := hf 2 _ rfl
  have f3 : DataW.trod enc Try.prog W base spare held n 3 ((l.drop 3).take (Try.prog.cellsOf 3)) = xs[3]? := hf 3 _ rfl
  have f4 : DataW.trod enc Try.prog W base spare held n 22 ((l.drop 4).take (Try.prog.cellsOf 22)) = xs[4]? := hf 4 _ rfl
  have f5 : DataW.trod enc Try.prog W base spare held n 23 ((l.drop 17).take (Try.prog.cellsOf 23)) = xs[5]? := hf 5 _ rfl
  rw [e0] at f0
  rw [e1] at f1
  rw [e2] at f2
  rw [e3] at f3
  rw [e4] at f4
  rw [e5] at f5
  obtain ⟨z0, g0⟩ := one 0 (by omega) _ f0
  obtain ⟨z1, g1⟩ := one 1 (by omega) _ f1
  obtain ⟨z2, g2⟩ := one 2 (by omega) _ f2
  obtain ⟨z3, g3⟩ := one 3 (by omega) _ f3
  obtain ⟨B, eB, hB⟩ := open_n13 f4
  obtain ⟨u, g, E, eE, hE⟩ := open_ents f5
  rw [show Try.prog.cellsOf 22 = 13 by kernel_rfl] at eB
  rw [show Try.prog.cellsOf 23 = 1 by kernel_rfl] at eE
  refine ⟨⟨z0, z1, z2, z3, B, E⟩, u, g, ?_, hB, hE⟩
  have hl4 : l = (l.take 4) ++ ((l.drop 4).take 13 ++ (l.drop 17).take 1) := by
    have h1 : (l.drop 4).take 13 ++ (l.drop 17).take 1 = l.drop 4 := by
      rw [List.take_of_length_le (l := l.drop 17) (by rw [List.length_drop]; omega)]
      have := List.take_append_drop 13 (l.drop 4)
      rwa [List.drop_drop] at this
    rw [h1, List.take_append_drop]
  have ht4 : l.take 4 = [.int .i64 z0, .int .i64 z1, .int .i64 z2, .int .i64 z3] := by
    apply List.ext_getElem?
    intro i
    rcases (show i = 0 ∨ i = 1 ∨ i = 2 ∨ i = 3 ∨ 4 ≤ i by omega) with rfl | rfl | rfl | rfl | hi
    · rw [List.getElem?_take, if_pos (by omega), g0]; rfl
    · rw [List.getElem?_take, if_pos (by omega), g1]; rfl
    · rw [List.getElem?_take, if_pos (by omega), g2]; rfl
    · rw [List.getElem?_take, if_pos (by omega), g3]; rfl
    · rw [List.getElem?_eq_none (by rw [List.length_take]; omega), List.getElem?_eq_none (by simpa using hi)]
  rw [hl4, ht4, eB, eE]
  rfl

end

end Go.Proofs.Ytlfkodlnhfdgjaa
