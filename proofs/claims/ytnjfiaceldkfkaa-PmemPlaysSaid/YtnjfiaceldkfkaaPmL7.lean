/-
  Layer 1: the law PmemPlays, walked.
-/
import Derived.Test.YtnjfiaceldkfkaaPmL6
namespace Go.Proofs.Ytnjfiaceldkfkaa
open Go.RowKit

theorem PmAt.norm {w : World} {b gn gl gf : Nat} {s : PmS} (h : PmAt w b gn gl gf s) {B : Nat} (hB : B ≤ b ∧ B ≤ gn ∧ B ≤ gl ∧ B ≤ gf) :
    ∃ gn' gl' gf', PmAt w b gn' gl' gf' s ∧ ∀ x, x ∈ [b, gn', gl', gf'] → B ≤ x ∧ x < w.heap.size := by
  obtain ⟨vn, vl, vf, a, c, d, e⟩ := h.at_
  by_cases h0 : s.now.length = 0
  · refine ⟨b, b, b, ⟨h.n9, h.ll, h.fll, fun hh => absurd h0 hh, vn, vl, vf, a, c.anyG h0 _, d.anyG h0 _, e.anyG (by omega) _⟩, ?_⟩
    intro x hx
    have := a.lt
    simp only [List.mem_cons, List.not_mem_nil, or_false] at hx
    omega
  · refine ⟨gn, gl, gf, h, ?_⟩
    intro x hx
    have := a.lt
    have := (c.cell h0).1
    have := (d.cell h0).1
    have := (e.cell (by omega)).1
    simp only [List.mem_cons, List.not_mem_nil, or_false] at hx
    omega

theorem RefAt.norm {w : World} {b gn gl gf : Nat} {s : RefS} (h : RefAt w b gn gl gf s) {B : Nat} (hB : B ≤ b ∧ B ≤ gn ∧ B ≤ gl ∧ B ≤ gf) :
    ∃ gn' gl' gf', RefAt w b gn' gl' gf' s ∧ ∀ x, x ∈ [b, gn', gl', gf'] → B ≤ x ∧ x < w.heap.size := by
  obtain ⟨vn, vl, vf, a, c, d, e⟩ := h.at_
  by_cases h0 : s.now.length = 0
  · refine ⟨b, b, b, ⟨h.n9, h.ll, h.fll, fun hh => absurd h0 hh, vn, vl, vf, a, c.anyG h0 _, d.anyG h0 _, e.anyG h0 _⟩, ?_⟩
    intro x hx
    have := a.lt
    simp only [List.mem_cons, List.not_mem_nil, or_false] at hx
    omega
  · refine ⟨gn, gl, gf, h, ?_⟩
    intro x hx
    have := a.lt
    have := (c.cell h0).1
    have := (d.cell h0).1
    have := (e.cell h0).1
    simp only [List.mem_cons, List.not_mem_nil, or_false] at hx
    omega

theorem quiet_left {P : Program} {f : FuncId} {args : Array Value} {w : World} {n : Nat} {v : Value}
    (h : Calls P f args (w.drewN n) fun e w' => e = .returned v ∧ w.drewN n = w') : Calls P f args (w.drewN n) fun e w'' => e = .returned v ∧ ∃ m, w'' = w.drewN m :=
  h.mono fun _ _ ⟨he, hm⟩ => ⟨he, n, hm.symm⟩

theorem crashM_nil : ∀ (l m : List Int) (k : Nat), l.length = m.length → crashM [] l m k = m
  | [], m, k, h => by cases m <;> simp_all [crashM]
  | a :: l, [], k, h => by simp at h
  | a :: l, b :: m, k, h => by
    simp only [crashM]
    split
    · rename_i e; rw [e, crashM_nil l m k (by simpa using h)]
    · rw [crashM_nil l m (k + 1) (by simpa using h)]; simp [keptB]

theorem Rel.fresh (xs : List Int) : Rel (PmS.fresh xs) (RefS.fresh xs) := by
  refine ⟨rfl, rfl, ?_, rfl, rfl, by simp [PmS.fresh], by simp [PmS.fresh]⟩
  show List.replicate xs.length false = (List.replicate ((xs.length + 7) / 8 * 8) false).take xs.length
  rw [List.take_replicate, Nat.min_eq_left (by omega)]

set_option maxRecDepth 100000 in
set_option maxHeartbeats 8000000 in
theorem plays_at {w : World} {vw vl : Value} {gW : Nat} {xs : List Int} {l : List OpR} (hw : Reads w vw gW (u64s xs)) (hl : OpsAt w vl l) :
    Calls Try.prog 4 #[vw, vl] w fun e w' => e = .returned (.bool true) ∧ Below w.heap.size w w' := by
  have HW := Lib.hid hw
  have HL := Lib.hid hl
  obtain ⟨av, cv, rfl, hm⟩ := hl.val
  obtain ⟨aw, cw, rfl, hwm⟩ := hw.val
  rw [u64s_len] at hwm HW ⊢
  unfold maxLen at hm hwm
  clear hl hw
  go_enter Try.func4, Try.ntmps4
  go_wp2_with fail
  refine (awake_at w).mono ?_
  rintro e w1 ⟨rfl, hk1⟩
  have HK1 := Lib.hid hk1
  clear hk1
  by_cases hlen : xs.length ≤ 100
  · have hd : decide ((100 : Int) < (xs.length : Int)) = false := by simp; omega
    go_wp2_with fail
    refine (few_at (HL.out.keep (HK1.out.below (Nat.le_refl _) (by simp))) 150 (by omega)).mono ?_
    rintro e w' ⟨rfl, rfl⟩
    cases hfew : fewB l 150
    · go_wp2_with fail
      refine (awake_at w1).mono ?_
      rintro e w2 ⟨rfl, hk2⟩
      have HK2 := Lib.hid (HK1.out.trans hk2 (by simp))
      clear hk2
      go_wp2_with fail
      go_ret
      exact ⟨rfl, HK2.out.below (Nat.le_refl _) (by simp)⟩
    · obtain ⟨f1, f2⟩ := fewB_true hfew (by omega)
      clear f2 hfew
      have HOF := Lib.hid (of_at (HW.out.keep HK1.out (by simp)) (by omega))
      go_wp2_with fail
      refine HOF.out.mono ?_
      rintro e w2 ⟨b, gn0, gl0, gf0, rfl, hp0, hlo0, hk2⟩
      obtain ⟨gn, gl, gf, hp, hlo⟩ := PmAt.norm hp0 hlo0
      have HP : Hid (PmAt w2 b gn gl gf (PmS.fresh xs)) := hp
      have HLO := Lib.hid hlo
      have HK2 := Lib.hid (HK1.out.trans hk2 (by simp))
      have HS1 := Lib.hid HK1.out.size
      clear hp0 hlo0 hp hlo hk2 HOF
      have HRN := Lib.hid (refNew_at (HW.out.keep HK2.out (by simp)) (by omega))
      go_wp2_with fail
      refine HRN.out.mono ?_
      rintro e w3 ⟨c, hn0, hl0, hf0, rfl, hr0, hlo0, hk3⟩
      obtain ⟨hn, hl, hf, hr, hlo2⟩ := RefAt.norm hr0 hlo0
      have HI : Hid (PInv w w3 b gn gl gf c hn hl hf (PmS.fresh xs) (RefS.fresh xs) xs.length 0) := by
        have z1 := HK2.out.size
        have z0 := HS1.out
        have z3 := hk3.size
        refine ⟨HP.out.keep hk3 (by simp) (by simp), hr, Rel.fresh xs, rfl, by simp [PmS.fresh], fun x hx => ?_, fun x hx => ?_, fun x hx hx2 => ?_, HK2.out.trans hk3 (by simp), fun x hx => ?_, fun x hx => ?_⟩
        · have := HLO.out x hx; omega
        · have := hlo2 x hx; omega
        · have := HLO.out x hx
          have := hlo2 x hx2
          omega
        · have := HLO.out x hx; omega
        · have := hlo2 x hx; omega
      clear hr hlo2 hk3 hr0 hlo0 HRN HP HLO HK2 HS1 HK1
      generalize PmS.fresh xs = s0 at *
      generalize RefS.fresh xs = r0 at *
      go_wp2_with fail
      go_loopg [7] l.length (fun g s7 wx => ∃ (j : Nat) (s : PmS) (r : RefS), j + g = l.length ∧ s7 = .int .i64 (j : Int) ∧ Hid (PInv w wx b gn gl gf c hn hl hf s r xs.length j))
      case atStart => exact ⟨0, s0, r0, by omega, rfl, HI.out⟩
      case round =>
        obtain ⟨j, s, r, hjg, rfl, HE⟩ := hrel
        clear HI
        cases gk with
        | zero =>
          have hj : ¬ (j : Int) < (l.length : Int) := by omega
          have HCR : Hid (Calls Try.prog 13 #[.pointer (some ⟨b, 0, none⟩), .slice none 0 0] wr fun e w' => e = .returned (.tuple #[]) ∧ PmAt w' b gn gl gf (s.crash []) ∧ Keeps [b, gn, gl, gf] wr w') :=
            crash_at' (ks := []) (g := 0) HE.out.pm ⟨none, 0, rfl, by simp [u8s], by simp [maxLen], fun h => absurd rfl h⟩ (by intro q; simp) (fun h => absurd rfl h)
          go_wp2_with fail
          refine HCR.out.mono ?_
          rintro e w4 ⟨rfl, hp4, hk4⟩
          have HP4 := Lib.hid hp4
          have HK4 : Hid (Keeps [] w w4) := HE.out.kept.trans hk4 (fun x hx => .inr (HE.out.lo1 x hx))
          have hr4 := HE.out.ref.keepPm hk4 HE.out.apart
          have hrl : r.now.length = xs.length := by rw [HE.out.rel.now]; exact HE.out.len
          obtain ⟨an, cn, al, cl, af, cf, -, c1, -, -, -, -, hc⟩ := hr4.cells
          rw [hrl] at c1 hc
          have HC := Lib.hid hc
          have HML : Hid ((s.crash []).now = s.last) := crashM_nil _ _ _ HE.out.pm.ll.symm
          have HLEN : Hid (s.last.length = xs.length) := by show s.last.length = _; rw [HE.out.pm.ll]; exact HE.out.len
          have HRL := Lib.hid HE.out.rel.last
          clear hp4 hk4 hr4 hrl hc HCR
          go_wp2_with fail
          go_loopg [15] xs.length (fun g s15 wx => ∃ k : Nat, k + g = xs.length ∧ s15 = .int .i64 (k : Int) ∧ wx = w4)
          case atStart => exact ⟨0, by omega, rfl, rfl⟩
          case round =>
            obtain ⟨k, hkg, rfl, rfl⟩ := hrel
            cases gk with
            | zero =>
              have hk : ¬ (k : Int) < (xs.length : Int) := by omega
              have hln : Hid (((s.crash []).now.length : Int) = (xs.length : Int)) := by show _ = _; rw [HML.out, HLEN.out]
              go_wp2_with fail
              refine (len_at HP4.out).mono ?_
              rintro e w' ⟨rfl, rfl⟩
              rw [hln.out]
              go_wp2_with fail
              go_ret
              exact ⟨by simp, HK4.out.below (Nat.le_refl _) (by simp)⟩
            | succ g =>
              have hk : (k : Int) < (xs.length : Int) := by omega
              obtain ⟨-, rfl, -, -, k2, -, -, -, -⟩ := HC.out k (by omega)
              have hr0 : Hid ((s.crash []).refusal (k : Int) = 0) := by
                show (s.crash []).refusal (k : Int) = 0
                rw [refusal_new _ rfl, HML.out, HLEN.out, if_neg (by omega)]
              have hx0 : Hid ((s.crash []).load (k : Int) = r.last.getD k 0) := by
                show (s.crash []).load (k : Int) = _
                rw [PmS.load, if_pos hr0.out, HML.out, HRL.out, Int.toNat_natCast]
              generalize r.last.getD k 0 = x at *
              have n1 : (x != x) = false := by simp
              go_wp2_with fail
              refine (load_at HP4.out _).mono ?_
              rintro e w' ⟨rfl, rfl⟩
              rw [hr0.out, hx0.out]
              go_wp2_with fail
              go_roundg g
              case measure => omega
              case rel => exact ⟨k + 1, by omega, by go_num, rfl⟩
        | succ g =>
          have hj : (j : Int) < (l.length : Int) := by omega
          have hj' : j < l.length := by omega
          have HOW := Lib.hid (HL.out.keep (HE.out.kept.below (Nat.le_refl _) (by simp)))
          have ho := HOW.out.all l[j] (List.getElem_mem hj')
          have hkd := HL.out.all l[j] (List.getElem_mem hj')
          obtain ⟨g1, off, cap1, hv, -, hg1, -, C0, C1, C2, C3, C4⟩ := HOW.out.get (j := j) hj'
          cases hv
          have HLD : Hid ((loadVar 33 ⟨g1, off + j * 5, none⟩).run Try.prog wr = .ok (opAgg l[j]) wr) := by
            refine run_loadVar_cells g1 (off + j * 5) (opCells l[j]) Try.underlying33 rfl (by kernel_rfl) fun q hq => ?_
            have : q = 0 ∨ q = 1 ∨ q = 2 ∨ q = 3 ∨ q = 4 := by simp [opCells] at hq; omega
            rcases this with rfl | rfl | rfl | rfl | rfl
            · exact C0
            · exact C1
            · exact C2
            · exact C3
            · exact C4
          clear C0 C1 C2 C3 C4
          generalize l[j] = o at *
          obtain ⟨akv, ckv, hkv, -⟩ := ho.reads.val
          obtain ⟨w2, HST, HB2, HK2⟩ : ∃ w2, Hid ((storeVar 33 ⟨wr.heap.size, 0, none⟩ (opAgg o)).run Try.prog (wr.alloc (.cells #[.int .u8 0, .int .i64 0, .int .i64 0, .int .u64 0, .slice none 0 0] 33)) = .ok () w2) ∧
              Hid (OpBlk w2 wr.heap.size o) ∧ Hid (Keeps [] wr w2) := by
            have hb := Blk.new wr #[.int .u8 0, .int .i64 0, .int .i64 0, .int .u64 0, .slice none 0 0] 33
            refine ⟨_, run_storeVar_cells wr.heap.size 0 (opCells o) _ (by kernel_rfl) hb (by simp [opCells]) (by intro v hv; simp only [opCells, List.mem_cons, List.not_mem_nil, or_false] at hv; rcases hv with rfl | rfl | rfl | rfl | rfl <;> first | rfl | (rw [hkv]; rfl)), ?_, ?_⟩
            · have := setRow_heap _ wr.heap.size _ (opCells o).toArray _ _ hb
              exact this
            · exact ((Keeps.refl _ _).alloc _).setRow (.inr (Nat.le_refl _)) _
          have HKD := Lib.hid hkd
          have HP2 := Lib.hid (HE.out.pm.keep HK2.out (by simp) (by simp))
          have HDF := Lib.hid (s.do_facts o HE.out.pm.ll)
          have HRK := Lib.hid (ho.reads.keep HK2.out (by simp))
          have HGK : Hid (o.ks ≠ [] → o.kg ∉ [b, gn, gl, gf]) := fun hne e => by
            obtain ⟨_, _, _, _, _, h2⟩ := hkd.reads
            have := (h2 (by intro e; exact hne (by cases hks : o.ks with | nil => rfl | cons a t => rw [hks] at e; simp [u8s] at e))).1
            have := HE.out.lo1 _ e
            omega
          obtain ⟨kb0, kb1⟩ := ho.kind
          have q0 : w2.cell? ⟨wr.heap.size, 0, none⟩ = some (.int .u8 o.kind) := by rw [Blk.cell HB2.out]; rfl
          have q1 : w2.cell? ⟨wr.heap.size, 1, none⟩ = some (.int .i64 o.i) := by rw [Blk.cell HB2.out]; rfl
          have q2 : w2.cell? ⟨wr.heap.size, 2, none⟩ = some (.int .i64 o.n) := by rw [Blk.cell HB2.out]; rfl
          have q3 : w2.cell? ⟨wr.heap.size, 3, none⟩ = some (.int .u64 o.w) := by rw [Blk.cell HB2.out]; rfl
          have q4 : w2.cell? ⟨wr.heap.size, 4, none⟩ = some o.kv := by rw [Blk.cell HB2.out]; rfl
          clear ho hkd hkv
          rcases (show o.kind % 6 = 0 ∨ o.kind % 6 = 1 ∨ o.kind % 6 = 2 ∨ o.kind % 6 = 3 ∨ o.kind % 6 = 4 ∨ o.kind % 6 = 5 by omega) with hk | hk | hk | hk | hk | hk
          · have EX : Hid (s.doX o = 0) := by show s.doX o = _; rw [PmS.doX, if_neg (by omega)]
            have EE : Hid (s.doE o = s.refusal o.i) := by
              show s.doE o = _
              rw [PmS.doE, if_pos (by omega)]
            go_wp2_with (first | ((with_reducible show wpList _ _ _ (⟨_, .load 33 (.tmp 43), _, _, _, _⟩ :: _) _ _); refine wpList_load_any rfl 33 (.tmp 43) rfl _ rfl _ HLD.out ?_) | ((with_reducible show wpList _ _ _ (⟨_, .store 33 (.tmp 8) (.tmp 44), _, _, _, _⟩ :: _) _ _); refine wpList_store_any rfl 33 (.tmp 8) (.tmp 44) rfl _ rfl _ rfl _ HST.out ?_))
            refine (store_at HP2.out (HE.out.fit (by omega)) _ _).mono ?_
            rintro e w3 ⟨rfl, hp3, hk3⟩
            have HH : Hid (Half w wr w2 w3 b gn gl gf c hn hl hf s o) := half_of HE.out (by omega) HKD.out HK2.out HB2.out (by rw [PmS.doS, if_pos hk]; exact hp3) hk3
            clear hp3 hk3
            have HL3 : Hid ((loadVar 33 ⟨wr.heap.size, 0, none⟩).run Try.prog w3 = .ok (opAgg o) w3) := by
              refine run_loadVar_cells wr.heap.size 0 (opCells o) Try.underlying33 rfl (by kernel_rfl) fun q hq => ?_
              rw [Blk.cell HH.out.op, Nat.zero_add]
              simp [opCells]
            go_wp2_with ((with_reducible show wpList _ _ _ (⟨_, .load 33 (.tmp 8), _, _, _, _⟩ :: _) _ _); refine wpList_load_any rfl 33 (.tmp 8) rfl _ rfl _ HL3.out ?_)
            refine HH.out.call.mono ?_
            rintro e w4 ⟨r', rfl, hr4, hrel4, hk4⟩
            have HN := Lib.hid (HE.out.next HK2.out HH.out.pm HH.out.kept hr4 hrel4 hk4 HDF.out)
            have HP4 := Lib.hid (HH.out.pm.keepRef hk4 HE.out.apart)
            have HR4 := Lib.hid hr4
            have HRL := Lib.hid hrel4.dirty
            obtain ⟨-, -, -, -, -, -, -, -, -, c3, -, -, -⟩ := hr4.cells
            rw [hrel4.deeds] at c3
            clear hr4 hrel4 hk4 HH HL3
            have D1 : Hid (∀ q, Calls Try.prog 20 #[.pointer (some ⟨b, 0, none⟩)] (w4.drewN q) fun e w'' => e = .returned (.int .i64 (s.doS o).deeds) ∧ ∃ m, w'' = w4.drewN m) := fun q => quiet_left (deeds_at (HP4.out.drewN q))
            have D2 : Hid (∀ q, Calls Try.prog 15 #[.pointer (some ⟨b, 0, none⟩)] (w4.drewN q) fun e w'' => e = .returned (.int .i64 ((s.doS o).dirtyN : Int)) ∧ ∃ m, w'' = w4.drewN m) := fun q => Calls.quiet_of (Dirty_at (HP4.out.drewN q))
            have D3 : Hid (∀ q, Calls Try.prog 21 #[.pointer (some ⟨c, 0, none⟩)] (w4.drewN q) fun e w'' => e = .returned (.int .i64 ((s.doS o).dirtyN : Int)) ∧ ∃ m, w'' = w4.drewN m) := fun q => by
              have := Calls.quiet_of (refDirty_at (HR4.out.drewN q))
              rw [HRL.out] at this
              exact this
            rw [EX.out, EE.out]
            generalize (s.doS o).deeds = dd at *
            generalize ((s.doS o).dirtyN : Int) = dn at *
            generalize s.refusal o.i = ee at *
            have n1 : (ee != ee) = false := by simp
            have n3 : (dd != dd) = false := by simp
            have n4 : (dn != dn) = false := by simp
            go_wp2_with fail
            go_quiet ((first | (go_at_call 20; exact D1.out _) | (go_at_call 15; exact D2.out _) | (go_at_call 21; exact D3.out _)))
            go_wp2_with fail
            go_roundg g
            case measure => omega
            case rel => exact ⟨j + 1, s.doS o, r', by omega, by go_num, HN.out _⟩
          · have EX : Hid (s.doX o = s.load o.i) := by show s.doX o = _; rw [PmS.doX, if_pos hk]
            have EE : Hid (s.doE o = s.refusal o.i) := by
              show s.doE o = _
              rw [PmS.doE, if_pos (by omega)]
            go_wp2_with (first | ((with_reducible show wpList _ _ _ (⟨_, .load 33 (.tmp 43), _, _, _, _⟩ :: _) _ _); refine wpList_load_any rfl 33 (.tmp 43) rfl _ rfl _ HLD.out ?_) | ((with_reducible show wpList _ _ _ (⟨_, .store 33 (.tmp 8) (.tmp 44), _, _, _, _⟩ :: _) _ _); refine wpList_store_any rfl 33 (.tmp 8) (.tmp 44) rfl _ rfl _ rfl _ HST.out ?_))
            refine (load_at HP2.out _).mono ?_
            rintro e w3 ⟨rfl, rfl⟩
            have HH : Hid (Half w wr w2 w2 b gn gl gf c hn hl hf s o) := half_of HE.out (by omega) HKD.out HK2.out HB2.out (by rw [PmS.doS, if_neg (by omega), if_pos hk]; exact HP2.out) (Keeps.refl _ _)
            obtain ⟨w3, rfl⟩ : ∃ w3, w3 = w2 := ⟨_, rfl⟩
            have HL3 : Hid ((loadVar 33 ⟨wr.heap.size, 0, none⟩).run Try.prog w3 = .ok (opAgg o) w3) := by
              refine run_loadVar_cells wr.heap.size 0 (opCells o) Try.underlying33 rfl (by kernel_rfl) fun q hq => ?_
              rw [Blk.cell HH.out.op, Nat.zero_add]
              simp [opCells]
            go_wp2_with ((with_reducible show wpList _ _ _ (⟨_, .load 33 (.tmp 8), _, _, _, _⟩ :: _) _ _); refine wpList_load_any rfl 33 (.tmp 8) rfl _ rfl _ HL3.out ?_)
            refine HH.out.call.mono ?_
            rintro e w4 ⟨r', rfl, hr4, hrel4, hk4⟩
            have HN := Lib.hid (HE.out.next HK2.out HH.out.pm HH.out.kept hr4 hrel4 hk4 HDF.out)
            have HP4 := Lib.hid (HH.out.pm.keepRef hk4 HE.out.apart)
            have HR4 := Lib.hid hr4
            have HRL := Lib.hid hrel4.dirty
            obtain ⟨-, -, -, -, -, -, -, -, -, c3, -, -, -⟩ := hr4.cells
            rw [hrel4.deeds] at c3
            clear hr4 hrel4 hk4 HH HL3
            have D1 : Hid (∀ q, Calls Try.prog 20 #[.pointer (some ⟨b, 0, none⟩)] (w4.drewN q) fun e w'' => e = .returned (.int .i64 (s.doS o).deeds) ∧ ∃ m, w'' = w4.drewN m) := fun q => quiet_left (deeds_at (HP4.out.drewN q))
            have D2 : Hid (∀ q, Calls Try.prog 15 #[.pointer (some ⟨b, 0, none⟩)] (w4.drewN q) fun e w'' => e = .returned (.int .i64 ((s.doS o).dirtyN : Int)) ∧ ∃ m, w'' = w4.drewN m) := fun q => Calls.quiet_of (Dirty_at (HP4.out.drewN q))
            have D3 : Hid (∀ q, Calls Try.prog 21 #[.pointer (some ⟨c, 0, none⟩)] (w4.drewN q) fun e w'' => e = .returned (.int .i64 ((s.doS o).dirtyN : Int)) ∧ ∃ m, w'' = w4.drewN m) := fun q => by
              have := Calls.quiet_of (refDirty_at (HR4.out.drewN q))
              rw [HRL.out] at this
              exact this
            rw [EX.out, EE.out]
            generalize (s.doS o).deeds = dd at *
            generalize ((s.doS o).dirtyN : Int) = dn at *
            generalize s.refusal o.i = ee at *
            have n1 : (ee != ee) = false := by simp
            generalize s.load o.i = xx at *
            have n2 : (xx != xx) = false := by simp
            have n3 : (dd != dd) = false := by simp
            have n4 : (dn != dn) = false := by simp
            go_wp2_with fail
            go_quiet ((first | (go_at_call 20; exact D1.out _) | (go_at_call 15; exact D2.out _) | (go_at_call 21; exact D3.out _)))
            go_wp2_with fail
            go_roundg g
            case measure => omega
            case rel => exact ⟨j + 1, s.doS o, r', by omega, by go_num, HN.out _⟩
          · have EX : Hid (s.doX o = 0) := by show s.doX o = _; rw [PmS.doX, if_neg (by omega)]
            have EE : Hid (s.doE o = s.refusal o.i) := by
              show s.doE o = _
              rw [PmS.doE, if_pos (by omega)]
            go_wp2_with (first | ((with_reducible show wpList _ _ _ (⟨_, .load 33 (.tmp 43), _, _, _, _⟩ :: _) _ _); refine wpList_load_any rfl 33 (.tmp 43) rfl _ rfl _ HLD.out ?_) | ((with_reducible show wpList _ _ _ (⟨_, .store 33 (.tmp 8) (.tmp 44), _, _, _, _⟩ :: _) _ _); refine wpList_store_any rfl 33 (.tmp 8) (.tmp 44) rfl _ rfl _ rfl _ HST.out ?_))
            refine (flush_at HP2.out (HE.out.fit (by omega)) _).mono ?_
            rintro e w3 ⟨rfl, hp3, hk3⟩
            have HH : Hid (Half w wr w2 w3 b gn gl gf c hn hl hf s o) := half_of HE.out (by omega) HKD.out HK2.out HB2.out (by rw [PmS.doS, if_neg (by omega), if_neg (by omega), if_pos hk]; exact hp3) hk3
            clear hp3 hk3
            have HL3 : Hid ((loadVar 33 ⟨wr.heap.size, 0, none⟩).run Try.prog w3 = .ok (opAgg o) w3) := by
              refine run_loadVar_cells wr.heap.size 0 (opCells o) Try.underlying33 rfl (by kernel_rfl) fun q hq => ?_
              rw [Blk.cell HH.out.op, Nat.zero_add]
              simp [opCells]
            go_wp2_with ((with_reducible show wpList _ _ _ (⟨_, .load 33 (.tmp 8), _, _, _, _⟩ :: _) _ _); refine wpList_load_any rfl 33 (.tmp 8) rfl _ rfl _ HL3.out ?_)
            refine HH.out.call.mono ?_
            rintro e w4 ⟨r', rfl, hr4, hrel4, hk4⟩
            have HN := Lib.hid (HE.out.next HK2.out HH.out.pm HH.out.kept hr4 hrel4 hk4 HDF.out)
            have HP4 := Lib.hid (HH.out.pm.keepRef hk4 HE.out.apart)
            have HR4 := Lib.hid hr4
            have HRL := Lib.hid hrel4.dirty
            obtain ⟨-, -, -, -, -, -, -, -, -, c3, -, -, -⟩ := hr4.cells
            rw [hrel4.deeds] at c3
            clear hr4 hrel4 hk4 HH HL3
            have D1 : Hid (∀ q, Calls Try.prog 20 #[.pointer (some ⟨b, 0, none⟩)] (w4.drewN q) fun e w'' => e = .returned (.int .i64 (s.doS o).deeds) ∧ ∃ m, w'' = w4.drewN m) := fun q => quiet_left (deeds_at (HP4.out.drewN q))
            have D2 : Hid (∀ q, Calls Try.prog 15 #[.pointer (some ⟨b, 0, none⟩)] (w4.drewN q) fun e w'' => e = .returned (.int .i64 ((s.doS o).dirtyN : Int)) ∧ ∃ m, w'' = w4.drewN m) := fun q => Calls.quiet_of (Dirty_at (HP4.out.drewN q))
            have D3 : Hid (∀ q, Calls Try.prog 21 #[.pointer (some ⟨c, 0, none⟩)] (w4.drewN q) fun e w'' => e = .returned (.int .i64 ((s.doS o).dirtyN : Int)) ∧ ∃ m, w'' = w4.drewN m) := fun q => by
              have := Calls.quiet_of (refDirty_at (HR4.out.drewN q))
              rw [HRL.out] at this
              exact this
            rw [EX.out, EE.out]
            generalize (s.doS o).deeds = dd at *
            generalize ((s.doS o).dirtyN : Int) = dn at *
            generalize s.refusal o.i = ee at *
            have n1 : (ee != ee) = false := by simp
            have n3 : (dd != dd) = false := by simp
            have n4 : (dn != dn) = false := by simp
            go_wp2_with fail
            go_quiet ((first | (go_at_call 20; exact D1.out _) | (go_at_call 15; exact D2.out _) | (go_at_call 21; exact D3.out _)))
            go_wp2_with fail
            go_roundg g
            case measure => omega
            case rel => exact ⟨j + 1, s.doS o, r', by omega, by go_num, HN.out _⟩
          · have EX : Hid (s.doX o = 0) := by show s.doX o = _; rw [PmS.doX, if_neg (by omega)]
            have EE : Hid (s.doE o = s.fenceE) := by
              show s.doE o = _
              rw [PmS.doE, if_neg (by omega), if_pos hk]
            go_wp2_with (first | ((with_reducible show wpList _ _ _ (⟨_, .load 33 (.tmp 43), _, _, _, _⟩ :: _) _ _); refine wpList_load_any rfl 33 (.tmp 43) rfl _ rfl _ HLD.out ?_) | ((with_reducible show wpList _ _ _ (⟨_, .store 33 (.tmp 8) (.tmp 44), _, _, _, _⟩ :: _) _ _); refine wpList_store_any rfl 33 (.tmp 8) (.tmp 44) rfl _ rfl _ rfl _ HST.out ?_))
            refine (fence_at HP2.out (HE.out.fit (by omega))).mono ?_
            rintro e w3 ⟨rfl, hp3, hk3⟩
            have HH : Hid (Half w wr w2 w3 b gn gl gf c hn hl hf s o) := half_of HE.out (by omega) HKD.out HK2.out HB2.out (by rw [PmS.doS, if_neg (by omega), if_neg (by omega), if_neg (by omega), if_pos hk]; exact hp3) hk3
            clear hp3 hk3
            have HL3 : Hid ((loadVar 33 ⟨wr.heap.size, 0, none⟩).run Try.prog w3 = .ok (opAgg o) w3) := by
              refine run_loadVar_cells wr.heap.size 0 (opCells o) Try.underlying33 rfl (by kernel_rfl) fun q hq => ?_
              rw [Blk.cell HH.out.op, Nat.zero_add]
              simp [opCells]
            go_wp2_with ((with_reducible show wpList _ _ _ (⟨_, .load 33 (.tmp 8), _, _, _, _⟩ :: _) _ _); refine wpList_load_any rfl 33 (.tmp 8) rfl _ rfl _ HL3.out ?_)
            refine HH.out.call.mono ?_
            rintro e w4 ⟨r', rfl, hr4, hrel4, hk4⟩
            have HN := Lib.hid (HE.out.next HK2.out HH.out.pm HH.out.kept hr4 hrel4 hk4 HDF.out)
            have HP4 := Lib.hid (HH.out.pm.keepRef hk4 HE.out.apart)
            have HR4 := Lib.hid hr4
            have HRL := Lib.hid hrel4.dirty
            obtain ⟨-, -, -, -, -, -, -, -, -, c3, -, -, -⟩ := hr4.cells
            rw [hrel4.deeds] at c3
            clear hr4 hrel4 hk4 HH HL3
            have D1 : Hid (∀ q, Calls Try.prog 20 #[.pointer (some ⟨b, 0, none⟩)] (w4.drewN q) fun e w'' => e = .returned (.int .i64 (s.doS o).deeds) ∧ ∃ m, w'' = w4.drewN m) := fun q => quiet_left (deeds_at (HP4.out.drewN q))
            have D2 : Hid (∀ q, Calls Try.prog 15 #[.pointer (some ⟨b, 0, none⟩)] (w4.drewN q) fun e w'' => e = .returned (.int .i64 ((s.doS o).dirtyN : Int)) ∧ ∃ m, w'' = w4.drewN m) := fun q => Calls.quiet_of (Dirty_at (HP4.out.drewN q))
            have D3 : Hid (∀ q, Calls Try.prog 21 #[.pointer (some ⟨c, 0, none⟩)] (w4.drewN q) fun e w'' => e = .returned (.int .i64 ((s.doS o).dirtyN : Int)) ∧ ∃ m, w'' = w4.drewN m) := fun q => by
              have := Calls.quiet_of (refDirty_at (HR4.out.drewN q))
              rw [HRL.out] at this
              exact this
            rw [EX.out, EE.out]
            generalize (s.doS o).deeds = dd at *
            generalize ((s.doS o).dirtyN : Int) = dn at *
            generalize s.fenceE = ee at *
            have n1 : (ee != ee) = false := by simp
            have n3 : (dd != dd) = false := by simp
            have n4 : (dn != dn) = false := by simp
            go_wp2_with fail
            go_quiet ((first | (go_at_call 20; exact D1.out _) | (go_at_call 15; exact D2.out _) | (go_at_call 21; exact D3.out _)))
            go_wp2_with fail
            go_roundg g
            case measure => omega
            case rel => exact ⟨j + 1, s.doS o, r', by omega, by go_num, HN.out _⟩
          · have EX : Hid (s.doX o = 0) := by show s.doX o = _; rw [PmS.doX, if_neg (by omega)]
            have EE : Hid (s.doE o = 0) := by
              show s.doE o = _
              rw [PmS.doE, if_neg (by omega), if_neg (by omega)]
            go_wp2_with (first | ((with_reducible show wpList _ _ _ (⟨_, .load 33 (.tmp 43), _, _, _, _⟩ :: _) _ _); refine wpList_load_any rfl 33 (.tmp 43) rfl _ rfl _ HLD.out ?_) | ((with_reducible show wpList _ _ _ (⟨_, .store 33 (.tmp 8) (.tmp 44), _, _, _, _⟩ :: _) _ _); refine wpList_store_any rfl 33 (.tmp 8) (.tmp 44) rfl _ rfl _ rfl _ HST.out ?_))
            refine (fuse_at HP2.out _).mono ?_
            rintro e w3 ⟨rfl, hp3, hk3⟩
            have HH : Hid (Half w wr w2 w3 b gn gl gf c hn hl hf s o) := half_of HE.out (by omega) HKD.out HK2.out HB2.out (by rw [PmS.doS, if_neg (by omega), if_neg (by omega), if_neg (by omega), if_neg (by omega), if_pos hk]; exact hp3) (hk3.mono (by simp))
            clear hp3 hk3
            skip
            have HL3 : Hid ((loadVar 33 ⟨wr.heap.size, 0, none⟩).run Try.prog w3 = .ok (opAgg o) w3) := by
              refine run_loadVar_cells wr.heap.size 0 (opCells o) Try.underlying33 rfl (by kernel_rfl) fun q hq => ?_
              rw [Blk.cell HH.out.op, Nat.zero_add]
              simp [opCells]
            go_wp2_with ((with_reducible show wpList _ _ _ (⟨_, .load 33 (.tmp 8), _, _, _, _⟩ :: _) _ _); refine wpList_load_any rfl 33 (.tmp 8) rfl _ rfl _ HL3.out ?_)
            refine HH.out.call.mono ?_
            rintro e w4 ⟨r', rfl, hr4, hrel4, hk4⟩
            have HN := Lib.hid (HE.out.next HK2.out HH.out.pm HH.out.kept hr4 hrel4 hk4 HDF.out)
            have HP4 := Lib.hid (HH.out.pm.keepRef hk4 HE.out.apart)
            have HR4 := Lib.hid hr4
            have HRL := Lib.hid hrel4.dirty
            obtain ⟨-, -, -, -, -, -, -, -, -, c3, -, -, -⟩ := hr4.cells
            rw [hrel4.deeds] at c3
            clear hr4 hrel4 hk4 HH HL3
            have D1 : Hid (∀ q, Calls Try.prog 20 #[.pointer (some ⟨b, 0, none⟩)] (w4.drewN q) fun e w'' => e = .returned (.int .i64 (s.doS o).deeds) ∧ ∃ m, w'' = w4.drewN m) := fun q => quiet_left (deeds_at (HP4.out.drewN q))
            have D2 : Hid (∀ q, Calls Try.prog 15 #[.pointer (some ⟨b, 0, none⟩)] (w4.drewN q) fun e w'' => e = .returned (.int .i64 ((s.doS o).dirtyN : Int)) ∧ ∃ m, w'' = w4.drewN m) := fun q => Calls.quiet_of (Dirty_at (HP4.out.drewN q))
            have D3 : Hid (∀ q, Calls Try.prog 21 #[.pointer (some ⟨c, 0, none⟩)] (w4.drewN q) fun e w'' => e = .returned (.int .i64 ((s.doS o).dirtyN : Int)) ∧ ∃ m, w'' = w4.drewN m) := fun q => by
              have := Calls.quiet_of (refDirty_at (HR4.out.drewN q))
              rw [HRL.out] at this
              exact this
            rw [EX.out, EE.out]
            generalize (s.doS o).deeds = dd at *
            generalize ((s.doS o).dirtyN : Int) = dn at *
            skip
            have n3 : (dd != dd) = false := by simp
            have n4 : (dn != dn) = false := by simp
            go_wp2_with fail
            go_quiet ((first | (go_at_call 20; exact D1.out _) | (go_at_call 15; exact D2.out _) | (go_at_call 21; exact D3.out _)))
            go_wp2_with fail
            go_roundg g
            case measure => omega
            case rel => exact ⟨j + 1, s.doS o, r', by omega, by go_num, HN.out _⟩
          · have EX : Hid (s.doX o = 0) := by show s.doX o = _; rw [PmS.doX, if_neg (by omega)]
            have EE : Hid (s.doE o = 0) := by
              show s.doE o = _
              rw [PmS.doE, if_neg (by omega), if_neg (by omega)]
            go_wp2_with (first | ((with_reducible show wpList _ _ _ (⟨_, .load 33 (.tmp 43), _, _, _, _⟩ :: _) _ _); refine wpList_load_any rfl 33 (.tmp 43) rfl _ rfl _ HLD.out ?_) | ((with_reducible show wpList _ _ _ (⟨_, .store 33 (.tmp 8) (.tmp 44), _, _, _, _⟩ :: _) _ _); refine wpList_store_any rfl 33 (.tmp 8) (.tmp 44) rfl _ rfl _ rfl _ HST.out ?_))
            refine (crash_at' HP2.out HRK.out HKD.out.bytes HGK.out).mono ?_
            rintro e w3 ⟨rfl, hp3, hk3⟩
            have HH : Hid (Half w wr w2 w3 b gn gl gf c hn hl hf s o) := half_of HE.out (by omega) HKD.out HK2.out HB2.out (by rw [PmS.doS, if_neg (by omega), if_neg (by omega), if_neg (by omega), if_neg (by omega), if_neg (by omega)]; exact hp3) hk3
            clear hp3 hk3
            skip
            have HL3 : Hid ((loadVar 33 ⟨wr.heap.size, 0, none⟩).run Try.prog w3 = .ok (opAgg o) w3) := by
              refine run_loadVar_cells wr.heap.size 0 (opCells o) Try.underlying33 rfl (by kernel_rfl) fun q hq => ?_
              rw [Blk.cell HH.out.op, Nat.zero_add]
              simp [opCells]
            go_wp2_with ((with_reducible show wpList _ _ _ (⟨_, .load 33 (.tmp 8), _, _, _, _⟩ :: _) _ _); refine wpList_load_any rfl 33 (.tmp 8) rfl _ rfl _ HL3.out ?_)
            refine HH.out.call.mono ?_
            rintro e w4 ⟨r', rfl, hr4, hrel4, hk4⟩
            have HN := Lib.hid (HE.out.next HK2.out HH.out.pm HH.out.kept hr4 hrel4 hk4 HDF.out)
            have HP4 := Lib.hid (HH.out.pm.keepRef hk4 HE.out.apart)
            have HR4 := Lib.hid hr4
            have HRL := Lib.hid hrel4.dirty
            obtain ⟨-, -, -, -, -, -, -, -, -, c3, -, -, -⟩ := hr4.cells
            rw [hrel4.deeds] at c3
            clear hr4 hrel4 hk4 HH HL3
            have D1 : Hid (∀ q, Calls Try.prog 20 #[.pointer (some ⟨b, 0, none⟩)] (w4.drewN q) fun e w'' => e = .returned (.int .i64 (s.doS o).deeds) ∧ ∃ m, w'' = w4.drewN m) := fun q => quiet_left (deeds_at (HP4.out.drewN q))
            have D2 : Hid (∀ q, Calls Try.prog 15 #[.pointer (some ⟨b, 0, none⟩)] (w4.drewN q) fun e w'' => e = .returned (.int .i64 ((s.doS o).dirtyN : Int)) ∧ ∃ m, w'' = w4.drewN m) := fun q => Calls.quiet_of (Dirty_at (HP4.out.drewN q))
            have D3 : Hid (∀ q, Calls Try.prog 21 #[.pointer (some ⟨c, 0, none⟩)] (w4.drewN q) fun e w'' => e = .returned (.int .i64 ((s.doS o).dirtyN : Int)) ∧ ∃ m, w'' = w4.drewN m) := fun q => by
              have := Calls.quiet_of (refDirty_at (HR4.out.drewN q))
              rw [HRL.out] at this
              exact this
            rw [EX.out, EE.out]
            generalize (s.doS o).deeds = dd at *
            generalize ((s.doS o).dirtyN : Int) = dn at *
            skip
            have n3 : (dd != dd) = false := by simp
            have n4 : (dn != dn) = false := by simp
            go_wp2_with fail
            go_quiet ((first | (go_at_call 20; exact D1.out _) | (go_at_call 15; exact D2.out _) | (go_at_call 21; exact D3.out _)))
            go_wp2_with fail
            go_roundg g
            case measure => omega
            case rel => exact ⟨j + 1, s.doS o, r', by omega, by go_num, HN.out _⟩
  · have hd : decide ((100 : Int) < (xs.length : Int)) = true := by simp; omega
    go_wp2_with fail
    refine (awake_at w1).mono ?_
    rintro e w2 ⟨rfl, hk2⟩
    have HK2 := Lib.hid (HK1.out.trans hk2 (by simp))
    clear hk2
    go_wp2_with fail
    go_ret
    exact ⟨rfl, HK2.out.below (Nat.le_refl _) (by simp)⟩

end Go.Proofs.Ytnjfiaceldkfkaa
