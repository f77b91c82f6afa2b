/-
  Layer 1: the law PmemEither, walked (the walk itself).
-/
import Derived.Test.YtnjfiaceldkfkaaPmL3
import Derived.StillTailTactics
namespace Go.Proofs.Ytnjfiaceldkfkaa
open Go.RowKit

theorem make50 (w : World) : (Instr.makeSlice 28 (.int .i64 50) (.int .i64 50)).run Try.prog w = .ok (.slice (some ⟨w.heap.size, 0, none⟩) 50 50) (w.alloc (.cells (madeCells #[.int .u64 0] 50) 31)) := by
  obtain ⟨i0, hi, hz0, hz1, hz2⟩ := info_parts Try.info_u64
  have := run_make (P := Try.prog) w 28 31 i0 _ Try.underlying28 hi hz0 .i64 .i64 50 50 (by omega) (by omega) (by rw [hz2]; omega) (by omega)
  rw [hz1] at this
  exact this

theorem owns50 (w : World) : Owns (w.alloc (.cells (madeCells #[.int .u64 0] 50) 31)) (.slice (some ⟨w.heap.size, 0, none⟩) 50 50) w.heap.size 31 1 50 (u64s (List.replicate 50 0)) := by
  refine ⟨by simp [u64s], _, 50, rfl, Nat.le_refl _, by simp [maxLen], fun _ => ⟨rfl, _, Blk.new _ _ _, by simp [size_madeCells], ?_⟩⟩
  rw [toList_madeCells_one, u64s_zero, List.take_of_length_le (by simp [u64s])]

set_option maxRecDepth 100000 in
set_option maxHeartbeats 4000000 in
theorem either_at {w : World} {vl vk : Value} {l : List OpR} {gK : Nat} {ks : List Int} (hl : OpsAt w vl l) (hr : Reads w vk gK (u8s ks)) (hby : ∀ j, 0 ≤ ks.getD j 0 ∧ ks.getD j 0 ≤ 255) :
    Calls Try.prog 3 #[vl, vk] w fun e w' => e = .returned (.bool true) ∧ Below w.heap.size w w' := by
  have HR := Lib.hid hr
  have HL := Lib.hid hl
  have HBY := Lib.hid hby
  obtain ⟨av, cv, rfl, hm⟩ := hl.val
  obtain ⟨ak, ck, rfl, hkm⟩ := hr.val
  rw [u8s_len] at hkm HR ⊢
  unfold maxLen at hm hkm
  clear hl hr hby
  go_enter Try.func3, Try.ntmps3
  go_wp2_with fail
  refine (awake_at w).mono ?_
  rintro e w1 ⟨rfl, hk1⟩
  have HK1 := Lib.hid hk1
  clear hk1
  go_wp2_with fail
  refine (few_at (HL.out.keep (HK1.out.below (Nat.le_refl _) (by simp))) 60 (by omega)).mono ?_
  rintro e w' ⟨rfl, rfl⟩
  cases hfew : fewB l 60
  · go_wp2_with fail
    refine (awake_at w1).mono ?_
    rintro e w2 ⟨rfl, hk2⟩
    have HK2 := Lib.hid (HK1.out.trans hk2 (by simp))
    clear hk2
    go_wp2_with fail
    go_ret
    exact ⟨rfl, HK2.out.below (Nat.le_refl _) (by simp)⟩
  · obtain ⟨f1, f2⟩ := fewB_true hfew (by omega)
    clear f2 hfew
    by_cases hlen : ks.length ≤ 100
    · have hd : decide ((100 : Int) < (ks.length : Int)) = false := by simp; omega
      have HN := Lib.hid (new_at w1 50)
      go_wp2_with fail
      refine HN.out.mono ?_
      rintro e w2 ⟨b, gn, gl, gf, rfl, hp, hlo, hk2⟩
      have hmk1 := make50 w2
      have hmk2 := make50 (w2.alloc (.cells (madeCells #[.int .u64 0] 50) 31))
      have e1 : (w2.alloc (.cells (madeCells #[.int .u64 0] 50) 31)).heap.size = w2.heap.size + 1 := by simp
      rw [e1] at hmk2
      have HI : Hid (EInv w ((w2.alloc (.cells (madeCells #[.int .u64 0] 50) 31)).alloc (.cells (madeCells #[.int .u64 0] 50) 31)) b gn gl gf (PmS.fresh (List.replicate 50 0)) (.slice (some ⟨w2.heap.size + 1, 0, none⟩) 50 50) (w2.heap.size + 1) (.slice (some ⟨w2.heap.size, 0, none⟩) 50 50) w2.heap.size 0) := by
        have hp' : PmAt w2 b gn gl gf (PmS.fresh (List.replicate 50 0)) := hp
        have hk3 : Keeps [] w2 ((w2.alloc (.cells (madeCells #[.int .u64 0] 50) 31)).alloc (.cells (madeCells #[.int .u64 0] 50) 31)) := ((Keeps.refl _ _).alloc _).alloc _
        have o2 := owns50 (w2.alloc (.cells (madeCells #[.int .u64 0] 50) 31))
        rw [e1] at o2
        have hs1 := HK1.out.size
        have hs2 := hk2.size
        obtain ⟨vn, vl, vf, q1, q2, q3, q4⟩ := hp'.at_
        have l1 := q1.lt
        have l2 := (q2.cell (by simp [PmS.fresh])).1
        have l3 := (q3.cell (by simp [PmS.fresh])).1
        have l4 := (q4.cell (by simp [PmS.fresh])).1
        refine ⟨hp'.keep hk3 (by simp) (by simp), by simp [PmS.fresh], rfl, rfl, by simp [PmS.fresh], o2, (owns50 w2).alloc _, by omega, ⟨?_, ?_, by omega⟩, (HK1.out.trans hk2 (by simp)).trans hk3 (by simp)⟩
        · simp only [List.mem_cons, List.not_mem_nil, or_false]; omega
        · simp only [List.mem_cons, List.not_mem_nil, or_false]; omega
      clear hp hlo hk2 HK1 e1
      generalize madeCells #[Value.int .u64 0] 50 = mc at *
      generalize PmS.fresh (List.replicate 50 0) = s0 at *
      go_wp2_with fail
      clear hmk1 hmk2
      generalize w2.heap.size + 1 = gN at *
      go_loopg [6, 8] l.length (fun g s6 s8 wx => ∃ (j : Nat) (s : PmS) (gL : Nat), j + g = l.length ∧ s8 = .int .i64 (j : Int) ∧ Hid (EInv w wx b gn gl gf s (.slice (some ⟨gN, 0, none⟩) 50 50) gN s6 gL (10 * j)))
      case atStart => exact ⟨0, s0, _, by omega, rfl, HI.out⟩
      case round =>
        obtain ⟨j, s, gL, hjg, rfl, HE⟩ := hrel
        clear HI
        cases gk with
        | zero =>
          have hj : ¬ (j : Int) < (l.length : Int) := by omega
          have HCR : Hid (Calls Try.prog 13 #[.pointer (some ⟨b, 0, none⟩), .slice ak ks.length ck] wr fun e w' => e = .returned (.tuple #[]) ∧ PmAt w' b gn gl gf (s.crash ks) ∧ Keeps [b, gn, gl, gf] wr w') := by
            refine crash_at' HE.out.pm (HR.out.keep HE.out.kept (by simp)) HBY.out (fun hne hmem => ?_)
            obtain ⟨_, _, _, _, _, h2⟩ := HR.out
            have := (h2 (by intro e; exact hne (by cases ks with | nil => rfl | cons a t => simp [u8s] at e))).1
            have := HE.out.lo
            simp only [List.mem_cons, List.not_mem_nil, or_false] at hmem
            omega
          go_wp2_with fail
          refine HCR.out.mono ?_
          rintro e w3 ⟨rfl, hp3, hk3⟩
          have HP3 := Lib.hid hp3
          have HK3 := Lib.hid hk3
          clear hp3 hk3 HCR
          have hmk3 := make50 w3
          have hll : s.last.length = 50 := by rw [HE.out.pm.ll]; exact HE.out.len
          have HAF := Lib.hid (after_of ks HE.out.len hll)
          have HM1 : Hid ((s.crash ks).now = crashM ks s.now s.last 0) := rfl
          have HM2 : Hid ((s.crash ks).last = crashM ks s.now s.last 0) := rfl
          obtain ⟨-, ⟨cL, rfl, -, -⟩, -, -⟩ := HE.out.ownL.cell (by omega)
          have HS4 := Lib.hid (owns50 w3)
          have HK4 : Hid (Keeps [] w (w3.alloc (.cells (madeCells #[.int .u64 0] 50) 31))) := (HE.out.kept.trans HK3.out (by intro z hz; have := HE.out.lo; simp only [List.mem_cons, List.not_mem_nil, or_false] at hz; omega)).alloc _
          have HN4 := Lib.hid ((HE.out.ownN.keep HK3.out HE.out.apart.1).alloc (.cells (madeCells #[.int .u64 0] 50) 31))
          have HL4 := Lib.hid ((HE.out.ownL.keep HK3.out HE.out.apart.2.1).alloc (.cells (madeCells #[.int .u64 0] 50) 31))
          have HP4 := Lib.hid (HP3.out.keep (((Keeps.refl [] w3).alloc (.cells (madeCells #[.int .u64 0] 50) 31))) (by simp) (by simp))
          have HGS : Hid (gN ≠ w3.heap.size ∧ gL ≠ w3.heap.size ∧ w3.heap.size ∉ [b, gn, gl, gf] ∧ w.heap.size ≤ w3.heap.size) := by
            have a1 := ((HE.out.ownN.keep HK3.out HE.out.apart.1).cell (by omega)).1
            have a2 := ((HE.out.ownL.keep HK3.out HE.out.apart.2.1).cell (by omega)).1
            have hl3 : (s.crash ks).now.length = 50 := by rw [HM1.out]; exact HAF.out.len
            obtain ⟨vn, vl, vf, q1, q2, q3, q4⟩ := HP3.out.at_
            have l1 := q1.lt
            have l2 := (q2.cell (by omega)).1
            have l3 := (q3.cell (by omega)).1
            have l4 := (q4.cell (by omega)).1
            have z1 := HK3.out.size
            have z2 := HE.out.kept.size
            refine ⟨by omega, by omega, ?_, by omega⟩
            simp only [List.mem_cons, List.not_mem_nil, or_false]; omega
          have HLO : Hid (∀ z, z ∈ [b, gn, gl, gf] → w.heap.size ≤ z) := by intro z hz; have := HE.out.lo; simp only [List.mem_cons, List.not_mem_nil, or_false] at hz; omega
          clear hll HP3 HK3
          generalize crashM ks s.now s.last 0 = M at *
          generalize hsc : s.crash ks = sc at *
          have HSC := Lib.hid hsc
          clear hsc
          generalize madeCells #[Value.int .u64 0] 50 = mc2 at *
          go_wp2_with fail
          clear hmk3
          generalize w3.heap.size = gS at *
          generalize w3.alloc (.cells mc2 31) = w4 at *
          go_loopg [11] 50 (fun g s11 wx => ∃ k : Nat, k + g = 50 ∧ s11 = .int .i64 (k : Int) ∧ Hid (Keeps [gS] w4 wx ∧ Owns wx (.slice (some ⟨gS, 0, none⟩) 50 50) gS 31 1 50 (u64s (mix M (List.replicate 50 0) k))))
          case atStart => exact ⟨0, by omega, rfl, Keeps.refl _ _, by rw [mix_zero]; exact HS4.out⟩
          case round =>
            obtain ⟨k, hk50, rfl, HQ⟩ := hrel
            clear HS4
            cases gk with
            | zero =>
              obtain rfl : k = 50 := by omega
              have hHP := HP4.out.keep HQ.out.1 (by have := HGS.out.2.2.1; simp only [List.mem_cons, List.not_mem_nil, or_false] at this ⊢; omega) (fun _ => by have := HGS.out.2.2.1; simp only [List.mem_cons, List.not_mem_nil, or_false] at this ⊢; omega)
              have HW := HQ.out.2
              rw [mix_all _ _ _ (by rw [HAF.out.len]; omega) (by simp)] at HW
              have HW5 := Lib.hid HW
              have HK5 : Hid (Keeps [] w wr) := HK4.out.trans HQ.out.1 (by intro z hz; rw [List.mem_singleton] at hz; subst hz; exact .inr HGS.out.2.2.2)
              have HP5 := Lib.hid hHP
              clear hHP HW
              have hbk := Blk.new wr #[.int .u8 1] 5
              have HR6 : Hid (Reads (wr.alloc (.cells #[.int .u8 1] 5)) (.slice (some ⟨wr.heap.size, 0, none⟩) 1 1) wr.heap.size (u8s [1])) := by
                refine ⟨_, 1, rfl, by simp [u8s], by simp [maxLen], fun _ => ⟨hbk.lt, 0, rfl, fun i hi => ?_⟩⟩
                rw [hbk.cell, Nat.zero_add]
                simp [u8s]
              have HCR2 : Hid (Calls Try.prog 13 #[.pointer (some ⟨b, 0, none⟩), .slice (some ⟨wr.heap.size, 0, none⟩) 1 1] (wr.alloc (.cells #[.int .u8 1] 5)) fun e w' => e = .returned (.tuple #[]) ∧ PmAt w' b gn gl gf (sc.crash [1]) ∧ Keeps [b, gn, gl, gf] (wr.alloc (.cells #[.int .u8 1] 5)) w') := by
                refine crash_at (HP5.out.keep ((Keeps.refl [] wr).alloc _) (by simp) (by simp)) HR6.out (fun i => by cases i <;> simp) ?_
                have hl3 : sc.now.length = 50 := by rw [HM1.out]; exact HAF.out.len
                obtain ⟨vn, vl, vf, q1, q2, q3, q4⟩ := HP5.out.at_
                have l1 := q1.lt
                have l2 := (q2.cell (by omega)).1
                have l3 := (q3.cell (by omega)).1
                have l4 := (q4.cell (by omega)).1
                simp only [List.mem_cons, List.not_mem_nil, or_false]; omega
              clear hbk HR6
              go_wp2_with fail
              refine HCR2.out.mono ?_
              rintro e w6 ⟨rfl, hp6, hk6⟩
              have HP6 := Lib.hid hp6
              have HK6 : Hid (Keeps [] w w6) := (HK5.out.alloc _).trans hk6 (fun z hz => .inr (HLO.out z hz))
              have HW6 := Lib.hid ((HW5.out.alloc _).keep hk6 HGS.out.2.2.1)
              have HD6 : Hid ((sc.crash [1]).dirtyN = 0) := PmS.crash_dirty _ _
              have HM6 : Hid (∀ k : Nat, k < 50 → (sc.crash [1]).refusal (k : Int) = 0 ∧ (sc.crash [1]).load (k : Int) = M.getD k 0) := fun k hk =>
                crash_refusal sc [1] M (by show crashM [1] sc.now sc.last 0 = M; rw [HM1.out, HM2.out, crashM_self]) HAF.out.len k hk
              clear hp6 hk6 HCR2
              generalize sc.crash [1] = s6 at *
              go_wp2_with fail
              obtain ⟨wo, rfl⟩ : ∃ wo : World, wo = wr := ⟨_, rfl⟩
              go_loopg [14] 50 (fun g s14 wx => ∃ k : Nat, k + g = 50 ∧ s14 = .int .i64 (k : Int) ∧ wx = w6)
              case atStart => exact ⟨0, by omega, rfl, rfl⟩
              case round =>
                obtain ⟨k, hk50, rfl, rfl⟩ := hrel
                cases gk with
                | zero =>
                  obtain rfl : k = 50 := by omega
                  go_wp2_with fail
                  refine (Dirty_at HP6.out).mono ?_
                  rintro e w7 ⟨rfl, nd, rfl⟩
                  rw [HD6.out]
                  go_wp2_with fail
                  go_ret
                  exact ⟨rfl, (HK6.out.drewN _).below (Nat.le_refl _) (by simp)⟩
                | succ g =>
                  have hk : (k : Int) < 50 := by omega
                  obtain ⟨t1, t2⟩ := HM6.out k (by omega)
                  obtain ⟨-, -, n3, -⟩ := HW6.out.cell (by omega)
                  have c1 : wr.cell? ⟨gS, k, none⟩ = some (.int .u64 (M.getD k 0)) := by rw [n3 k (by omega), u64s_get (by rw [HAF.out.len]; omega)]
                  have HT1 := Lib.hid t1
                  have HT2 := Lib.hid t2
                  clear t1 t2 n3
                  generalize M.getD k 0 = x at *
                  go_wp2_with fail
                  refine (load_at HP6.out _).mono ?_
                  rintro e w' ⟨rfl, rfl⟩
                  rw [HT1.out, HT2.out]
                  go_wp2_with fail
                  go_roundg g
                  case measure => omega
                  case rel => exact ⟨k + 1, by omega, by go_num, rfl⟩
            | succ g =>
              have hk : (k : Int) < 50 := by omega
              have HPk := Lib.hid (HP4.out.keep HQ.out.1 (by have := HGS.out.2.2.1; simp only [List.mem_cons, List.not_mem_nil, or_false] at this ⊢; omega) (fun _ => by have := HGS.out.2.2.1; simp only [List.mem_cons, List.not_mem_nil, or_false] at this ⊢; omega))
              obtain ⟨t1, t2⟩ := crash_refusal s ks M (by rw [HSC.out]; exact HM1.out) HAF.out.len k (by omega)
              rw [HSC.out] at t1 t2
              obtain ⟨-, -, n3, n4⟩ := HQ.out.2.cell (by omega)
              obtain ⟨-, -, p3, -⟩ := (HN4.out.keep HQ.out.1 (by have := HGS.out.1; simpa using this)).cell (by omega)
              obtain ⟨-, -, r3, -⟩ := (HL4.out.keep HQ.out.1 (by have := HGS.out.2.1; simpa using this)).cell (by omega)
              have hml : (mix M (List.replicate 50 0) k).length = 50 := by rw [mix_len _ _ _ (by rw [HAF.out.len]; simp)]; simp
              have hll : s.last.length = 50 := by rw [HE.out.pm.ll]; exact HE.out.len
              have c1 : wr.cell? ⟨gS, k, none⟩ = some (.int .u64 ((mix M (List.replicate 50 0) k).getD k 0)) := by rw [n3 k (by omega), u64s_get (by rw [hml]; omega)]
              have c2 : wr.frozen? ⟨gS, k, none⟩ = false := n4 k
              have c3 : wr.cell? ⟨gN, k, none⟩ = some (.int .u64 (s.now.getD k 0)) := by rw [p3 k (by omega), u64s_get (by rw [HE.out.len]; omega)]
              have c4 : wr.cell? ⟨gL, k, none⟩ = some (.int .u64 (s.last.getD k 0)) := by rw [r3 k (by omega), u64s_get (by rw [hll]; omega)]
              have HEND : Hid (Keeps [gS] w4 (wr.setCell ⟨gS, k, none⟩ (.int .u64 (M.getD k 0))) ∧ Owns (wr.setCell ⟨gS, k, none⟩ (.int .u64 (M.getD k 0))) (.slice (some ⟨gS, 0, none⟩) 50 50) gS 31 1 50 (u64s (mix M (List.replicate 50 0) (k + 1)))) := by
                refine ⟨HQ.out.1.setCell (by simp) _, ?_⟩
                rw [mix_succ _ _ _ (by rw [HAF.out.len]; simp) (by simp; omega), ← u64s_set]
                exact HQ.out.2.set k _
              have hei := HAF.out.either k (by omega)
              have HT1 := Lib.hid t1
              have HT2 := Lib.hid t2
              clear t1 t2 n3 n4 p3 r3 hml hll
              generalize (mix M (List.replicate 50 0) k).getD k 0 = x0 at *
              generalize M.getD k 0 = x at *
              generalize s.now.getD k 0 = xn at *
              generalize s.last.getD k 0 = xl at *
              rcases hei with rfl | ⟨h1, rfl⟩
              · go_wp2_with fail
                refine (load_at HPk.out _).mono ?_
                rintro e w' ⟨rfl, rfl⟩
                rw [HT1.out, HT2.out]
                go_wp2_with fail
                go_roundg g
                case measure => omega
                case rel => exact ⟨k + 1, by omega, by go_num, HEND.out⟩
              · have hb : (x != xl) = true := by simpa using h1
                clear h1
                go_wp2_with fail
                refine (load_at HPk.out _).mono ?_
                rintro e w' ⟨rfl, rfl⟩
                rw [HT1.out, HT2.out]
                go_wp2_with fail
                go_roundg g
                case measure => omega
                case rel => exact ⟨k + 1, by omega, by go_num, HEND.out⟩
        | succ g =>
          have hj : (j : Int) < (l.length : Int) := by omega
          obtain ⟨g1, off, cap1, hv, -, hg1, ho, C0, C1, -, C3, -⟩ := HL.out.get (j := j) (by omega)
          cases hv
          have hkind := ho.kind
          clear ho
          have HC : Hid (∀ wx, Keeps [] w wx → ∀ q, wx.cell? ⟨g1, q, none⟩ = w.cell? ⟨g1, q, none⟩) := fun wx hk q => World.cell?_of_block (w := w) (hk.block g1 hg1 (by simp))
          have HS := Lib.hid (fun (wz : World) (hz : PmAt wz b gn gl gf s) (x y : Int) => store_at hz (HE.out.fit (by omega)) x y)
          generalize l[j].i = x at *
          generalize l[j].w = y at *
          generalize l[j].kind = z at *
          have c1 := (HC.out _ HE.out.kept (off + j * 5 + 1)).trans C1
          have c3 := (HC.out _ HE.out.kept (off + j * 5 + 3)).trans C3
          have HC0 := Lib.hid C0
          have HC1 := Lib.hid C1
          have HC3 := Lib.hid C3
          clear C0 C1 C3
          go_wp2_with fail
          go_still_tail 11, (by kernel_rfl)
          go_wp2_with fail
          refine (HS.out _ HE.out.pm.drew _ _).mono ?_
          rintro e w6 ⟨rfl, hp6, hk6⟩
          have HP6 := Lib.hid hp6
          have HK6 := Lib.hid hk6
          clear hp6 hk6
          go_upto_if 51 with fail
          go_cut [] (fun wx => ∃ s1 : PmS, Hid (EInv w wx b gn gl gf s1 (.slice (some ⟨gN, 0, none⟩) 50 50) gN u6 gL (10 * j + 1)))
          case first =>
            by_cases hr0 : s.refusal x = 0
            · obtain ⟨-, i0, i1⟩ := PmS.refusal_ok hr0
              have hl50 := HE.out.len
              obtain ⟨xi, rfl⟩ := Int.eq_ofNat_of_zero_le i0
              have HEND := Lib.hid (HE.out.drew.store (xi : Int) y hr0 HP6.out HK6.out)
              have hN := HE.out.ownN.drew.keep HK6.out HE.out.apart.1
              obtain ⟨-, -, n3, n4⟩ := hN.cell (by omega)
              have k1 : w6.cell? ⟨gN, xi, none⟩ = some (.int .u64 (s.now.getD xi 0)) := by rw [n3 xi (by omega), u64s_get (by omega)]
              have k2 : w6.frozen? ⟨gN, xi, none⟩ = false := n4 xi
              have i2 : (xi : Int) < 50 := by omega
              have HK7 : Hid (Keeps [] w w6) := HE.out.kept.drew.trans HK6.out (by intro z hz; have := HE.out.lo; simp only [List.mem_cons, List.not_mem_nil, or_false] at hz; omega)
              have c1' := (HC.out _ HK7.out (off + j * 5 + 1)).trans HC1.out
              have c3' := (HC.out _ HK7.out (off + j * 5 + 3)).trans HC3.out
              have hb : (s.refusal (xi : Int) == 0) = true := by simpa using hr0
              clear hr0 hN n3 n4 c1 c3
              generalize s.now.getD xi 0 = oldx at *
              go_wp2_with fail
              go_still_tail 12, (by kernel_rfl)
              go_wp2_with fail
              go_meet
              exact ⟨_, HEND.out⟩
            · have hb : (s.refusal x == 0) = false := by simpa using hr0
              have HEND : Hid (EInv w w6 b gn gl gf s (.slice (some ⟨gN, 0, none⟩) 50 50) gN u6 gL (10 * j + 1)) := by
                have hs : s.store x y = s := by rw [PmS.store, if_neg hr0]
                have := HP6.out
                rw [hs] at this
                exact HE.out.drew.step this HK6.out rfl rfl HE.out.fused HE.out.left ⟨HE.out.deeds.1, by omega⟩
              clear hr0 c1 c3
              go_wp2_with fail
              go_meet
              exact ⟨s, HEND.out⟩
          case rest =>
            obtain ⟨s1, HE1⟩ := hcut
            have c0 := (HC.out _ HE1.out.kept (off + j * 5)).trans HC0.out
            clear c1 c3
            obtain ⟨z1, z2⟩ := hkind
            cases hz : (z % 4 == 1)
            · go_wp2_with fail
              go_roundg g
              case measure => omega
              case rel => exact ⟨j + 1, s1, gL, by omega, by go_num, HE1.out.mono (by omega)⟩
            · go_wp2_with fail
              obtain ⟨wo, rfl⟩ : ∃ wo : World, wo = wr := ⟨_, rfl⟩
              go_loopg [9] 7 (fun g2 s9 wx => ∃ (q : Nat) (s2 : PmS), q + g2 = 7 ∧ s9 = .int .i64 (8 * (q : Int)) ∧ Hid (EInv w wx b gn gl gf s2 (.slice (some ⟨gN, 0, none⟩) 50 50) gN u6 gL (10 * j + 1 + q) ∧ FlTo s2 (8 * q)))
              case atStart => exact ⟨0, s1, by omega, rfl, HE1.out, fun k hk => by omega⟩
              case round =>
                obtain ⟨q, s2, hq7, rfl, HE2⟩ := hrel
                clear HE1
                cases gk with
                | zero =>
                  obtain rfl : q = 7 := by omega
                  have HF := Lib.hid (fence_at HE2.out.1.pm (HE2.out.1.fit (by omega)))
                  go_wp2_with fail
                  refine HF.out.mono ?_
                  rintro e w7 ⟨rfl, hp7, hk7⟩
                  have HP7 := Lib.hid hp7
                  have HK7 := Lib.hid hk7
                  clear hp7 hk7 HF
                  obtain ⟨i0, hi, hz0, hz1, hz2⟩ := info_parts Try.info_u64
                  have hN := (HE2.out.1.ownN.keep HK7.out HE2.out.1.apart.1).alloc (.cells #[] 31)
                  obtain ⟨-, -, n3, -⟩ := hN.cell (by omega)
                  have HN3 : Hid (∀ i u, (u64s s2.now)[i]? = some u → (w7.alloc (.cells #[] 31)).cell? ((⟨gN, 0, none⟩ : Addr).add i) = some u) := fun i u hu => by
                    have hi' : i < (u64s s2.now).length := (List.getElem?_eq_some_iff.1 hu).1
                    rw [u64s_len, HE2.out.1.len] at hi'
                    rw [add_plain, Nat.zero_add, n3 i (by omega), hu]
                  have HOW : Hid ((w7.alloc (.cells #[] 31)).ownsRow w7.heap.size 31 1 (.slice (some ⟨w7.heap.size, 0, none⟩) 0 0) 0 []) := World.ownsRow_made w7 #[] 0 (Nat.le_refl _) (by simp [maxLen]) (by simp)
                  have HNL : Hid ((u64s s2.now).length = 50 * 1) := by
                    show (u64s s2.now).length = 50 * 1
                    rw [u64s_len, HE2.out.1.len]
                  clear hN n3
                  go_wp2_with (at_builtin; refine wpList_append_own _ rfl _ _ 28 rfl w7.heap.size 31 i0 (.int .u64 0) 1 8 Try.underlying28 hi hz0 hz1 hz2 rfl (by decide) (.slice (some ⟨w7.heap.size, 0, none⟩) 0 0) _ _ rfl HOW.out ⟨gN, 0, none⟩ 50 50 (u64s s2.now) rfl HNL.out HN3.out (u64s_one s2.now) (by simp [maxLen]) (by simp) (by simp) ?_; intro v' w8 hown' hgrow _)
                  obtain ⟨g', ho', hg'⟩ := Owns.of_row hown'
                  have HE3 : Hid (EInv w w8 b gn gl gf s2.fence (.slice (some ⟨gN, 0, none⟩) 50 50) gN v' g' (10 * j + 1 + 7 + 1)) := by
                    have hkz : Keeps [w7.heap.size] (w7.alloc (.cells #[] 31)) w8 := Keeps.of_grown hgrow (by intro k hk; simp [Value.ownBlock] at hk; subst hk; simp)
                    refine HE2.out.1.fenced HE2.out.2.le HP7.out HK7.out (((Keeps.refl [] w7).alloc _).trans hkz (by simp)) (by simpa using ho') (hg' (by omega)).1
                  clear hown' hgrow ho' hg'
                  generalize s2.fence = s4 at *
                  generalize s2.fenceE = r4 at *
                  go_wp2_with fail
                  go_roundg g
                  case measure => omega
                  case rel => exact ⟨j + 1, s4, g', by omega, by go_num, HE3.out.mono (by omega)⟩
                | succ g2 =>
                  have hq : 8 * (q : Int) < 50 := by omega
                  have HF := Lib.hid (flush_at HE2.out.1.pm (HE2.out.1.fit (by omega)) (8 * (q : Int)))
                  obtain ⟨f1, f2, f3, f4, f5, f6, f7⟩ := flush_facts (8 * q) HE2.out.1.len HE2.out.1.fused HE2.out.1.fll (by omega)
                  rw [show ((8 * q : Nat) : Int) = 8 * (q : Int) by omega] at f1 f2 f3 f4 f5 f6 f7
                  have HEND : Hid (∀ w7, PmAt w7 b gn gl gf (s2.flush (8 * (q : Int))) → Keeps [b, gn, gl, gf] wr w7 → EInv w w7 b gn gl gf (s2.flush (8 * (q : Int))) (.slice (some ⟨gN, 0, none⟩) 50 50) gN u6 gL (10 * j + 1 + q + 1) ∧ FlTo (s2.flush (8 * (q : Int))) (8 * (q + 1))) :=
                    fun w7 hp hk => ⟨HE2.out.1.step hp hk f1 f2 f3 (by rw [f4]; exact HE2.out.1.left) (by rw [f5]; have := HE2.out.1.deeds; omega), f7 ⟨q, rfl⟩ HE2.out.2⟩
                  clear f1 f2 f3 f4 f5 f6 f7
                  go_wp2_with fail
                  refine HF.out.mono ?_
                  rintro e w7 ⟨rfl, hp7, hk7⟩
                  have HE3 := Lib.hid (HEND.out w7 hp7 hk7)
                  clear hp7 hk7 HF HEND
                  generalize s2.refusal (8 * (q : Int)) = r7 at *
                  generalize s2.flush (8 * (q : Int)) = s3 at *
                  go_wp2_with fail
                  go_roundg g2
                  case measure => omega
                  case rel => exact ⟨q + 1, s3, by omega, by go_num, HE3.out⟩
    · have hd : (100 : Int) < (ks.length : Int) := by omega
      go_wp2_with fail
      refine (awake_at w1).mono ?_
      rintro e w2 ⟨rfl, hk2⟩
      have HK2 := Lib.hid (HK1.out.trans hk2 (by simp))
      clear hk2
      go_wp2_with fail
      go_ret
      exact ⟨rfl, HK2.out.below (Nat.le_refl _) (by simp)⟩

end Go.Proofs.Ytnjfiaceldkfkaa
