/-
  Layer 4: the law TxPlays, walked.
-/
import Derived.Test.YtgbmjahjgmcdjaaTxL3
import Derived.Deep.RegionHeld3
namespace Go.Proofs.Ytgbmjahjgmcdjaa
open Go.RowKit

set_option maxRecDepth 100000 in
set_option maxHeartbeats 8000000 in
theorem txPlays_at {w : World} {vw vl : Value} {gW : Nat} {ws : List Int} {l : List TOp} (hw : Reads w vw gW (u64s ws)) (hl : TOps w vl l) :
    Calls Try.prog 3 #[vw, vl] w fun e w' => e = .returned (.bool true) ∧ Below w.heap.size w w' := by
  obtain ⟨i0, hi, hz0, hz1, hz2⟩ := info_parts Try.info_pair
  have HW := Lib.hid hw
  have HL := Lib.hid hl
  obtain ⟨av, cv, rfl, hm⟩ := hl.val
  obtain ⟨aw, cw, rfl, hwm⟩ := hw.val
  rw [u64s_len] at hwm HW ⊢
  unfold maxLen at hm hwm
  clear hl hw
  go_enter Try.func3, Try.ntmps3
  go_wp2_with fail
  refine (txAwake_at w).mono ?_
  rintro e w1 ⟨rfl, hk1⟩
  have HK1 := Lib.hid hk1
  clear hk1
  rcases (show 100 < ws.length ∨ (ws.length ≤ 100 ∧ 100 < l.length) ∨ (ws.length ≤ 100 ∧ l.length ≤ 100) by omega) with h1 | ⟨h1, h2⟩ | ⟨h1, h2⟩
  · have d1 : decide ((100 : Int) < (ws.length : Int)) = true := by simp; omega
    go_wp2_with fail
    refine (txAwake_at w1).mono ?_
    rintro e w2 ⟨rfl, hk2⟩
    have HK2 := Lib.hid (HK1.out.trans hk2 (by simp))
    clear hk2
    go_wp2_with fail
    go_ret
    exact ⟨rfl, HK2.out.below (Nat.le_refl _) (by simp)⟩
  · have d1 : decide ((100 : Int) < (ws.length : Int)) = false := by simp; omega
    have d2 : decide ((100 : Int) < (l.length : Int)) = true := by simp; omega
    go_wp2_with fail
    refine (txAwake_at w1).mono ?_
    rintro e w2 ⟨rfl, hk2⟩
    have HK2 := Lib.hid (HK1.out.trans hk2 (by simp))
    clear hk2
    go_wp2_with fail
    go_ret
    exact ⟨rfl, HK2.out.below (Nat.le_refl _) (by simp)⟩
  · have d1 : decide ((100 : Int) < (ws.length : Int)) = false := by simp; omega
    have d2 : decide ((100 : Int) < (l.length : Int)) = false := by simp; omega
    go_wp2_with fail
    refine (txNew_at (HW.out.keep HK1.out (by simp))).mono ?_
    rintro e w2 ⟨b, rfl, hlo, hs, hk2⟩
    have HI : Hid (TInv w w2 b b 0 ws [] (.slice none 0 0) 0) := by
      have := HK1.out.size
      exact ⟨hs, PReads.nil _ _, HK1.out.trans hk2 (by simp), ⟨by omega, by omega, hs.raw.lt⟩, fun h => absurd rfl h, by simp⟩
    clear hlo hs hk2 HK1 d1 d2
    go_wp2_with fail
    go_loopg [6, 7] l.length (fun gh s6 s7 wx => ∃ (j gp gq : Nat) (ps : List (Int × Int)), j + gh = l.length ∧ s7 = .int .i64 (j : Int) ∧ Hid (TInv w wx b gp gq ws ps s6 j))
    case atStart => exact ⟨0, b, 0, [], by omega, rfl, HI.out⟩
    case round =>
      obtain ⟨j, gp, gq, ps, hjg, rfl, HE⟩ := hrel
      clear HI
      cases gk with
      | zero =>
        have hj : ¬ (j : Int) < (l.length : Int) := by omega
        have HLP := Lib.hid (txLawPairs_at HE.out.sh (HW.out.keep HE.out.kp (by simp)) HE.out.pr)
        obtain ⟨aq, cq, hvq, -, -⟩ := HE.out.pr.val
        subst hvq
        go_wp2_with fail
        refine HLP.out.mono ?_
        rintro e w3 ⟨rfl, hk3⟩
        have HK3 := Lib.hid (HE.out.kp.trans hk3 (by simp))
        clear hk3
        go_wp2_with fail
        go_ret
        exact ⟨rfl, HK3.out.below (Nat.le_refl _) (by simp)⟩
      | succ gg =>
        have hj : (j : Int) < (l.length : Int) := by omega
        have hj0 : (0 : Int) ≤ (j : Int) := by omega
        have hj' : j < l.length := by omega
        obtain ⟨g1, off, rfl, hok, hld⟩ := (HL.out.keep HE.out.kp).get hj'
        have HLD := Lib.hid hld
        clear hld
        generalize l[j] = o at *
        obtain ⟨⟨kb0, kb1⟩, ⟨ib0, ib1⟩, xb0, xb1⟩ := hok
        obtain ⟨w2', HST, HB2, HK2⟩ : ∃ w2, Hid ((storeVar 30 ⟨wr.heap.size, 0, none⟩ (.agg (topCells o).toArray)).run Try.prog (wr.alloc (.cells #[.int .u8 0, .int .i64 0, .int .u64 0] 30)) = .ok () w2) ∧
            Hid (Blk w2 wr.heap.size (topCells o).toArray 30) ∧ Hid (Keeps [] wr w2) := by
          have hb := Blk.new wr #[.int .u8 0, .int .i64 0, .int .u64 0] 30
          refine ⟨_, run_storeVar_cells wr.heap.size 0 (topCells o) _ (by kernel_rfl) hb (by simp [topCells]) (by intro v hv; simp only [topCells, List.mem_cons, List.not_mem_nil, or_false] at hv; rcases hv with rfl | rfl | rfl <;> rfl), ?_, ?_⟩
          · exact setRow_heap _ wr.heap.size _ (topCells o).toArray _ _ hb
          · exact ((Keeps.refl _ _).alloc _).setRow (.inr (Nat.le_refl _)) _
        have HE2 := Lib.hid (HE.out.keep HK2.out)
        obtain ⟨aq, cq, hvq, e1, e2⟩ := HE.out.pr.val
        subst hvq
        unfold maxLen at e2
        have hpl := HE.out.n
        have q0 : w2'.cell? ⟨wr.heap.size, 0, none⟩ = some (.int .u8 o.kind) := by rw [Blk.cell HB2.out]; rfl
        have q1 : w2'.cell? ⟨wr.heap.size, 1, none⟩ = some (.int .i64 o.i) := by rw [Blk.cell HB2.out]; rfl
        have q2 : w2'.cell? ⟨wr.heap.size, 2, none⟩ = some (.int .u64 o.x) := by rw [Blk.cell HB2.out]; rfl
        have hbw : b < wr.heap.size := HE.out.sh.raw.lt
        have hgw : gp < wr.heap.size := HE.out.lo.2.2
        generalize o.kind = kind at *
        rcases (show kind % 3 = 0 ∨ kind % 3 = 1 ∨ kind % 3 = 2 by omega) with hk | hk | hk
        · have D1 : Hid (∀ n, Calls Try.prog 7 #[.pointer (some ⟨b, 0, none⟩), .int .i64 o.i] (w2'.drewN n) fun e w'' => e = .returned (.int .u64 (getN (padW ws) ps o.i)) ∧ ∃ m, w'' = w2'.drewN m) :=
            fun n => (txGet_at (HE2.out.sh.keep ((Keeps.refl [] w2').drewN n) (by simp) (by simp)) o.i).mono fun _ _ ⟨he, hm⟩ => ⟨he, n, hm.symm⟩
          have D2 : Hid (∀ n, Calls Try.prog 8 #[.slice aw ws.length cw, .slice aq ps.length cq, .int .i64 o.i] (w2'.drewN n) fun e w'' => e = .returned (.int .u64 (getN (padW ws) ps o.i)) ∧ ∃ m, w'' = w2'.drewN m) :=
            fun n => (txRefGet_at ((HW.out.keep HE2.out.kp (by simp)).keep ((Keeps.refl [] w2').drewN n) (by simp)) (HE2.out.pr.keep ((Keeps.refl [] w2').drewN n) (by simp)) HE2.out.sh.inp o.i).mono fun _ _ ⟨he, hm⟩ => ⟨he, n, hm.symm⟩
          generalize getN (padW ws) ps o.i = z at *
          have n1 : (z != z) = false := by simp
          go_wp2_with (first | ((with_reducible show wpList _ _ _ (⟨_, .load 30 (.tmp 32), _, _, _, _⟩ :: _) _ _); refine wpList_load_any rfl 30 (.tmp 32) rfl _ rfl _ HLD.out ?_) | ((with_reducible show wpList _ _ _ (⟨_, .store 30 (.tmp 8) (.tmp 33), _, _, _, _⟩ :: _) _ _); refine wpList_store_any rfl 30 (.tmp 8) (.tmp 33) rfl _ rfl _ rfl _ HST.out ?_))
          go_quiet ((first | (go_at_call 7; exact D1.out _) | (go_at_call 8; exact D2.out _)))
          -- TAIL0
          go_wp2_with fail
          refine (txMark_at (HE2.out.sh.keep ((Keeps.refl [] w2').drewN _) (by simp) (by simp))).mono ?_
          rintro e w' ⟨rfl, rfl⟩
          have n2 : ((ps.length : Int) != (ps.length : Int)) = false := by simp
          have n3 : (ps.length != ps.length) = false := by simp
          go_wp2_with fail
          go_roundg gg
          case measure => omega
          case rel => exact ⟨j + 1, gp, gq, ps, by omega, by go_num, (HE2.out.keep ((Keeps.refl [] w2').drewN _)).succ⟩
        · go_wp2_with (first | ((with_reducible show wpList _ _ _ (⟨_, .load 30 (.tmp 32), _, _, _, _⟩ :: _) _ _); refine wpList_load_any rfl 30 (.tmp 32) rfl _ rfl _ HLD.out ?_) | ((with_reducible show wpList _ _ _ (⟨_, .store 30 (.tmp 8) (.tmp 33), _, _, _, _⟩ :: _) _ _); refine wpList_store_any rfl 30 (.tmp 8) (.tmp 33) rfl _ rfl _ rfl _ HST.out ?_))
          refine (txPut_at HE2.out.sh (by omega) o.i o.x).mono ?_
          rintro e w3 ⟨rfl, gp', hg', hs3, hk3⟩
          obtain ⟨t1, t2, ⟨t3, t4, t5⟩, t6, t7⟩ := HE2.out.put hg' hs3 hk3
          have hsz2 := HK2.out.size
          have hb3 : Blk w3 wr.heap.size (topCells o).toArray 30 := Blk.keep HB2.out hk3 (by simp only [List.mem_cons, List.not_mem_nil, or_false]; omega)
          have r1 : w3.cell? ⟨wr.heap.size, 1, none⟩ = some (.int .i64 o.i) := by rw [hb3.cell]; rfl
          have r2 : w3.cell? ⟨wr.heap.size, 2, none⟩ = some (.int .u64 o.x) := by rw [hb3.cell]; rfl
          have hw3 := hb3.lt
          have T1 := Lib.hid t1
          have T2 := Lib.hid t2
          have T7 := Lib.hid t7
          have HS3 := Lib.hid hs3
          clear t1 t2 t7 hs3 hk3 hg' hb3 HST HLD q0 q1 q2 HE HB2 HK2
          by_cases hin : 0 ≤ o.i ∧ o.i < 3128
          · obtain ⟨i0', i1'⟩ := hin
            rw [putN, if_pos (inB_iff.2 ⟨i0', i1'⟩)] at HS3
            generalize o.x = x at *
            generalize o.i = i at *
            obtain ⟨q, rfl⟩ := Int.eq_ofNat_of_zero_le i0'
            go_wp2_with fail
            go_region_held3 (fun w' => w'.cell? ⟨wr.heap.size, 1, none⟩ = some (.int .i64 (q : Int)) ∧ w'.cell? ⟨wr.heap.size, 2, none⟩ = some (.int .u64 x)) (first | go_keep | (go_split_ands; refine ⟨?_, ?_⟩ <;> first | exact hg10.cell (by assumption) (fun e10 => by have e11 := ownsRow_block ho9 _ e10.symm; simp at e11; omega) | exact hg9.cell (by assumption) (by simp [Value.ownBlock]; omega))) (first | (refine step_append_pairs rfl (.tmp 79) (.tmp 85) 27 35 rfl i0 Try.underlying27 hi hz0 hz1 hz2 w3.heap.size (0 + ps.length) v9 ([] ++ pcells ps) (by rfl) (.slice (some ⟨w9.heap.size, 0, none⟩) 1 1) (by rfl) (w9.heap.size) [((q : Int), x)] ?ln ?own ?rd ?bs ?_; (case own => exact ho9.alloc _); (case ln => (simp; omega)); (case rd => exact preads_one (Blk.new w9 _ _)); (case bs => (first | (simp; done) | (simp; omega) | omega)); intro v10 w10 ho10 hg10) | (refine step_append_pairs rfl (.tmp 79) (.tmp 85) 27 35 rfl i0 Try.underlying27 hi hz0 hz1 hz2 w3.heap.size (0 + ps.length) v9 ([] ++ pcells ps) (by rfl) (.slice (some ⟨w3.heap.size + 1, 0, none⟩) 1 1) (by rfl) (w3.heap.size + 1) [((q : Int), x)] ?ln ?own ?rd ?bs ?_; (case own => exact ho9); (case ln => (simp; omega)); (case rd => (have hbn := Blk.new (w3.alloc (.cells #[] 35)) #[.int .i64 (q : Int), .int .u64 x] 35); (simp only [World.size_alloc] at hbn); exact preads_one (Blk.grown (w := ((w3.alloc _).alloc _).drew) hbn hg9 (by simp [Value.ownBlock]))); (case bs => (first | (simp; done) | (simp; omega) | omega)); intro v10 w10 ho10 hg10) | (refine step_append_pairs rfl (.tmp 79) (.tmp 85) 27 35 rfl i0 Try.underlying27 hi hz0 hz1 hz2 w3.heap.size (0 + ps.length) v9 ([] ++ pcells ps) (by rfl) (.slice (some ⟨w3.heap.size, 0, none⟩) 1 1) (by rfl) (w3.heap.size) [((q : Int), x)] ?ln ?own ?rd ?bs ?_; (case own => exact ho9); (case ln => (simp; omega)); (case rd => exact preads_one (Blk.grown (w := ((w3.alloc _).alloc _).drew) ((Blk.new w3 _ _).alloc _) hg9 (by simp [Value.ownBlock]))); (case bs => (first | (simp; done) | (simp; omega) | omega)); intro v10 w10 ho10 hg10) | (refine step_append_pairs rfl (.tmp 77) (.tmp 78) 27 35 rfl i0 Try.underlying27 hi hz0 hz1 hz2 w3.heap.size 0 (.slice (some ⟨w3.heap.size + 1, 0, none⟩) 0 0) [] (by rfl) (.slice aq ps.length cq) (by rfl) gq ps (by omega) ?own ?rd ?bs ?_; (case own => (have hmd := World.ownsRow_made (base := w3.heap.size) (e := 35) (size := 2) (w3.alloc (.cells #[.int .i64 (q : Int), .int .u64 x] 35)) #[] 0 (by simp) (by simp [maxLen]) (by simp)); (simp only [World.size_alloc] at hmd); exact hmd.drew); (case rd => exact T1.out.keep (l := []) (by first | exact ((Keeps.refl _ _).alloc _).drew | exact (((Keeps.refl _ _).alloc _).alloc _).drew) (by simp)); (case bs => (first | (simp; done) | (simp; omega))); intro v9 w9 ho9 hg9; (have hbs9 := hg9.size); (simp at hbs9)) | (refine step_append_pairs rfl (.tmp 77) (.tmp 78) 27 35 rfl i0 Try.underlying27 hi hz0 hz1 hz2 w3.heap.size 0 (.slice (some ⟨w3.heap.size, 0, none⟩) 0 0) [] (by rfl) (.slice aq ps.length cq) (by rfl) gq ps (by omega) ?own ?rd ?bs ?_; (case own => first | exact (World.ownsRow_made w3 #[] 0 (Nat.le_refl _) (by simp [maxLen]) (by simp)).drew | exact (World.ownsRow.alloc (World.ownsRow_made w3 #[] 0 (Nat.le_refl _) (by simp [maxLen]) (by simp)) _).drew); (case rd => exact T1.out.keep (l := []) (by first | exact ((Keeps.refl _ _).alloc _).drew | exact (((Keeps.refl _ _).alloc _).alloc _).drew) (by simp)); (case bs => (first | (simp; done) | (simp; omega))); intro v9 w9 ho9 hg9; (have hbs9 := hg9.size); (simp at hbs9)))
            all_goals
              have k9 : Keeps [] w3 w9 := Keeps.grown (by first | exact ((Keeps.refl _ _).alloc _).drew | exact (((Keeps.refl _ _).alloc _).alloc _).drew) hg9 (by intro k hk; simp [Value.ownBlock] at hk; omega)
              have k10 : Keeps [] w3 w10 := Keeps.grown (by first | exact k9 | exact k9.alloc _) hg10 (ownsRow_block ho9)
              obtain ⟨gq', hinv⟩ := TInv.grown HS3.out T2.out ⟨t3, t4, t5⟩ t6 k10 ho10 hpl
              have HINV := Lib.hid hinv
              obtain ⟨a10, c10, hv10, z1, z2⟩ := hinv.pr.val
              clear k9 k10 hinv ho9 hg9 ho10 hg10 hbs9 T1 T2 T7 HS3 r1 r2
              subst hv10
              generalize ps ++ [((q : Int), x)] = qs at *
              unfold maxLen at z2
              go_wp2_with fail
              refine (txMark_at HINV.out.sh).mono ?_
              rintro e w' ⟨rfl, rfl⟩
              have n2 : (((qs).length : Int) != ((qs).length : Int)) = false := by simp
              have n3 : ((qs).length != (qs).length) = false := by simp
              go_wp2_with fail
              go_roundg gg
              case measure => omega
              case rel => exact ⟨j + 1, gp', gq', qs, by omega, by go_num, HINV.out⟩
          · rw [putN, if_neg (fun e => hin (inB_iff.1 e))] at HS3
            have HINV : Hid (TInv w w3 b gp' gq ws ps (.slice aq ps.length cq) (j + 1)) := ⟨HS3.out, T1.out, T2.out, ⟨t3, t4, t5⟩, T7.out, by omega⟩
            rcases (show o.i < 0 ∨ 3128 ≤ o.i by omega) with hi1 | hi1
            · have d1 : ¬ 0 ≤ o.i := by omega
              clear hin HS3 T1 T2 T7
              generalize o.i = i at *
              go_wp2_with fail
              refine (txMark_at HINV.out.sh).mono ?_
              rintro e w' ⟨rfl, rfl⟩
              have n2 : (((ps).length : Int) != ((ps).length : Int)) = false := by simp
              have n3 : ((ps).length != (ps).length) = false := by simp
              go_wp2_with fail
              go_roundg gg
              case measure => omega
              case rel => exact ⟨j + 1, gp', gq, ps, by omega, by go_num, HINV.out⟩
            · have d1 : 0 ≤ o.i := by omega
              have d2 : ¬ o.i < 3128 := by omega
              clear hin HS3 T1 T2 T7
              generalize o.i = i at *
              go_wp2_with fail
              refine (txMark_at HINV.out.sh).mono ?_
              rintro e w' ⟨rfl, rfl⟩
              have n2 : (((ps).length : Int) != ((ps).length : Int)) = false := by simp
              have n3 : ((ps).length != (ps).length) = false := by simp
              go_wp2_with fail
              go_roundg gg
              case measure => omega
              case rel => exact ⟨j + 1, gp', gq, ps, by omega, by go_num, HINV.out⟩
        · go_wp2_with (first | ((with_reducible show wpList _ _ _ (⟨_, .load 30 (.tmp 32), _, _, _, _⟩ :: _) _ _); refine wpList_load_any rfl 30 (.tmp 32) rfl _ rfl _ HLD.out ?_) | ((with_reducible show wpList _ _ _ (⟨_, .store 30 (.tmp 8) (.tmp 33), _, _, _, _⟩ :: _) _ _); refine wpList_store_any rfl 30 (.tmp 8) (.tmp 33) rfl _ rfl _ rfl _ HST.out ?_))
          refine (txBack_at HE2.out.sh o.i).mono ?_
          rintro e w3 ⟨rfl, hs3, hk3⟩
          have hsz2 := HK2.out.size
          have hb3 : Blk w3 wr.heap.size (topCells o).toArray 30 := Blk.keep HB2.out hk3 (by simp only [List.mem_cons, List.not_mem_nil, or_false]; omega)
          have r1 : w3.cell? ⟨wr.heap.size, 1, none⟩ = some (.int .i64 o.i) := by rw [hb3.cell]; rfl
          have hm := backN_le o.i ps.length
          have hmm := backN_int o.i ps.length
          have HINV := Lib.hid (HE2.out.back hm hs3 hk3)
          have HTL : Hid ((ps.take (backN o.i ps.length)).length = backN o.i ps.length) := by show List.length _ = _; rw [List.length_take, Nat.min_eq_left hm]
          generalize backN o.i ps.length = q at *
          generalize o.i = i at *
          generalize ps.take q = qs at *
          have hcase : (i < 0 ∧ q = 0) ∨ (0 ≤ i ∧ i ≤ (ps.length : Int) ∧ i = (q : Int)) ∨ ((ps.length : Int) < i ∧ 0 ≤ i ∧ q = ps.length) := by omega
          clear hmm hs3 hk3 hb3 HST HLD q0 q1 q2 HE HE2 HB2 HK2
          rcases hcase with ⟨k1, rfl⟩ | ⟨k1, k2, rfl⟩ | ⟨k1, k2, rfl⟩
          all_goals
            go_wp2_with fail
            refine (txMark_at HINV.out.sh).mono ?_
            rintro e w' ⟨rfl, rfl⟩
            rw [HTL.out]
            try rw [Int.natCast_zero]
          · go_wp2_with fail
            go_roundg gg
            case measure => omega
            case rel => exact ⟨j + 1, gp, gq, qs, by omega, by go_num, HINV.out⟩
          · have n2 : ((q : Int) != (q : Int)) = false := by simp
            have n3 : (q != q) = false := by simp
            go_wp2_with fail
            go_roundg gg
            case measure => omega
            case rel => exact ⟨j + 1, gp, gq, qs, by omega, by go_num, HINV.out⟩
          · have n2 : ((ps.length : Int) != (ps.length : Int)) = false := by simp
            have n3 : (ps.length != ps.length) = false := by simp
            go_wp2_with fail
            go_roundg gg
            case measure => omega
            case rel => exact ⟨j + 1, gp, gq, qs, by omega, by go_num, HINV.out⟩

end Go.Proofs.Ytgbmjahjgmcdjaa
