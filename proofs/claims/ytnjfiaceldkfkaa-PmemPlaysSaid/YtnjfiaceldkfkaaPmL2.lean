/-
  Layer 1: the law PmemLasts, walked.
-/
import Derived.Test.YtnjfiaceldkfkaaOps
import Derived.Test.YtnjfiaceldkfkaaPmL1
namespace Go.Proofs.Ytnjfiaceldkfkaa
open Go.RowKit

theorem Reads.anyG {w : World} {v : Value} {g : Nat} {xs : List Value} (h : Reads w v g xs) (hx : xs = []) (g' : Nat) : Reads w v g' xs := by
  obtain ⟨a, cap, h1, h2, h3, h4⟩ := h
  exact ⟨a, cap, h1, h2, h3, fun h => absurd hx h⟩

theorem crash_at' {w : World} {b gn gl gf : Nat} {s : PmS} (h : PmAt w b gn gl gf s) {v : Value} {g : Nat} {ks : List Int} (hr : Reads w v g (u8s ks)) (hb : ∀ j, 0 ≤ ks.getD j 0 ∧ ks.getD j 0 ≤ 255)
    (hgd : ks ≠ [] → g ∉ [b, gn, gl, gf]) :
    Calls Try.prog 13 #[.pointer (some ⟨b, 0, none⟩), v] w fun e w' => e = .returned (.tuple #[]) ∧ PmAt w' b gn gl gf (s.crash ks) ∧ Keeps [b, gn, gl, gf] w w' := by
  by_cases hk : ks = []
  · subst hk
    exact crash_at h (hr.anyG rfl (b + gn + gl + gf + 1)) hb (by simp; omega)
  · exact crash_at h hr hb (hgd hk)

theorem dirtyN_self : ∀ l : List Int, dirtyN l l = 0
  | [] => rfl
  | a :: l => by simp [dirtyN, dirtyN_self l]

theorem PmS.crash_dirty (s : PmS) (ks : List Int) : (s.crash ks).dirtyN = 0 := dirtyN_self _

/-- What the law carries: the word at k lasts. -/
structure Lasting (s : PmS) (k : Nat) (x : Int) (m : Nat) : Prop where
  len : s.now.length = 100
  ll : s.last.length = 100
  now : s.now.getD k 0 = x
  last : s.last.getD k 0 = x
  fused : s.fused = false
  left : s.left = 0
  deeds : 0 ≤ s.deeds ∧ s.deeds ≤ m

theorem Lasting.fit {s : PmS} {k : Nat} {x : Int} {m : Nat} (h : Lasting s k x m) (hm : m ≤ 10000) : s.fit := by
  have := h.deeds
  have := h.left
  exact ⟨by omega, by omega, by omega, by omega⟩

theorem Lasting.store {s : PmS} {k : Nat} {x : Int} {m : Nat} (h : Lasting s k x m) (i y : Int) (hi : i ≠ k) : Lasting (s.store i y) k x (m + 1) := by
  obtain ⟨h1, h2, h3, h4, h5, h6, h7⟩ := h
  unfold PmS.store
  split
  · rename_i hr
    obtain ⟨-, i0, i1⟩ := PmS.refusal_ok hr
    refine ⟨by simpa using h1, by simpa [PmS.count] using h2, ?_, by simpa [PmS.count] using h4, by simpa [PmS.count] using h5, by simp [PmS.count, h5, h6], by simp [PmS.count]; omega⟩
    have hne : i.toNat ≠ k := by omega
    simp only [List.getD_eq_getElem?_getD, List.getElem?_set_ne hne]
    simpa [List.getD_eq_getElem?_getD] using h3
  · exact ⟨h1, h2, h3, h4, h5, h6, by omega, by omega⟩

theorem fresh_refusal (n : Nat) (k : Nat) (hk : k < n) : (PmS.fresh (List.replicate n 0)).refusal k = 0 := by
  rw [refusal_new _ rfl, if_neg]
  simp [PmS.fresh]
  omega

theorem Lasting.start (k : Nat) (hk : k < 100) (x : Int) : Lasting ((((PmS.fresh (List.replicate 100 0)).store k x).flush k).fence) k x 3 ∧
    ((PmS.fresh (List.replicate 100 0)).store k x).fit ∧ (((PmS.fresh (List.replicate 100 0)).store k x).flush k).fit := by
  have e1 : (PmS.fresh (List.replicate 100 0)).store k x = { now := (List.replicate 100 0).set k x, last := List.replicate 100 0, fl := (List.replicate 104 false).set k false, deeds := 1, fused := false, left := 0 } := by
    rw [PmS.store, if_pos (fresh_refusal 100 k hk)]
    simp [PmS.fresh, PmS.count]
  have e2 : ((PmS.fresh (List.replicate 100 0)).store k x).flush k = { now := (List.replicate 100 0).set k x, last := List.replicate 100 0, fl := flTo ((List.replicate 104 false).set k false) (k / 8) 8, deeds := 2, fused := false, left := 0 } := by
    rw [e1, PmS.flush, if_pos]
    · simp [PmS.count]
    · rw [refusal_new _ rfl, if_neg]
      simp
      omega
  rw [e2]
  refine ⟨?_, by rw [e1]; simp [PmS.fit], by simp [PmS.fit]⟩
  rw [PmS.fence, if_neg (by simp [PmS.gone])]
  have hf : (flTo ((List.replicate 104 false).set k false) (k / 8) 8).getD k false = true := by
    rw [List.getD_eq_getElem?_getD, flTo, List.getElem?_mapIdx, List.getElem?_eq_getElem (by simp; omega)]
    simp only [Option.map_some, Option.getD_some]
    rw [if_pos (by omega)]
  refine ⟨by simp [PmS.count], by simp [fenceTo_len], ?_, ?_, rfl, rfl, by simp [PmS.count]⟩
  · simp only [PmS.count]
    rw [List.getD_eq_getElem?_getD, List.getElem?_set_self (by simpa using hk)]
    rfl
  · simp only [fenceTo]
    rw [List.getD_eq_getElem?_getD, List.getElem?_mapIdx, List.getElem?_eq_getElem (by simpa using hk)]
    simp only [Option.map_some, Option.getD_some]
    rw [if_pos ⟨by simpa using hk, hf⟩, List.getD_eq_getElem?_getD, List.getElem?_set_self (by simpa using hk)]
    rfl

set_option maxHeartbeats 1000000 in
theorem lasts_at {w : World} {vl : Value} {o : OpR} {l : List OpR} (ho : OpOk w o) (hl : OpsAt w vl l) :
    Calls Try.prog 5 #[.agg #[.int .u8 o.kind, .int .i64 o.i, .int .i64 o.n, .int .u64 o.w, o.kv], vl] w fun e w' => e = .returned (.bool true) ∧ Below w.heap.size w w' := by
  obtain ⟨av, cv, rfl, hm⟩ := hl.val
  obtain ⟨ak, ck, hkv, hkm⟩ := ho.reads.val
  rw [u8s_len] at hkv hkm
  have HO := Lib.hid ho
  have HL := Lib.hid hl
  unfold maxLen at hm hkm
  obtain ⟨i1, i2⟩ := ho.n
  rw [hkv]
  have HKV := Lib.hid hkv
  clear ho hl hkv
  go_enter Try.func5, Try.ntmps5
  go_wp2_with fail
  go_quiet (fail)
  go_wp2_with fail
  have HK0 : Hid (Keeps [] w ((w.alloc (.cells #[.int .u8 o.kind, .int .i64 o.i, .int .i64 o.n, .int .u64 o.w, .slice ak o.ks.length ck] 33)).drewN nq)) := ((Keeps.refl _ _).alloc _).drewN _
  generalize ((w.alloc (.cells #[.int .u8 o.kind, .int .i64 o.i, .int .i64 o.n, .int .u64 o.w, .slice ak o.ks.length ck] 33)).drewN nq) = w0 at *
  refine (awake_at w0).mono ?_
  rintro e w1 ⟨rfl, hk1⟩
  have HK1 := Lib.hid (HK0.out.trans hk1 (by simp))
  clear HK0 hk1
  go_wp2_with fail
  refine (few_at (HL.out.keep (HK1.out.below (Nat.le_refl _) (by simp))) 60 (by omega)).mono ?_
  rintro e w' ⟨rfl, rfl⟩
  cases hfew : fewB l 60
  · have hd : (100 : Int) < 100 → False := by omega
    go_wp2_with fail
    refine (awake_at w1).mono ?_
    rintro e w2 ⟨rfl, hk2⟩
    have HK2 := Lib.hid (HK1.out.trans hk2 (by simp))
    clear hk2
    go_wp2_with fail
    go_ret
    exact ⟨rfl, HK2.out.below (Nat.le_refl _) (by simp)⟩
  · obtain ⟨f1, f2⟩ := fewB_true hfew (by omega)
    have F2 := Lib.hid f2
    clear f2 hfew
    by_cases hlen : o.ks.length ≤ 100
    · have hd : decide ((100 : Int) < (o.ks.length : Int)) = false := by simp; omega
      have hmod : 0 ≤ o.n % 256 ∧ o.n % 256 < 256 := by omega
      generalize o.n % 256 = mm at *
      obtain ⟨m1, m2⟩ := hmod
      obtain ⟨k, hk⟩ : ∃ k : Nat, mm % 100 = (k : Int) := ⟨(mm % 100).toNat, by omega⟩
      have hk100 : k < 100 := by omega
      obtain ⟨t1, t2, t3⟩ := Lasting.start k hk100 o.w
      have T1 := Lib.hid t1
      have T2 := Lib.hid t2
      have T3 := Lib.hid t3
      clear t1 t2 t3
      have HN := Lib.hid (new_at w1 100)
      go_wp2_with fail
      refine HN.out.mono ?_
      rintro e w2 ⟨b, gn, gl, gf, rfl, hp, hlo, hk2⟩
      have HP : Hid (PmAt w2 b gn gl gf (PmS.fresh (List.replicate 100 0))) := hp
      have HLO : Hid (∀ x, x ∈ [b, gn, gl, gf] → x ∈ ([] : List Nat) ∨ w.heap.size ≤ x) := by
        intro x hx
        have := HK1.out.size
        simp only [List.mem_cons, List.not_mem_nil, or_false] at hx
        omega
      have HK2 := Lib.hid (HK1.out.trans hk2 (by simp))
      clear hp hlo hk2 HK1
      have T0 := Lib.hid (PmS.fresh_fit (List.replicate 100 0))
      generalize PmS.fresh (List.replicate 100 0) = s0 at *
      go_wp2_with fail
      refine (store_at HP.out T0.out _ _).mono ?_
      rintro e w3 ⟨rfl, hp3, hk3⟩
      have HP3 := Lib.hid hp3
      have HK3 := Lib.hid (HK2.out.trans hk3 HLO.out)
      clear hp3 hk3 HP HK2
      go_wp2_with fail
      refine (flush_at HP3.out T2.out _).mono ?_
      rintro e w4 ⟨rfl, hp4, hk4⟩
      have HP4 := Lib.hid hp4
      have HK4 := Lib.hid (HK3.out.trans hk4 HLO.out)
      clear hp4 hk4 HP3 HK3
      go_wp2_with fail
      refine (fence_at HP4.out T3.out).mono ?_
      rintro e w5 ⟨rfl, hp5, hk5⟩
      have HP5 := Lib.hid hp5
      have HK5 := Lib.hid (HK4.out.trans hk5 HLO.out)
      clear hp5 hk5 HP4 HK4
      generalize ((s0.store k o.w).flush k).fence = s5 at *
      generalize ((s0.store k o.w).flush k).fenceE = r2 at *
      generalize (s0.store k o.w).refusal (k : Int) = r1 at *
      generalize s0.refusal (k : Int) = r0 at *
      go_wp2_with fail
      go_loopg [10] l.length (fun g i wx => ∃ (j : Nat) (s : PmS), j + g = l.length ∧ i = .int .i64 (j : Int) ∧ Hid (PmAt wx b gn gl gf s ∧ Lasting s k o.w (3 + j) ∧ Keeps [] w wx))
      case atStart => exact ⟨0, s5, by omega, rfl, HP5.out, T1.out, HK5.out⟩
      case round =>
        obtain ⟨j, s, hjg, rfl, HR⟩ := hrel
        cases gk with
        | zero =>
          have hj : ¬ (j : Int) < (l.length : Int) := by omega
          go_wp2_with fail
          have hr := HO.out.reads.keep HR.out.2.2 (by simp)
          rw [HKV.out] at hr
          refine (crash_at' HR.out.1 hr HO.out.bytes (fun hne hmem => ?_)).mono ?_
          · have h1 := HO.out.reads
            obtain ⟨_, _, _, _, _, h2⟩ := h1
            have := (h2 (by intro e; exact hne (by cases hks : o.ks <;> simp_all [u8s]))).1
            have := HLO.out _ hmem
            simp at this
            omega
          rintro e w6 ⟨rfl, hp6, hk6⟩
          have HP6 := Lib.hid hp6
          have HK6 := Lib.hid (HR.out.2.2.trans hk6 HLO.out)
          clear hp6 hk6 hr
          have h1 : Hid ((s.crash o.ks).refusal (k : Int) = 0) := by
            show (s.crash o.ks).refusal (k : Int) = 0
            rw [refusal_new _ rfl, if_neg]
            have : (s.crash o.ks).now.length = 100 := by rw [PmS.crash, crashM_len _ _ _ _ (by rw [HR.out.2.1.len, HR.out.2.1.ll]), HR.out.2.1.len]
            omega
          have h2 : Hid ((s.crash o.ks).load (k : Int) = o.w) := by
            show (s.crash o.ks).load (k : Int) = o.w
            rw [PmS.load, if_pos h1.out, Int.toNat_natCast, PmS.crash, crashM_get _ _ _ _ _ (by rw [HR.out.2.1.len, HR.out.2.1.ll]) (by rw [HR.out.2.1.len]; exact hk100), HR.out.2.1.now, HR.out.2.1.last, if_pos rfl]
          go_wp2_with fail
          refine (load_at HP6.out _).mono ?_
          rintro e w' ⟨rfl, rfl⟩
          rw [h1.out, h2.out]
          go_wp2_with fail
          refine (Dirty_at HP6.out).mono ?_
          rintro e w7 ⟨rfl, nd, rfl⟩
          rw [PmS.crash_dirty]
          go_wp2_with fail
          go_ret
          exact ⟨rfl, (HK6.out.drewN _).below (Nat.le_refl _) (by simp)⟩
        | succ g =>
          have hj : (j : Int) < (l.length : Int) := by omega
          obtain ⟨g1, off, cap1, hv, -, -, -, -, c1, -, c3, -⟩ := (HL.out.keep (HR.out.2.2.below (Nat.le_refl _) (by simp))).get (j := j) (by omega)
          cases hv
          generalize l[j].i = x at *
          generalize l[j].w = y at *
          by_cases hx : x = (k : Int)
          · subst hx
            go_wp2_with fail
            go_roundg g
            case measure => omega
            case rel =>
              refine ⟨j + 1, s, by omega, by go_num, HR.out.1, ?_, HR.out.2.2⟩
              obtain ⟨q1, q2, q3, q4, q5, q6, q7⟩ := HR.out.2.1
              exact ⟨q1, q2, q3, q4, q5, q6, by omega, by omega⟩
          · have hx2 : (x != (k : Int)) = true := by simpa using hx
            have HS := Lib.hid (fun (wz : World) (hz : PmAt wz b gn gl gf s) => store_at hz (HR.out.2.1.fit (by omega)) x y)
            have HX := Lib.hid hx
            clear hx
            go_wp2_with fail
            go_region_with (go_at_call 10; refine (HS.out _ HR.out.1.drew).mono ?_; rintro e w6 ⟨rfl, hp6, hk6⟩; (have HP6 := Lib.hid hp6); (have HK6 := Lib.hid hk6); clear hp6 hk6)
            all_goals
              go_wp2_with fail
              go_roundg g
              case measure => omega
              case rel => exact ⟨j + 1, _, by omega, by go_num, HP6.out, HR.out.2.1.store _ _ HX.out, HR.out.2.2.drew.trans HK6.out HLO.out⟩
    · have hd : (100 : Int) < (o.ks.length : Int) := by omega
      go_wp2_with fail
      refine (awake_at w1).mono ?_
      rintro e w2 ⟨rfl, hk2⟩
      have HK2 := Lib.hid (HK1.out.trans hk2 (by simp))
      clear hk2
      go_wp2_with fail
      go_ret
      exact ⟨rfl, HK2.out.below (Nat.le_refl _) (by simp)⟩

end Go.Proofs.Ytnjfiaceldkfkaa
