/-
  Layer 3: the law PlogStands, walked.
-/
import Derived.Test.YtopljfbgbiipiaaPlL1
import Derived.Test.YtopljfbgbiipiaaPlK
import Derived.IntWalk
import Derived.Deep.DeepCutAuto
namespace Go.Proofs.Ytopljfbgbiipiaa
open Go.RowKit

/-- The law's words, as they are bent. -/
structure Bent (w3 wx : World) (B : Nat) (X : List Int) : Prop where
  own : Owns wx (.slice (some ⟨B, 0, none⟩) 3128 3128) B 40 1 3128 (u64s X)
  len : X.length = 3128
  u : u64P X
  kept : Keeps [B] w3 wx

theorem u64P_set {X : List Int} (h : u64P X) (i : Nat) {x : Int} (h0 : 0 ≤ x) (h1 : x ≤ 18446744073709551615) : u64P (X.set i x) := fun y hy => by
  rcases List.mem_or_eq_of_mem_set hy with e | e
  · exact h y e
  · subst e; exact ⟨h0, h1⟩

theorem Bent.set {w3 wx : World} {B : Nat} {X : List Int} (h : Bent w3 wx B X) (i : Nat) {x : Int} (h0 : 0 ≤ x) (h1 : x ≤ 18446744073709551615) : Bent w3 (wx.setCell ⟨B, i, none⟩ (.int .u64 x)) B (X.set i x) :=
  ⟨h.own.set64 i x, by simp [h.len], u64P_set h.u i h0 h1, h.kept.setCell (by simp) _⟩

theorem Bent.drew {w3 wx : World} {B : Nat} {X : List Int} (h : Bent w3 wx B X) : Bent w3 wx.drew B X := ⟨h.own.drew, h.len, h.u, h.kept.drew⟩

theorem Bent.cell {w3 wx : World} {B : Nat} {X : List Int} (h : Bent w3 wx B X) {i : Nat} (hi : i < 3128) : wx.cell? ⟨B, i, none⟩ = some (.int .u64 (X.getD i 0)) ∧ wx.frozen? ⟨B, i, none⟩ = false :=
  (u64s_getO h.own h.len hi).2

theorem zerosN_u64 : u64P zerosN := fun x hx => by
  have := List.eq_of_mem_replicate hx
  omega

theorem xor_bd (a b : Int) : 0 ≤ bits .xor .u64 a b ∧ bits .xor .u64 a b ≤ 18446744073709551615 := by
  show 0 ≤ IntKind.u64.wrap _ ∧ IntKind.u64.wrap _ ≤ _
  rw [IntKind.wrap_u64]
  omega

/-- What Standing tells, in one form. -/
def StoodAny (w : World) (o : Option (List (Int × Int))) (e : Ending) (w' : World) : Prop :=
  ∃ a c g, e = .returned (.tuple #[.slice a (o.getD []).length c, .bool o.isSome, .int .i64 0]) ∧ PReads w' (.slice a (o.getD []).length c) g (o.getD []) ∧ Keeps [] w w'

def RStoodAny (w : World) (o : Option (List (Int × Int))) (e : Ending) (w' : World) : Prop :=
  ∃ a c g, e = .returned (.tuple #[.slice a (o.getD []).length c, .bool o.isSome]) ∧ PReads w' (.slice a (o.getD []).length c) g (o.getD []) ∧ w.heap.size ≤ g ∧ Keeps [] w w'

theorem PReads.nil (w : World) (g : Nat) : PReads w (.slice none 0 0) g [] := ⟨none, 0, rfl, by simp, by simp [maxLen], fun h => absurd rfl h⟩

theorem standing_any {w : World} {b gn gl gf : Nat} {xs : List Int} {d : Int} (h : PmAt w b gn gl gf (calm xs d)) (hx : xs.length = 3128) (hu : u64P xs) :
    Calls Try.prog 11 #[.pointer (some ⟨b, 0, none⟩)] w (StoodAny w (standN xs)) := by
  cases hs : standN xs with
  | none => exact (standing_none h hx hu hs).mono fun e w' ⟨he, hk⟩ => ⟨none, 0, 0, he, PReads.nil _ _, hk⟩
  | some ps =>
    refine (standing_some h hx hu hs).mono fun e w' ⟨v, g, he, hr, _, hk⟩ => ?_
    obtain ⟨a, cap, rfl, -, -⟩ := hr.val
    exact ⟨a, cap, g, he, hr, hk⟩

theorem refStands_any {w : World} {v : Value} {g : Nat} {xs : List Int} (h : Reads w v g (u64s xs)) (hx : xs.length = 3128) (hu : u64P xs) :
    Calls Try.prog 21 #[v] w (RStoodAny w (standN xs)) := by
  refine (refStands_at h hx hu).mono fun e w' hst => ?_
  rcases hst with ⟨ho, he, hk⟩ | ⟨ps, v, g, ho, he, hr, hg, hk⟩
  · rw [ho]
    exact ⟨none, 0, w.heap.size, he, PReads.nil _ _, Nat.le_refl _, hk⟩
  · rw [ho]
    obtain ⟨a, cap, rfl, -, -⟩ := hr.val
    exact ⟨a, cap, g, he, hr, hg, hk⟩

theorem replayX_any (xs : List Int) : replayX xs = carryX xs ((standN xs).getD []) := by
  unfold replayX
  cases standN xs <;> rfl

theorem standN_any (xs : List Int) : goodP ((standN xs).getD []) = true ∧ ((standN xs).getD []).length ≤ 400 := by
  cases hs : standN xs with
  | none => exact ⟨rfl, by simp⟩
  | some ps => exact standN_good hs

set_option maxRecDepth 100000 in
set_option maxHeartbeats 4000000 in
theorem stands_main {w : World} {va vb : Value} {ga gb : Nat} {pa pb : List (Int × Int)} (ha : PReads w va ga pa) (hb : PReads w vb gb pb) (oka : okP pa) (okb : okP pb) (mark : Nat) (hmark : mark < 256) (hla : pa.length ≤ 60) (hlb : pb.length ≤ 20) (hl0 : pa.length ≠ 0) :
    Calls Try.prog 5 #[va, vb, .int .u8 (mark : Int)] w fun e w' => e = .returned (.bool true) ∧ Below w.heap.size w w' := by
  have HW := Lib.hid awake_at
  have HA := Lib.hid ha
  have HB := Lib.hid hb
  have OKA := Lib.hid oka
  have OKB := Lib.hid okb
  obtain ⟨aa, ca, rfl, a1, a2⟩ := ha.val
  obtain ⟨ab, cb, rfl, b1, b2⟩ := hb.val
  unfold maxLen at a2 b2
  clear ha hb oka okb
  have hla1 : decide ((60 : Int) < (pa.length : Int)) = false := decide_eq_false (by omega)
  have hlb1 : decide ((20 : Int) < (pb.length : Int)) = false := decide_eq_false (by omega)
  have hl1 : ((pa.length : Int) == 0) = false := beq_eq_false_iff_ne.2 (by omega)
  have hl2 : (pa.length == 0) = false := beq_eq_false_iff_ne.2 hl0
  go_enter Try.func5, Try.ntmps5
  go_wp2_with fail
  refine (HW.out _).mono ?_; rintro e w1 ⟨rfl, hk1⟩
  have HK1 := Lib.hid hk1
  clear hk1
  go_wp2_with fail
  refine (places_at (HA.out.keep HK1.out (by simp)) OKA.out (by omega)).mono ?_
  rintro e w2 ⟨v2, g2, rfl, hr2, -, hk2⟩
  obtain ⟨aa2, ca2, rfl, z1, z2⟩ := hr2.val
  unfold maxLen at z2
  have HR2 := Lib.hid hr2
  have HK2 := Lib.hid (HK1.out.trans hk2 (by simp))
  have OKQ := Lib.hid (placesN_ok OKA.out)
  have hq6 : (placesN pa).length ≤ 60 := by rw [placesN_len]; exact hla
  clear hr2 hk2 HK1
  generalize placesN pa = qa at *
  obtain ⟨mc, hmk, hmo⟩ := make_zeros w2
  have HMO := Lib.hid hmo
  have HRM := Lib.hid (HR2.out.keep ((Keeps.refl [] w2).alloc (.cells mc 40)) (by simp))
  clear hmo
  go_wp2_with fail
  refine (refMark_at HRM.out OKQ.out (by omega)).mono ?_
  rintro e w3 ⟨rfl, hk3⟩
  have hlt2 : qa.length ≠ 0 → g2 < w2.heap.size := fun h => by
    obtain ⟨_, _, _, _, _, h4⟩ := HR2.out
    exact (h4 h).1
  have HR3 := Lib.hid (HRM.out.keep hk3 (by simp))
  have HK3 := Lib.hid ((HK2.out.alloc (.cells mc 40)).trans hk3 (by simp))
  have HG2 : Hid (qa.length ≠ 0 → g2 ∉ [w2.heap.size]) := fun h => by have := hlt2 h; simp; omega
  have HBE : Hid (Bent w3 w3 w2.heap.size zerosN) := ⟨HMO.out.keep hk3 (by simp), zerosN_len, zerosN_u64, Keeps.refl _ _⟩
  have hBw : w.heap.size ≤ w2.heap.size := HK2.out.size
  clear hk3 hmk hlt2
  generalize w2.heap.size = B at *
  have hmb : 0 ≤ markN (wordsN qa) ∧ markN (wordsN qa) ≤ 18446744073709551615 := by
    have := sumN_lt ((wordsN qa).map Int.toNat)
    rw [markN_words]
    omega
  generalize markN (wordsN qa) = mw at *
  have HB1 := Lib.hid (HBE.out.set 8 hmb.1 hmb.2)
  obtain ⟨c8, f8⟩ := HBE.out.cell (i := 8) (by omega)
  rw [zerosN_get] at c8
  clear HBE HMO HRM
  generalize zerosN.set 8 mw = X0 at *
  go_wp2_with fail
  go_loopg [8] qa.length (fun gh s8 wx => ∃ (k : Nat) (X : List Int), k + gh = qa.length ∧ s8 = .int .i64 (k : Int) ∧ Hid (Bent w3 wx B X))
  case atStart => exact ⟨0, X0, by omega, rfl, HB1.out⟩
  case round =>
    obtain ⟨k, X, hk, rfl, HR⟩ := hrel
    clear c8 f8 HB1
    cases gk with
    | succ gg =>
      have hlt : (k : Int) < (qa.length : Int) := by omega
      obtain ⟨hg, off, rfl, c0, c1⟩ := (HR3.out.keep HR.out.kept HG2.out).get (j := k) (by omega)
      have bb := okP_get OKQ.out (k := k) (by omega)
      generalize patN qa k = x at *
      generalize pwdN qa k = y at *
      have hwx : 0 ≤ IntKind.u64.wrap x ∧ IntKind.u64.wrap x ≤ 18446744073709551615 := by rw [IntKind.wrap_u64]; omega
      obtain ⟨d0, f0⟩ := HR.out.cell (i := 9 + 2 * k) (by omega)
      have HR1 := Lib.hid (HR.out.set (9 + 2 * k) hwx.1 hwx.2)
      obtain ⟨d1, f1⟩ := HR.out.cell (i := 10 + 2 * k) (by omega)
      have HRZ := Lib.hid (HR1.out.set (10 + 2 * k) bb.2.1 bb.2.2)
      have hgB : g2 ≠ B := by have := HG2.out (by omega); simpa using this
      have hne : 9 + 2 * k ≠ 10 + 2 * k := by omega
      generalize X.getD (9 + 2 * k) 0 = o1 at *
      generalize X.getD (10 + 2 * k) 0 = o2 at *
      clear HR HR1
      go_wp2_with fail
      go_roundg gg
      case measure => omega
      case rel => exact ⟨k + 1, _, by omega, by go_num, HRZ.out⟩
    | zero =>
      obtain rfl : k = qa.length := by omega
      have hlt : ¬ (qa.length : Int) < (qa.length : Int) := by omega
      have HKW : Hid (∀ wz, Keeps [B] w3 wz → Keeps [] w wz) := fun wz hz => HK3.out.trans hz (by intro x hx; simp at hx; omega)
      obtain ⟨wo, rfl⟩ : ∃ wo : World, wo = wr := ⟨_, rfl⟩
      go_wp2_with fail
      go_loopg [9] pb.length (fun gh s9 wx => ∃ (k : Nat) (X : List Int), k + gh = pb.length ∧ s9 = .int .i64 (k : Int) ∧ Hid (Bent w3 wx B X))
      case atStart => exact ⟨0, X, by omega, rfl, HR.out⟩
      case round =>
        clear HR hk hlt
        obtain ⟨k, X, hk, rfl, HR⟩ := hrel
        cases gk with
        | succ gg =>
          have hlt : (k : Int) < (pb.length : Int) := by omega
          have k0 : (0 : Int) ≤ (k : Int) := by omega
          obtain ⟨hg, off, rfl, c0, c1⟩ := (HB.out.keep (HKW.out _ HR.out.kept) (by simp)).get (j := k) (by omega)
          have hgb := (HB.out.get (j := k) (by omega)).1
          have bb := okP_get OKB.out (k := k) (by omega)
          generalize patN pb k = x at *
          generalize pwdN pb k = y at *
          obtain ⟨t1, t2, t3⟩ := tmod_bd x 830 (by omega)
          obtain ⟨r, e1⟩ : ∃ r, x.tmod 830 = r := ⟨_, rfl⟩
          rw [e1] at t1 t2 t3
          obtain ⟨m, e2⟩ : ∃ m : Nat, (r + 830) % 830 = (m : Int) := ⟨((r + 830) % 830).toNat, by omega⟩
          have m2 : (m : Int) < 3128 := by omega
          have m0 : (0 : Int) ≤ (m : Int) := by omega
          obtain ⟨d0, f0⟩ := HR.out.cell (i := m) (by omega)
          have HRZ := Lib.hid (HR.out.drew.set m bb.2.1 bb.2.2)
          have hgB : gb ≠ B := by omega
          generalize X.getD m 0 = o1 at *
          have e3 : (r + 830).tmod 830 = (m : Int) := by rw [Int.tmod_eq_emod_of_nonneg (by omega)]; exact e2
          have e4 : IntKind.i64.wrap (r + 830) = r + 830 := IntWalk.i64_in _ (by omega)
          clear HR t3 e2
          go_wp2_with fail
          go_still_tail 15, (by kernel_rfl)
          go_wp2_with fail
          go_roundg gg
          case measure => omega
          case rel => exact ⟨k + 1, _, by omega, by go_num, HRZ.out⟩
        | zero =>
          obtain rfl : k = pb.length := by omega
          have hlt : ¬ (pb.length : Int) < (pb.length : Int) := by omega
          go_upto_if 92 with fail
          go_cut [] (fun wx => ∃ X : List Int, Hid (Bent w3 wx B X))
          case first =>
            by_cases hm : mark % 4 = 1
            · have hm1 : (((mark : Int) % 4) == 1) = true := by simp; omega
              obtain ⟨c8, f8⟩ := HR.out.cell (i := 8) (by omega)
              have hc8 := u64P_get HR.out.u 8
              generalize X.getD 8 0 = c at *
              clear hm
              go_wp2_with fail
              go_meet
              exact ⟨_, HR.out.set 8 (xor_bd _ _).1 (xor_bd _ _).2⟩
            · have hm1 : (((mark : Int) % 4) == 1) = false := by simp; omega
              clear hm
              go_wp2_with fail
              go_meet
              exact ⟨X, HR.out⟩
          case rest =>
            clear HR
            obtain ⟨X, HR⟩ := hcut
            have HKC := Lib.hid (HKW.out _ HR.out.kept)
            have HX := Lib.hid HR.out.len
            have HU := Lib.hid HR.out.u
            have hrx := HR.out.own.reads
            go_wp2_with fail
            refine ((of_at hrx (by rw [HX.out]; omega)).mono fun _ _ h => NewPm.of h).mono ?_
            rintro e w5 ⟨b, gn, gl, gf, rfl, hp5, hlo, hk5⟩
            have HLO : Hid (∀ x, x ∈ [b, gn, gl, gf] → w.heap.size ≤ x) := fun x hx => Nat.le_trans HKC.out.size (hlo x hx)
            have HRX := Lib.hid (hrx.keep hk5 (by simp))
            have HBN : Hid (B ∉ [b, gn, gl, gf]) := fun hm => by
              have := hlo B hm
              have := (HR.out.own.cell (by omega)).1
              omega
            have HP5 := Lib.hid hp5
            have HK5 := Lib.hid (HKC.out.trans hk5 (by simp))
            clear hrx hp5 hlo hk5 HKC HR
            have hsg := standN_any X
            have HSG := Lib.hid hsg.1
            have hps := hsg.2
            clear hsg
            go_wp2_with fail
            refine (standing_any HP5.out HX.out HU.out).mono ?_
            rintro e w6 ⟨a6, c6, g6, rfl, hr6, hk6⟩
            have HP6 := Lib.hid (HP5.out.keep hk6 (by simp) (by simp))
            have HRX6 := Lib.hid (HRX.out.keep hk6 (by simp))
            have HR6 := Lib.hid hr6
            have HK6 := Lib.hid (HK5.out.trans hk6 (by simp))
            clear hr6 hk6 HP5 HRX HK5
            go_wp2_with fail
            refine (refStands_any HRX6.out HX.out HU.out).mono ?_
            rintro e w7 ⟨a7, c7, g7, rfl, hr7, hg7, hk7⟩
            have HGN : Hid (g7 ∉ [b, gn, gl, gf]) := fun hm => by
              have := HP6.out.old (by show X.length ≠ 0; rw [HX.out]; omega)
              simp only [List.mem_cons, List.not_mem_nil, or_false] at hm
              omega
            clear hg7
            have HP7 := Lib.hid (HP6.out.keep hk7 (by simp) (by simp))
            have HRX7 := Lib.hid (HRX6.out.keep hk7 (by simp))
            have HG7 := Lib.hid (HR6.out.keep hk7 (by simp))
            have HR7 := Lib.hid hr7
            have HK7 := Lib.hid (HK6.out.trans hk7 (by simp))
            obtain ⟨_, _, hv, z3, z4⟩ := HG7.out.val
            cases hv
            obtain ⟨_, _, hv, z5, z6⟩ := hr7.val
            cases hv
            unfold maxLen at z4 z6
            clear hr7 hk7 HP6 HRX6 HK6 HR6
            have HRP := replayX_any X
            generalize (standN X).isSome = bl at *
            generalize (standN X).getD [] = ps at *
            have HRP := Lib.hid HRP
            go_wp2_with fail
            obtain ⟨wo2, rfl⟩ : ∃ wo2 : World, wo2 = wr := ⟨_, rfl⟩
            go_loopg [16] ps.length (fun gh s16 wx => ∃ k m : Nat, k + gh = ps.length ∧ s16 = .int .i64 (k : Int) ∧ wx = w7.drewN m)
            case atStart => exact ⟨0, 0, by omega, rfl, rfl⟩
            case round =>
              clear hk hlt
              obtain ⟨k, m, hk, rfl, rfl⟩ := hrel
              cases gk with
              | succ gg =>
                have hlt : (k : Int) < (ps.length : Int) := by omega
                have k0 : (0 : Int) ≤ (k : Int) := by omega
                obtain ⟨-, off, rfl, c0, c1⟩ := HG7.out.get (j := k) (by omega)
                obtain ⟨-, off2, rfl, d0, d1⟩ := HR7.out.get (j := k) (by omega)
                generalize patN ps k = x at *
                generalize pwdN ps k = y at *
                go_wp2_with fail
                go_quiet (fail)
                go_wp2_with fail
                go_roundg gg
                case measure => omega
                case rel => exact ⟨k + 1, _, by omega, by go_num, rfl⟩
              | zero =>
                obtain rfl : k = ps.length := by omega
                have hlt : ¬ (ps.length : Int) < (ps.length : Int) := by omega
                have HP8 := Lib.hid (HP7.out.drewN m)
                have HRX8 := Lib.hid (HRX7.out.keep ((Keeps.refl [] w7).drewN m) (by simp))
                have HR8 := Lib.hid (HR7.out.keep ((Keeps.refl [] w7).drewN m) (by simp))
                have HK8 := Lib.hid (HK7.out.drewN m)
                clear HP7 HRX7 HR7 HK7 HG7
                generalize w7.drewN m = w8 at *
                go_wp2_with fail
                refine (replay_at HP8.out (by omega) (by omega) HX.out HU.out).mono ?_
                rintro e w9 ⟨d9, rfl, hp9, hk9⟩
                rw [HRP.out] at hp9
                have HP9 := Lib.hid hp9
                have HRX9 := Lib.hid (HRX8.out.keep hk9 HBN.out)
                have HR9 := Lib.hid (HR8.out.keep hk9 (fun _ => HGN.out))
                have HK9 := Lib.hid (keeps_new HK8.out hk9 HLO.out)
                clear hp9 hk9 HP8 HRX8 HR8 HK8
                go_wp2_with fail
                refine (after_at HRX9.out HX.out HR9.out (goodP_in HSG.out) (by omega)).mono ?_
                rintro e w10 ⟨v10, g10, rfl, hr10, hg10, hk10⟩
                obtain ⟨a10, c10, rfl, -, -, -⟩ := u64s_cell hr10
                have HP10 := Lib.hid (HP9.out.keep hk10 (by simp) (by simp))
                have HR10 := Lib.hid hr10
                have HK10 := Lib.hid (HK9.out.trans hk10 (by simp))
                clear hr10 hk10
                go_wp2_with fail
                refine (same_at HP10.out (by rw [carryX_len]; exact HX.out) HR10.out (carryX_agree X ps) (carryX_8 X ps (by rw [HX.out]; omega))).mono ?_; rintro e w' ⟨rfl, rfl⟩
                go_wp2_with fail
                go_ret
                exact ⟨rfl, HK10.out.below (Nat.le_refl _) (by simp)⟩

set_option maxRecDepth 100000 in
set_option maxHeartbeats 4000000 in
theorem stands_early {w : World} {va vb : Value} {ga gb : Nat} {pa pb : List (Int × Int)} (ha : PReads w va ga pa) (hb : PReads w vb gb pb) (mark : Nat) (h : ¬ (pa.length ≤ 60 ∧ pb.length ≤ 20 ∧ pa.length ≠ 0)) :
    Calls Try.prog 5 #[va, vb, .int .u8 (mark : Int)] w fun e w' => e = .returned (.bool true) ∧ Below w.heap.size w w' := by
  have HW := Lib.hid awake_at
  obtain ⟨aa, ca, rfl, a1, a2⟩ := ha.val
  obtain ⟨ab, cb, rfl, b1, b2⟩ := hb.val
  unfold maxLen at a2 b2
  clear ha hb
  by_cases hla : pa.length ≤ 60
  · have hla1 : decide ((60 : Int) < (pa.length : Int)) = false := decide_eq_false (by omega)
    by_cases hlb : pb.length ≤ 20
    · obtain h0 : pa.length = 0 := by omega
      have hlb1 : decide ((20 : Int) < (pb.length : Int)) = false := decide_eq_false (by omega)
      obtain rfl : pa = [] := List.eq_nil_of_length_eq_zero h0
      clear h h0 hla1
      go_enter Try.func5, Try.ntmps5
      go_wp2_with fail
      refine (HW.out _).mono ?_; rintro e w1 ⟨rfl, hk1⟩
      have HK1 := Lib.hid hk1
      clear hk1
      go_wp2_with fail
      refine (HW.out _).mono ?_; rintro e w2 ⟨rfl, hk2⟩
      have HK2 := Lib.hid (HK1.out.trans hk2 (by simp))
      clear hk2
      go_wp2_with fail
      go_ret
      exact ⟨rfl, HK2.out.below (Nat.le_refl _) (by simp)⟩
    · have hlb1 : decide ((20 : Int) < (pb.length : Int)) = true := decide_eq_true (by omega)
      clear h
      go_enter Try.func5, Try.ntmps5
      go_wp2_with fail
      refine (HW.out _).mono ?_; rintro e w1 ⟨rfl, hk1⟩
      have HK1 := Lib.hid hk1
      clear hk1
      go_wp2_with fail
      refine (HW.out _).mono ?_; rintro e w2 ⟨rfl, hk2⟩
      have HK2 := Lib.hid (HK1.out.trans hk2 (by simp))
      clear hk2
      go_wp2_with fail
      go_ret
      exact ⟨rfl, HK2.out.below (Nat.le_refl _) (by simp)⟩
  · have hla1 : decide ((60 : Int) < (pa.length : Int)) = true := decide_eq_true (by omega)
    clear h
    go_enter Try.func5, Try.ntmps5
    go_wp2_with fail
    refine (HW.out _).mono ?_; rintro e w1 ⟨rfl, hk1⟩
    have HK1 := Lib.hid hk1
    clear hk1
    go_wp2_with fail
    refine (HW.out _).mono ?_; rintro e w2 ⟨rfl, hk2⟩
    have HK2 := Lib.hid (HK1.out.trans hk2 (by simp))
    clear hk2
    go_wp2_with fail
    go_ret
    exact ⟨rfl, HK2.out.below (Nat.le_refl _) (by simp)⟩

theorem stands_at {w : World} {va vb : Value} {ga gb : Nat} {pa pb : List (Int × Int)} (ha : PReads w va ga pa) (hb : PReads w vb gb pb) (oka : okP pa) (okb : okP pb) (mark : Nat) (hmark : mark < 256) :
    Calls Try.prog 5 #[va, vb, .int .u8 (mark : Int)] w fun e w' => e = .returned (.bool true) ∧ Below w.heap.size w w' := by
  by_cases h : pa.length ≤ 60 ∧ pb.length ≤ 20 ∧ pa.length ≠ 0
  · exact stands_main ha hb oka okb mark hmark h.1 h.2.1 h.2.2
  · exact stands_early ha hb mark h

end Go.Proofs.Ytopljfbgbiipiaa
