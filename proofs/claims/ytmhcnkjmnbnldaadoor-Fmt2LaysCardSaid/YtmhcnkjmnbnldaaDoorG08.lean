/-
  Layer 7 (fmt2): imagoref07.Runs. Layer 7, the reference: Bucket. Layer 6, the reference: Tag, Need; the law's awake. Layer 7 (fmt2): isLaid.
-/
import Derived.Test.YtmhcnkjmnbnldaaDoorG02
import Derived.Test.YtmhcnkjmnbnldaaDoorG03
import Derived.Test.YtmhcnkjmnbnldaaDoorG07
import Derived.Test.YtmhcnkjmnbnldaaDoorG04
namespace Go.Proofs.YtmhcnkjmnbnldaaDoor
open Go.RowKit

theorem w64_in {x : Int} (h0 : -9223372036854775808 ≤ x) (h1 : x < 9223372036854775808) : wrap64 x = x := by unfold wrap64; omega

theorem num_u64 {x : Int} (h0 : 0 ≤ x) (h1 : x < 18446744073709551616) : IntKind.u64.wrap x = x := by
  simp [IntKind.wrap, IntKind.bits, IntKind.signed]; omega

/-- The word as it is reckoned. -/
theorem runW_sum (k b n : Nat) (hk : k < 256) (hb : b < 256) (hn : n < 256) : ∃ A1 A2 A3 : Int, IntKind.u64.wrap ((k : Int) * 4294967296) = A1 ∧ IntKind.u64.wrap ((b : Int) * 256) = A2 ∧ IntKind.u64.wrap (A1 + A2) = A3 ∧ IntKind.u64.wrap (A3 + (n : Int)) = runW k (b : Int) n := by
  refine ⟨(k : Int) * 4294967296, (b : Int) * 256, (k : Int) * 4294967296 + (b : Int) * 256, num_u64 (by omega) (by omega), num_u64 (by omega) (by omega), num_u64 (by omega) (by omega), ?_⟩
  unfold runW
  exact num_u64 (by omega) (by omega)

theorem q_facts {f q : Nat} (h : 0 < f) (hq : q = f - 1) (h13 : f < 13) : (f : Int) - 1 = (q : Int) ∧ wrap64 (q : Int) = (q : Int) ∧ (0 : Int) < (f : Int) ∧ q < 13 :=
  ⟨by omega, w64_in (by omega) (by omega), by omega, by omega⟩

theorem b_facts {b y : Nat} (hb : 0 < b) (hy : y = b - 1) (h256 : b < 256) : (b : Int) - 1 = (y : Int) ∧ wrap64 (y : Int) = (y : Int) :=
  ⟨by omega, w64_in (by omega) (by omega)⟩

theorem j_facts {f n j b m : Nat} (hj : j = f + n) (hm : m = b + n) (h13 : j ≤ 13) (hb : b < 256) : (f : Int) + (n : Int) = (j : Int) ∧ (0 : Int) ≤ (j : Int) ∧ (b : Int) + (n : Int) = (m : Int) ∧ wrap64 (j : Int) = (j : Int) ∧ wrap64 (m : Int) = (m : Int) ∧ n < 256 ∧ f < 256 :=
  ⟨by omega, by omega, by omega, w64_in (by omega) (by omega), w64_in (by omega) (by omega), by omega, by omega⟩

theorem u_facts {n : Nat} (h : n < 256) : IntKind.u64.wrap (n : Int) = (n : Int) := num_u64 (by omega) (by omega)

set_option maxRecDepth 100000 in
set_option maxHeartbeats 40000000 in
theorem refRuns_at (l : List Int) (hl : l.length = 13) (w : World) : Calls Tryd.prog 52 #[.agg (zs l).toArray] w (MadeWords w (runsL l)) := by
  obtain ⟨i0, hi, hz0, hz1, hz2⟩ := info_parts Tryd.info_u64
  have hb0 := Blk.new w (zs l).toArray 22
  have HK0 : Hid (Keeps [] w (w.alloc (.cells (zs l).toArray 22))) := (Keeps.refl _ _).alloc _
  have HC0 : Hid (∀ wx k, k < 13 → Keeps [] (w.alloc (.cells (zs l).toArray 22)) wx → wx.cell? ⟨w.heap.size, k, none⟩ = some (.int .i64 (l.getD k 0))) := fun wx k hk hkp => by
    rw [(hb0.keep hkp (by simp)).cell, List.getElem?_toArray, zs_get (by omega)]
  clear hb0
  have HL := Lib.hid hl
  clear hl
  generalize hz : (zs l).toArray = Z at *
  clear hz
  go_enter Tryd.func52, Tryd.ntmps52
  go_wp2_with fail
  go_loopg [3, 4] 13 (fun gh s3 s4 wx => ∃ f : Nat, f + gh = 13 ∧ s4 = .int .i64 (f : Int) ∧ Hid (wx.ownsRow (w.heap.size + 1) 30 1 s3 (runsTo l f).length (u64s (runsTo l f)) ∧ Keeps [] (w.alloc (.cells Z 22)) wx))
  case atStart => exact ⟨0, by omega, rfl, ⟨rfl, .inl ⟨rfl, rfl⟩⟩, Keeps.refl _ _⟩
  case round =>
    obtain ⟨f, hf, rfl, HR⟩ := hrel
    cases gk with
    | zero =>
      obtain rfl : f = 13 := by omega
      have HM : Hid (MadeWords w (runsL l) (.returned u3) wr) := Words.made ⟨HR.out.1, runsTo_len l 13, HK0.out.trans' HR.out.2⟩
      clear hf HR
      go_wp2_with fail
      go_ret
      exact HM.out
    | succ gg =>
      have hf13 : f < 13 := by omega
      have hlt : (f : Int) < 13 := by omega
      have hf0 : (0 : Int) ≤ (f : Int) := by omega
      have hcf := HC0.out wr f hf13 HR.out.2
      have hx64 : True := trivial
      have HOW := Lib.hid HR.out.1
      have HKP := Lib.hid HR.out.2
      have HRL := Lib.hid (runsTo_len l f)
      clear HR
      obtain ⟨a, cap, rfl, q1, q2⟩ := ownsRow_val HOW.out
      by_cases hB : isB (l.getD f 0)
      · have HXB := Lib.hid hB
        generalize hx : l.getD f 0 = x at *
        have HX := Lib.hid hx
        clear hx
        have hx1 : 0 < x := hB.1
        have hx2 : x < 256 := hB.2
        obtain ⟨b, rfl⟩ : ∃ b : Nat, x = (b : Int) := ⟨x.toNat, by omega⟩
        clear hB
        have h255 : ¬ 255 < (b : Int) := by omega
        have hb1 : ¬ (b : Int) < 1 := by omega
        have HB256 : Hid (b < 256) := by show _ < _; omega
        have hFF : Hid (f + gg = 12) := by show _ = _; omega
        by_cases hC : contP l f
        · have HN : Hid (runsTo l (f + 1) = runsTo l f) := by
            show _ = _
            rw [runsTo, if_neg (fun hs => hs.2 hC)]
          obtain ⟨c1, -, -, ⟨c2, -⟩, c3⟩ := hC
          obtain ⟨q, hq⟩ : ∃ q, q = f - 1 := ⟨_, rfl⟩
          rw [HX.out] at c3
          rw [← hq] at c2 c3
          obtain ⟨hq1, hqw, hf1, hq13⟩ := q_facts c1 hq hf13
          have hcq := HC0.out wr q hq13 HKP.out
          obtain ⟨p, hp⟩ : ∃ p : Nat, l.getD q 0 = (p : Int) := ⟨(l.getD q 0).toNat, by clear hx64 hcf hqw; omega⟩
          rw [hp] at hcq c2 c3
          obtain ⟨hb2, hb3⟩ := b_facts (b := b) (y := p) (by omega) (by omega) (by omega)
          clear hq c3 HXB hp c1
          generalize hbi : (b : Int) = bi at *
          generalize hpi : (p : Int) = pi at *
          clear hbi hpi
          go_wp2_with fail
          go_roundg gg
          case measure => omega
          case rel => exact ⟨f + 1, by omega, by go_num, by rw [HN.out]; exact HOW.out, HKP.out⟩
        · have HST : Hid (startP l f) := ⟨by rw [HX.out]; exact HXB.out, hC⟩
          have HXB2 : Hid (isB (l.getD f 0)) := by show isB _; rw [HX.out]; exact HXB.out
          clear HXB
          have HXB := HXB2
          clear HXB2
          have hways : f = 0 ∨ (0 < f ∧ ¬ (0 < l.getD (f - 1) 0)) ∨ (0 < f ∧ 0 < l.getD (f - 1) 0 ∧ l.getD (f - 1) 0 ≠ (b : Int) - 1) := by
            by_cases h1 : f = 0
            · exact .inl h1
            · by_cases h2 : 0 < l.getD (f - 1) 0
              · refine .inr (.inr ⟨by omega, h2, fun h3 => hC ?_⟩)
                unfold contP isB
                rw [HX.out]
                omega
              · exact .inr (.inl ⟨by omega, h2⟩)
          clear hC
          rcases hways with h1 | ⟨h1, h2⟩ | ⟨h1, h2, h3⟩
          · have hf1 : ¬ (0 : Int) < (f : Int) := by clear hx64; omega
            clear h1
            go_wp2_with fail
            clear hf1 hcf
            go_loopg [6] (12 - f) (fun gh s6 wx => ∃ n : Nat, f + n + gh = 13 ∧ s6 = .int .i64 (n : Int) ∧ Hid (0 < n ∧ (∀ i, f < i → i < f + n → contP l i)) ∧ wx = wr)
            case atStart => exact ⟨1, by omega, rfl, ⟨by omega, fun i h1 h2 => by omega⟩, rfl⟩
            case round =>
              obtain ⟨n, hn, rfl, HN, rfl⟩ := hrel
              have HCI := Lib.hid (cont_iff2 (HXB.out) (show f < f + n by have := HN.out.1; omega) HN.out.2)
              rw [HX.out, show f + n - f = n by omega] at HCI
              have hn0 := HN.out.1
              have hn0' : (0 : Int) ≤ (n : Int) := by omega
              obtain ⟨j, hj⟩ : ∃ j, j = f + n := ⟨_, rfl⟩
              obtain ⟨m, hm⟩ : ∃ m : Nat, m = b + n := ⟨_, rfl⟩
              obtain ⟨hj1, hj0, hm1, hjw, hmw, hn256, hf256⟩ := j_facts hj hm (by clear hx64; omega) (by clear hx64; omega)
              rw [← hj, hm1] at HCI
              generalize hmi : (m : Int) = mi at *
              clear hmi hm
              obtain ⟨ji, hji⟩ : ∃ ji : Int, ji = (j : Int) := ⟨_, rfl⟩
              have hjt : ji.toNat = j := by rw [hji]; exact Int.toNat_natCast j
              rw [← hji] at hj1 hj0 hjw
              have HJI := Lib.hid hji
              have HWJ := Lib.hid hjw
              clear hji
              have HWM := Lib.hid hmw
              have HX64 := Lib.hid hx64
              clear hjw hmw hx64
              have HNN := HN.out.2
              rw [← hj] at HNN
              have HCONT := Lib.hid HNN
              clear HNN
              by_cases hC : contP l j
              · obtain ⟨c1, c2, c3⟩ := HCI.out.1 hC
                have hcl : ji < 13 := by have := HJI.out; omega
                have hcj := HC0.out wr j c1 HKP.out
                rw [c2] at hcj
                have hm256 : mi < 256 := c3
                have HNX : Hid (0 < n + 1 ∧ (∀ i, f < i → i < f + (n + 1) → contP l i)) := ⟨by omega, fun i h1 h2 => by
                  by_cases e : i = j
                  · subst e; exact hC
                  · exact HCONT.out i h1 (by omega)⟩
                have hj13 : j < 13 := c1
                clear HCI hC HN c2 hj
                have hjw := HWJ.out
                have hmw := HWM.out
                go_wp2_with fail
                go_roundg (gk - 1)
                case measure => clear hjw hmw; omega
                case rel => clear hjw hmw; exact ⟨n + 1, by omega, by go_num, HNX, rfl⟩
              · have HFIN : Hid (runsTo l j = runsTo l f ++ [runW f (b : Int) n] ∧ runsTo l (f + 1) = runsTo l f ++ [runW f (b : Int) n]) := by
                  have h1 := runsTo_run HST.out (show f < j by omega) (by omega) HCONT.out hC
                  rw [HX.out, show j - f = n by omega] at h1
                  refine ⟨h1, ?_⟩
                  rw [← h1]
                  exact (runsTo_cont l (f + 1) j (by omega) fun i h2 h3 => HCONT.out i (by omega) h3).symm
                have hways : (¬ ji < 13) ∨ (ji < 13 ∧ j < 13 ∧ l.getD j 0 ≠ mi) ∨ (ji < 13 ∧ j < 13 ∧ l.getD j 0 = mi ∧ ¬ mi < 256) := by
                  have hjie := HJI.out
                  by_cases h1 : j < 13
                  · by_cases h2 : l.getD j 0 = mi
                    · exact .inr (.inr ⟨by omega, h1, h2, fun h3 => hC (HCI.out.2 ⟨h1, h2, h3⟩)⟩)
                    · exact .inr (.inl ⟨by omega, h1, h2⟩)
                  · exact .inl (by omega)
                obtain ⟨A1, A2, A3, a1, a2, a3, a4⟩ := runW_sum f b n hf256 HB256.out hn256
                have hwn := u_facts hn256
                have hwf := u_facts hf256
                have hwb := u_facts HB256.out
                have hlb : (runsTo l f).length ≤ 13 := by have := HRL.out; omega
                have hwr : w.heap.size + 1 ≤ wr.heap.size := by have := HKP.out.size; simpa using this
                clear HCI hC HN hj hf HCONT
                generalize runW f (b : Int) n = W at *
                generalize hL : runsTo l f = L at *
                have HLE := Lib.hid hL
                clear hL
                have hcell := HC0.out wr j
                have hjw := HWJ.out
                have hmw := HWM.out
                rcases hways with h1 | ⟨h1, h2, h3⟩ | ⟨h1, h2, h3, h4⟩
                · skip
                  clear hcell
                  go_wp2_with (at_builtin; refine wpList_append_own _ rfl _ _ 44 rfl (w.heap.size + 1) 30 i0 (.int .u64 0) 1 8 Tryd.underlying44 hi hz0 hz1 hz2 rfl (by decide) (.slice a L.length cap) L.length _ rfl (HOW.out.alloc _) ⟨wr.heap.size, 0, none⟩ 1 1 [.int .u64 W] rfl rfl (new_cells _ [_] _ _ rfl) (fun u hu => by rw [List.mem_singleton] at hu; subst hu; rfl) (by unfold maxLen; clear hjw hmw; omega) (by clear hjw hmw; omega) (by clear hjw hmw; simp; omega) ?_)
                  intro v' w1 hown1 hgrow _
                  have HO1 := Lib.hid hown1
                  have HK1 := Lib.hid ((HKP.out.alloc _).grown hgrow (fun k hk => by have := ownsRow_block HOW.out k hk; simpa using this))
                  clear hown1 hgrow
                  go_wp2_with fail
                  clear hjw hmw
                  go_roundg gg
                  case measure => omega
                  case rel =>
                    refine ⟨f + 1, by have := hFF.out; omega, by go_num, ?_, HK1.out⟩
                    have := HO1.out
                    rw [HFIN.out.2, List.length_append, u64s_append]
                    exact this
                · have hcj := hcell h2 HKP.out
                  have h3' : (l.getD j 0 == mi) = false := beq_eq_false_iff_ne.2 h3
                  clear h3
                  generalize l.getD j 0 = y at *
                  clear hcell
                  go_wp2_with (at_builtin; refine wpList_append_own _ rfl _ _ 44 rfl (w.heap.size + 1) 30 i0 (.int .u64 0) 1 8 Tryd.underlying44 hi hz0 hz1 hz2 rfl (by decide) (.slice a L.length cap) L.length _ rfl (HOW.out.alloc _) ⟨wr.heap.size, 0, none⟩ 1 1 [.int .u64 W] rfl rfl (new_cells _ [_] _ _ rfl) (fun u hu => by rw [List.mem_singleton] at hu; subst hu; rfl) (by unfold maxLen; clear hjw hmw; omega) (by clear hjw hmw; omega) (by clear hjw hmw; simp; omega) ?_)
                  intro v' w1 hown1 hgrow _
                  have HO1 := Lib.hid hown1
                  have HK1 := Lib.hid ((HKP.out.alloc _).grown hgrow (fun k hk => by have := ownsRow_block HOW.out k hk; simpa using this))
                  clear hown1 hgrow hcj
                  go_wp2_with fail
                  clear hjw hmw
                  go_roundg gg
                  case measure => omega
                  case rel =>
                    refine ⟨f + 1, by have := hFF.out; omega, by go_num, ?_, HK1.out⟩
                    have := HO1.out
                    rw [HFIN.out.2, List.length_append, u64s_append]
                    exact this
                · have hcj := hcell h2 HKP.out
                  rw [h3] at hcj
                  clear h3
                  clear hcell
                  go_wp2_with (at_builtin; refine wpList_append_own _ rfl _ _ 44 rfl (w.heap.size + 1) 30 i0 (.int .u64 0) 1 8 Tryd.underlying44 hi hz0 hz1 hz2 rfl (by decide) (.slice a L.length cap) L.length _ rfl (HOW.out.alloc _) ⟨wr.heap.size, 0, none⟩ 1 1 [.int .u64 W] rfl rfl (new_cells _ [_] _ _ rfl) (fun u hu => by rw [List.mem_singleton] at hu; subst hu; rfl) (by unfold maxLen; clear hjw hmw; omega) (by clear hjw hmw; omega) (by clear hjw hmw; simp; omega) ?_)
                  intro v' w1 hown1 hgrow _
                  have HO1 := Lib.hid hown1
                  have HK1 := Lib.hid ((HKP.out.alloc _).grown hgrow (fun k hk => by have := ownsRow_block HOW.out k hk; simpa using this))
                  clear hown1 hgrow hcj
                  go_wp2_with fail
                  clear hjw hmw
                  go_roundg gg
                  case measure => omega
                  case rel =>
                    refine ⟨f + 1, by have := hFF.out; omega, by go_num, ?_, HK1.out⟩
                    have := HO1.out
                    rw [HFIN.out.2, List.length_append, u64s_append]
                    exact this
          · obtain ⟨q, hq⟩ : ∃ q, q = f - 1 := ⟨_, rfl⟩
            rw [← hq] at h2
            obtain ⟨hq1, hqw, hf1, hq13⟩ := q_facts h1 hq hf13
            have hcq := HC0.out wr q hq13 HKP.out
            clear hq
            generalize l.getD q 0 = p at *
            go_wp2_with fail
            clear hf1 h1 hcf h2 hcq hq1 hqw hq13
            go_loopg [6] (12 - f) (fun gh s6 wx => ∃ n : Nat, f + n + gh = 13 ∧ s6 = .int .i64 (n : Int) ∧ Hid (0 < n ∧ (∀ i, f < i → i < f + n → contP l i)) ∧ wx = wr)
            case atStart => exact ⟨1, by omega, rfl, ⟨by omega, fun i h1 h2 => by omega⟩, rfl⟩
            case round =>
              obtain ⟨n, hn, rfl, HN, rfl⟩ := hrel
              have HCI := Lib.hid (cont_iff2 (HXB.out) (show f < f + n by have := HN.out.1; omega) HN.out.2)
              rw [HX.out, show f + n - f = n by omega] at HCI
              have hn0 := HN.out.1
              have hn0' : (0 : Int) ≤ (n : Int) := by omega
              obtain ⟨j, hj⟩ : ∃ j, j = f + n := ⟨_, rfl⟩
              obtain ⟨m, hm⟩ : ∃ m : Nat, m = b + n := ⟨_, rfl⟩
              obtain ⟨hj1, hj0, hm1, hjw, hmw, hn256, hf256⟩ := j_facts hj hm (by clear hx64; omega) (by clear hx64; omega)
              rw [← hj, hm1] at HCI
              generalize hmi : (m : Int) = mi at *
              clear hmi hm
              obtain ⟨ji, hji⟩ : ∃ ji : Int, ji = (j : Int) := ⟨_, rfl⟩
              have hjt : ji.toNat = j := by rw [hji]; exact Int.toNat_natCast j
              rw [← hji] at hj1 hj0 hjw
              have HJI := Lib.hid hji
              have HWJ := Lib.hid hjw
              clear hji
              have HWM := Lib.hid hmw
              have HX64 := Lib.hid hx64
              clear hjw hmw hx64
              have HNN := HN.out.2
              rw [← hj] at HNN
              have HCONT := Lib.hid HNN
              clear HNN
              by_cases hC : contP l j
              · obtain ⟨c1, c2, c3⟩ := HCI.out.1 hC
                have hcl : ji < 13 := by have := HJI.out; omega
                have hcj := HC0.out wr j c1 HKP.out
                rw [c2] at hcj
                have hm256 : mi < 256 := c3
                have HNX : Hid (0 < n + 1 ∧ (∀ i, f < i → i < f + (n + 1) → contP l i)) := ⟨by omega, fun i h1 h2 => by
                  by_cases e : i = j
                  · subst e; exact hC
                  · exact HCONT.out i h1 (by omega)⟩
                have hj13 : j < 13 := c1
                clear HCI hC HN c2 hj
                have hjw := HWJ.out
                have hmw := HWM.out
                go_wp2_with fail
                go_roundg (gk - 1)
                case measure => clear hjw hmw; omega
                case rel => clear hjw hmw; exact ⟨n + 1, by omega, by go_num, HNX, rfl⟩
              · have HFIN : Hid (runsTo l j = runsTo l f ++ [runW f (b : Int) n] ∧ runsTo l (f + 1) = runsTo l f ++ [runW f (b : Int) n]) := by
                  have h1 := runsTo_run HST.out (show f < j by omega) (by omega) HCONT.out hC
                  rw [HX.out, show j - f = n by omega] at h1
                  refine ⟨h1, ?_⟩
                  rw [← h1]
                  exact (runsTo_cont l (f + 1) j (by omega) fun i h2 h3 => HCONT.out i (by omega) h3).symm
                have hways : (¬ ji < 13) ∨ (ji < 13 ∧ j < 13 ∧ l.getD j 0 ≠ mi) ∨ (ji < 13 ∧ j < 13 ∧ l.getD j 0 = mi ∧ ¬ mi < 256) := by
                  have hjie := HJI.out
                  by_cases h1 : j < 13
                  · by_cases h2 : l.getD j 0 = mi
                    · exact .inr (.inr ⟨by omega, h1, h2, fun h3 => hC (HCI.out.2 ⟨h1, h2, h3⟩)⟩)
                    · exact .inr (.inl ⟨by omega, h1, h2⟩)
                  · exact .inl (by omega)
                obtain ⟨A1, A2, A3, a1, a2, a3, a4⟩ := runW_sum f b n hf256 HB256.out hn256
                have hwn := u_facts hn256
                have hwf := u_facts hf256
                have hwb := u_facts HB256.out
                have hlb : (runsTo l f).length ≤ 13 := by have := HRL.out; omega
                have hwr : w.heap.size + 1 ≤ wr.heap.size := by have := HKP.out.size; simpa using this
                clear HCI hC HN hj hf HCONT
                generalize runW f (b : Int) n = W at *
                generalize hL : runsTo l f = L at *
                have HLE := Lib.hid hL
                clear hL
                have hcell := HC0.out wr j
                have hjw := HWJ.out
                have hmw := HWM.out
                rcases hways with h1 | ⟨h1, h2, h3⟩ | ⟨h1, h2, h3, h4⟩
                · skip
                  clear hcell
                  go_wp2_with (at_builtin; refine wpList_append_own _ rfl _ _ 44 rfl (w.heap.size + 1) 30 i0 (.int .u64 0) 1 8 Tryd.underlying44 hi hz0 hz1 hz2 rfl (by decide) (.slice a L.length cap) L.length _ rfl (HOW.out.alloc _) ⟨wr.heap.size, 0, none⟩ 1 1 [.int .u64 W] rfl rfl (new_cells _ [_] _ _ rfl) (fun u hu => by rw [List.mem_singleton] at hu; subst hu; rfl) (by unfold maxLen; clear hjw hmw; omega) (by clear hjw hmw; omega) (by clear hjw hmw; simp; omega) ?_)
                  intro v' w1 hown1 hgrow _
                  have HO1 := Lib.hid hown1
                  have HK1 := Lib.hid ((HKP.out.alloc _).grown hgrow (fun k hk => by have := ownsRow_block HOW.out k hk; simpa using this))
                  clear hown1 hgrow
                  go_wp2_with fail
                  clear hjw hmw
                  go_roundg gg
                  case measure => omega
                  case rel =>
                    refine ⟨f + 1, by have := hFF.out; omega, by go_num, ?_, HK1.out⟩
                    have := HO1.out
                    rw [HFIN.out.2, List.length_append, u64s_append]
                    exact this
                · have hcj := hcell h2 HKP.out
                  have h3' : (l.getD j 0 == mi) = false := beq_eq_false_iff_ne.2 h3
                  clear h3
                  generalize l.getD j 0 = y at *
                  clear hcell
                  go_wp2_with (at_builtin; refine wpList_append_own _ rfl _ _ 44 rfl (w.heap.size + 1) 30 i0 (.int .u64 0) 1 8 Tryd.underlying44 hi hz0 hz1 hz2 rfl (by decide) (.slice a L.length cap) L.length _ rfl (HOW.out.alloc _) ⟨wr.heap.size, 0, none⟩ 1 1 [.int .u64 W] rfl rfl (new_cells _ [_] _ _ rfl) (fun u hu => by rw [List.mem_singleton] at hu; subst hu; rfl) (by unfold maxLen; clear hjw hmw; omega) (by clear hjw hmw; omega) (by clear hjw hmw; simp; omega) ?_)
                  intro v' w1 hown1 hgrow _
                  have HO1 := Lib.hid hown1
                  have HK1 := Lib.hid ((HKP.out.alloc _).grown hgrow (fun k hk => by have := ownsRow_block HOW.out k hk; simpa using this))
                  clear hown1 hgrow hcj
                  go_wp2_with fail
                  clear hjw hmw
                  go_roundg gg
                  case measure => omega
                  case rel =>
                    refine ⟨f + 1, by have := hFF.out; omega, by go_num, ?_, HK1.out⟩
                    have := HO1.out
                    rw [HFIN.out.2, List.length_append, u64s_append]
                    exact this
                · have hcj := hcell h2 HKP.out
                  rw [h3] at hcj
                  clear h3
                  clear hcell
                  go_wp2_with (at_builtin; refine wpList_append_own _ rfl _ _ 44 rfl (w.heap.size + 1) 30 i0 (.int .u64 0) 1 8 Tryd.underlying44 hi hz0 hz1 hz2 rfl (by decide) (.slice a L.length cap) L.length _ rfl (HOW.out.alloc _) ⟨wr.heap.size, 0, none⟩ 1 1 [.int .u64 W] rfl rfl (new_cells _ [_] _ _ rfl) (fun u hu => by rw [List.mem_singleton] at hu; subst hu; rfl) (by unfold maxLen; clear hjw hmw; omega) (by clear hjw hmw; omega) (by clear hjw hmw; simp; omega) ?_)
                  intro v' w1 hown1 hgrow _
                  have HO1 := Lib.hid hown1
                  have HK1 := Lib.hid ((HKP.out.alloc _).grown hgrow (fun k hk => by have := ownsRow_block HOW.out k hk; simpa using this))
                  clear hown1 hgrow hcj
                  go_wp2_with fail
                  clear hjw hmw
                  go_roundg gg
                  case measure => omega
                  case rel =>
                    refine ⟨f + 1, by have := hFF.out; omega, by go_num, ?_, HK1.out⟩
                    have := HO1.out
                    rw [HFIN.out.2, List.length_append, u64s_append]
                    exact this
          · obtain ⟨q, hq⟩ : ∃ q, q = f - 1 := ⟨_, rfl⟩
            rw [← hq] at h2 h3
            obtain ⟨hq1, hqw, hf1, hq13⟩ := q_facts h1 hq hf13
            have hcq := HC0.out wr q hq13 HKP.out
            obtain ⟨y, hy⟩ : ∃ y, y = b - 1 := ⟨_, rfl⟩
            obtain ⟨hy1, hyw⟩ := b_facts (b := b) (y := y) (by clear hx64 h3; omega) hy (by clear hx64 h3; omega)
            rw [hy1] at h3
            have h3' : (l.getD q 0 == (y : Int)) = false := beq_eq_false_iff_ne.2 h3
            clear hq hy h3
            generalize hyi : (y : Int) = yi at *
            clear hyi
            generalize l.getD q 0 = p at *
            go_wp2_with fail
            clear hf1 h1 hcf h2 h3' hcq hq1 hqw hy1 hyw hq13
            go_loopg [6] (12 - f) (fun gh s6 wx => ∃ n : Nat, f + n + gh = 13 ∧ s6 = .int .i64 (n : Int) ∧ Hid (0 < n ∧ (∀ i, f < i → i < f + n → contP l i)) ∧ wx = wr)
            case atStart => exact ⟨1, by omega, rfl, ⟨by omega, fun i h1 h2 => by omega⟩, rfl⟩
            case round =>
              obtain ⟨n, hn, rfl, HN, rfl⟩ := hrel
              have HCI := Lib.hid (cont_iff2 (HXB.out) (show f < f + n by have := HN.out.1; omega) HN.out.2)
              rw [HX.out, show f + n - f = n by omega] at HCI
              have hn0 := HN.out.1
              have hn0' : (0 : Int) ≤ (n : Int) := by omega
              obtain ⟨j, hj⟩ : ∃ j, j = f + n := ⟨_, rfl⟩
              obtain ⟨m, hm⟩ : ∃ m : Nat, m = b + n := ⟨_, rfl⟩
              obtain ⟨hj1, hj0, hm1, hjw, hmw, hn256, hf256⟩ := j_facts hj hm (by clear hx64; omega) (by clear hx64; omega)
              rw [← hj, hm1] at HCI
              generalize hmi : (m : Int) = mi at *
              clear hmi hm
              obtain ⟨ji, hji⟩ : ∃ ji : Int, ji = (j : Int) := ⟨_, rfl⟩
              have hjt : ji.toNat = j := by rw [hji]; exact Int.toNat_natCast j
              rw [← hji] at hj1 hj0 hjw
              have HJI := Lib.hid hji
              have HWJ := Lib.hid hjw
              clear hji
              have HWM := Lib.hid hmw
              have HX64 := Lib.hid hx64
              clear hjw hmw hx64
              have HNN := HN.out.2
              rw [← hj] at HNN
              have HCONT := Lib.hid HNN
              clear HNN
              by_cases hC : contP l j
              · obtain ⟨c1, c2, c3⟩ := HCI.out.1 hC
                have hcl : ji < 13 := by have := HJI.out; omega
                have hcj := HC0.out wr j c1 HKP.out
                rw [c2] at hcj
                have hm256 : mi < 256 := c3
                have HNX : Hid (0 < n + 1 ∧ (∀ i, f < i → i < f + (n + 1) → contP l i)) := ⟨by omega, fun i h1 h2 => by
                  by_cases e : i = j
                  · subst e; exact hC
                  · exact HCONT.out i h1 (by omega)⟩
                have hj13 : j < 13 := c1
                clear HCI hC HN c2 hj
                have hjw := HWJ.out
                have hmw := HWM.out
                go_wp2_with fail
                go_roundg (gk - 1)
                case measure => clear hjw hmw; omega
                case rel => clear hjw hmw; exact ⟨n + 1, by omega, by go_num, HNX, rfl⟩
              · have HFIN : Hid (runsTo l j = runsTo l f ++ [runW f (b : Int) n] ∧ runsTo l (f + 1) = runsTo l f ++ [runW f (b : Int) n]) := by
                  have h1 := runsTo_run HST.out (show f < j by omega) (by omega) HCONT.out hC
                  rw [HX.out, show j - f = n by omega] at h1
                  refine ⟨h1, ?_⟩
                  rw [← h1]
                  exact (runsTo_cont l (f + 1) j (by omega) fun i h2 h3 => HCONT.out i (by omega) h3).symm
                have hways : (¬ ji < 13) ∨ (ji < 13 ∧ j < 13 ∧ l.getD j 0 ≠ mi) ∨ (ji < 13 ∧ j < 13 ∧ l.getD j 0 = mi ∧ ¬ mi < 256) := by
                  have hjie := HJI.out
                  by_cases h1 : j < 13
                  · by_cases h2 : l.getD j 0 = mi
                    · exact .inr (.inr ⟨by omega, h1, h2, fun h3 => hC (HCI.out.2 ⟨h1, h2, h3⟩)⟩)
                    · exact .inr (.inl ⟨by omega, h1, h2⟩)
                  · exact .inl (by omega)
                obtain ⟨A1, A2, A3, a1, a2, a3, a4⟩ := runW_sum f b n hf256 HB256.out hn256
                have hwn := u_facts hn256
                have hwf := u_facts hf256
                have hwb := u_facts HB256.out
                have hlb : (runsTo l f).length ≤ 13 := by have := HRL.out; omega
                have hwr : w.heap.size + 1 ≤ wr.heap.size := by have := HKP.out.size; simpa using this
                clear HCI hC HN hj hf HCONT
                generalize runW f (b : Int) n = W at *
                generalize hL : runsTo l f = L at *
                have HLE := Lib.hid hL
                clear hL
                have hcell := HC0.out wr j
                have hjw := HWJ.out
                have hmw := HWM.out
                rcases hways with h1 | ⟨h1, h2, h3⟩ | ⟨h1, h2, h3, h4⟩
                · skip
                  clear hcell
                  go_wp2_with (at_builtin; refine wpList_append_own _ rfl _ _ 44 rfl (w.heap.size + 1) 30 i0 (.int .u64 0) 1 8 Tryd.underlying44 hi hz0 hz1 hz2 rfl (by decide) (.slice a L.length cap) L.length _ rfl (HOW.out.alloc _) ⟨wr.heap.size, 0, none⟩ 1 1 [.int .u64 W] rfl rfl (new_cells _ [_] _ _ rfl) (fun u hu => by rw [List.mem_singleton] at hu; subst hu; rfl) (by unfold maxLen; clear hjw hmw; omega) (by clear hjw hmw; omega) (by clear hjw hmw; simp; omega) ?_)
                  intro v' w1 hown1 hgrow _
                  have HO1 := Lib.hid hown1
                  have HK1 := Lib.hid ((HKP.out.alloc _).grown hgrow (fun k hk => by have := ownsRow_block HOW.out k hk; simpa using this))
                  clear hown1 hgrow
                  go_wp2_with fail
                  clear hjw hmw
                  go_roundg gg
                  case measure => omega
                  case rel =>
                    refine ⟨f + 1, by have := hFF.out; omega, by go_num, ?_, HK1.out⟩
                    have := HO1.out
                    rw [HFIN.out.2, List.length_append, u64s_append]
                    exact this
                · have hcj := hcell h2 HKP.out
                  have h3' : (l.getD j 0 == mi) = false := beq_eq_false_iff_ne.2 h3
                  clear h3
                  generalize l.getD j 0 = y at *
                  clear hcell
                  go_wp2_with (at_builtin; refine wpList_append_own _ rfl _ _ 44 rfl (w.heap.size + 1) 30 i0 (.int .u64 0) 1 8 Tryd.underlying44 hi hz0 hz1 hz2 rfl (by decide) (.slice a L.length cap) L.length _ rfl (HOW.out.alloc _) ⟨wr.heap.size, 0, none⟩ 1 1 [.int .u64 W] rfl rfl (new_cells _ [_] _ _ rfl) (fun u hu => by rw [List.mem_singleton] at hu; subst hu; rfl) (by unfold maxLen; clear hjw hmw; omega) (by clear hjw hmw; omega) (by clear hjw hmw; simp; omega) ?_)
                  intro v' w1 hown1 hgrow _
                  have HO1 := Lib.hid hown1
                  have HK1 := Lib.hid ((HKP.out.alloc _).grown hgrow (fun k hk => by have := ownsRow_block HOW.out k hk; simpa using this))
                  clear hown1 hgrow hcj
                  go_wp2_with fail
                  clear hjw hmw
                  go_roundg gg
                  case measure => omega
                  case rel =>
                    refine ⟨f + 1, by have := hFF.out; omega, by go_num, ?_, HK1.out⟩
                    have := HO1.out
                    rw [HFIN.out.2, List.length_append, u64s_append]
                    exact this
                · have hcj := hcell h2 HKP.out
                  rw [h3] at hcj
                  clear h3
                  clear hcell
                  go_wp2_with (at_builtin; refine wpList_append_own _ rfl _ _ 44 rfl (w.heap.size + 1) 30 i0 (.int .u64 0) 1 8 Tryd.underlying44 hi hz0 hz1 hz2 rfl (by decide) (.slice a L.length cap) L.length _ rfl (HOW.out.alloc _) ⟨wr.heap.size, 0, none⟩ 1 1 [.int .u64 W] rfl rfl (new_cells _ [_] _ _ rfl) (fun u hu => by rw [List.mem_singleton] at hu; subst hu; rfl) (by unfold maxLen; clear hjw hmw; omega) (by clear hjw hmw; omega) (by clear hjw hmw; simp; omega) ?_)
                  intro v' w1 hown1 hgrow _
                  have HO1 := Lib.hid hown1
                  have HK1 := Lib.hid ((HKP.out.alloc _).grown hgrow (fun k hk => by have := ownsRow_block HOW.out k hk; simpa using this))
                  clear hown1 hgrow hcj
                  go_wp2_with fail
                  clear hjw hmw
                  go_roundg gg
                  case measure => omega
                  case rel =>
                    refine ⟨f + 1, by have := hFF.out; omega, by go_num, ?_, HK1.out⟩
                    have := HO1.out
                    rw [HFIN.out.2, List.length_append, u64s_append]
                    exact this
      · have HN : Hid (runsTo l (f + 1) = runsTo l f) := runsTo_none hB
        have hB2 : l.getD f 0 < 1 ∨ 255 < l.getD f 0 := by unfold isB at hB; omega
        clear hB
        generalize l.getD f 0 = x at *
        rcases hB2 with h1 | h1
        · go_wp2_with fail
          go_roundg gg
          case measure => omega
          case rel => exact ⟨f + 1, by omega, by go_num, by rw [HN.out]; exact HOW.out, HKP.out⟩
        · have h2 : ¬ x < 1 := by omega
          go_wp2_with fail
          go_roundg gg
          case measure => omega
          case rel => exact ⟨f + 1, by omega, by go_num, by rw [HN.out]; exact HOW.out, HKP.out⟩

end Go.Proofs.YtmhcnkjmnbnldaaDoor

namespace Go.Proofs.YtmhcnkjmnbnldaaDoor
open Go.RowKit

/-- What a call leaves that makes entries. -/
def MadeEnts (w : World) (E : List (ByteArray × Int)) (e : Ending) (w' : World) : Prop :=
  ∃ v g, e = .returned v ∧ EReads w' v g E ∧ w.heap.size ≤ g ∧ Keeps [] w w'

set_option maxRecDepth 100000 in
set_option maxHeartbeats 8000000 in
theorem refBucket_at {w : World} {v : Value} {g : Nat} {E : List (ByteArray × Int)} (hE : EReads w v g E) (hlen : E.length ≤ 10000) (hgood : ∀ k, k < E.length → goodN (bl (enm E k)) = true ∧ wordN (bl (enm E k)) < 18446744073709551616) (q : Nat) (_hq : q < 4) :
    Calls Tryd.prog 53 #[v, .int .i64 (q : Int)] w (MadeEnts w (sprE E q)) := by
  obtain ⟨a, cap, rfl, hcap, hmax, HEC⟩ := hE.open
  unfold maxLen at hmax
  obtain ⟨i0, hi, hz0, hz1, hz2⟩ := info_parts Tryd.info_entry
  have HG := Lib.hid hgood
  have HTS : Hid (∀ j, j < E.length → E.take (j + 1) = E.take j ++ [(enm E j, eno E j)]) := fun j hj => take_snocE E j hj
  have HTL : Hid (∀ j b, (sprE (E.take j) b).length ≤ E.length) := fun j b => Nat.le_trans (sprE_len _ _) (by rw [List.length_take]; omega)
  have HALL : Hid (E.take E.length = E) := List.take_length
  clear hE hgood
  generalize hn : E.length = n at *
  clear hn
  obtain ⟨qi, hqi⟩ : ∃ qi : Int, qi = (q : Int) := ⟨_, rfl⟩
  rw [← hqi]
  have HQI := Lib.hid hqi
  clear hqi
  go_enter Tryd.func53, Tryd.ntmps53
  go_wp2_with fail
  go_loopg [5, 6] n (fun gh s5 s6 wx => ∃ j : Nat, j + gh = n ∧ s6 = .int .i64 (j : Int) ∧ Hid (wx.ownsRow w.heap.size 57 2 s5 (sprE (E.take j) q).length (ecells (sprE (E.take j) q)) ∧ Keeps [] w wx))
  case atStart => exact ⟨0, by omega, rfl, ⟨rfl, .inl ⟨rfl, rfl⟩⟩, Keeps.refl _ _⟩
  case round =>
    obtain ⟨j, hj, rfl, HP⟩ := hrel
    cases gk with
    | zero =>
      obtain rfl : j = n := by omega
      have HM : Hid (MadeEnts w (sprE E q) (.returned u5) wr) := by
        obtain ⟨hr, hk⟩ := HP.out
        rw [HALL.out] at hr
        obtain ⟨g, ho, hg⟩ := Owns.of_row hr
        by_cases h0 : (sprE E q).length = 0
        · exact ⟨u5, w.heap.size, rfl, (ho.ereads rfl).anyG h0 _, Nat.le_refl _, hk⟩
        · exact ⟨u5, g, rfl, ho.ereads rfl, (hg h0).1, hk⟩
      clear HP hj
      go_wp2_with fail
      go_ret
      exact HM.out
    | succ gk =>
      have hjn : j < n := by omega
      have hlt : (j : Int) < (n : Int) := by omega
      have hj0 : (0 : Int) ≤ (j : Int) := by omega
      obtain ⟨hgl, off, rfl, e0, e1⟩ := HEC.out j hjn
      have HOW := Lib.hid HP.out.1
      have HKP := Lib.hid HP.out.2
      have hkp := HP.out.2
      have c0 := (World.cell?_of_block (w := w) (a := ⟨g, off + j * 2, none⟩) (hkp.block g hgl (by simp))).trans e0
      have HC01 : Hid (∀ wx, Keeps [] wr wx → wx.cell? ⟨g, off + j * 2, none⟩ = some (.string (enm E j)) ∧ wx.cell? ⟨g, off + j * 2 + 1, none⟩ = some (.int .i64 (eno E j))) := fun wx hk => ⟨(World.cell?_of_block (w := w) (a := ⟨g, off + j * 2, none⟩) ((hkp.trans' hk).block g hgl (by simp))).trans e0, (World.cell?_of_block (w := w) (a := ⟨g, off + j * 2 + 1, none⟩) ((hkp.trans' hk).block g hgl (by simp))).trans e1⟩
      obtain ⟨hgd, hwlt⟩ := HG.out j hjn
      have hsz7 : (enm E j).size ≤ 7 := by
        have := (goodN_len hgd).2
        rwa [bl_len] at this
      have HWC := Lib.hid (refWord_at (enm E j) hsz7 wr)
      have hbk : bkt (enm E j, eno E j) = sumN [wordN (bl (enm E j))] % 4 := by
        show bucketN _ = _
        unfold bucketN
        rw [if_pos hgd]
      have HSU : Hid (sprE (E.take (j + 1)) q = if q = sumN [wordN (bl (enm E j))] % 4 then sprE (E.take j) q ++ [(enm E j, eno E j)] else sprE (E.take j) q) := by
        show _ = _
        rw [HTS.out j hjn, sprE_snoc, hbk]
      have hln := HTL.out j q
      obtain ⟨a5, c5, rfl, q1, q2⟩ := ownsRow_val HOW.out
      unfold maxLen at q2
      have hwrs := hkp.size
      clear e0 e1 HP hkp hgd hsz7 hbk
      generalize enm E j = nm at *
      generalize eno E j = ino at *
      generalize wordN (bl nm) = W at *
      have HSC : Hid (Calls Tryd.prog 75 #[.slice (some ⟨wr.heap.size, 0, none⟩) 1 1] (wr.alloc (.cells #[.int .u64 (W : Int)] 30)) fun e w' => e = .returned (.int .u32 (sumN [W] : Nat)) ∧ (wr.alloc (.cells #[.int .u64 (W : Int)] 30)) = w') := by
        refine refSum_at (gb := wr.heap.size) (xs := [W]) ⟨_, 1, rfl, by simp [w64s], by simp [maxLen], fun _ => ⟨(Blk.new wr #[.int .u64 (W : Int)] 30).lt, 0, rfl, fun k hk => ?_⟩⟩ (by simpa using hwlt)
        have e : (#[Value.int .u64 (W : Int)] : Array Value) = (w64s [W]).toArray := rfl
        rw [(Blk.new wr #[.int .u64 (W : Int)] 30).cell, Nat.zero_add, e, List.getElem?_toArray]
      have hS := sumN_lt [W]
      generalize sumN [W] = S at *
      obtain ⟨ri, hri⟩ : ∃ ri : Int, ri = ((S % 4 : Nat) : Int) := ⟨_, rfl⟩
      have hr1 : ((S : Int)).tmod 4 = ri := by rw [hri, Int.ofNat_tmod]; rfl
      have hr2 : wrap64 ri = ri := w64_in (by omega) (by omega)
      have hcmp : ri = qi ↔ q = S % 4 := by have := HQI.out; omega
      clear hri
      generalize hm : (sprE (E.take j) q).length = m at *
      have HM := Lib.hid hm
      clear hm
      by_cases hb : ri = qi
      · have HSU2 : Hid (sprE (E.take (j + 1)) q = sprE (E.take j) q ++ [(nm, ino)]) := by
          show _ = _
          rw [HSU.out, if_pos (hcmp.1 hb)]
        subst hb
        clear hcmp
        have hc := HC01.out (wr.alloc (.cells #[.int .u64 (W : Int)] 30)) ((Keeps.refl [] wr).alloc _)
        obtain ⟨hc1, hc2⟩ := hc
        have HO1 := Lib.hid (ownsRow_keep HOW.out ((Keeps.refl [] wr).alloc (.cells #[.int .u64 (W : Int)] 30)) (by simp))
        go_wp2_with fail
        refine HWC.out.mono ?_; rintro e w' ⟨rfl, rfl⟩
        go_wp2_with fail
        refine HSC.out.mono ?_; rintro e w' ⟨rfl, rfl⟩
        go_wp2_with (at_builtin; refine wpList_append_own _ rfl _ _ 23 rfl w.heap.size 57 i0 (.agg #[.string ⟨#[]⟩, .int .i64 0]) 2 24 Tryd.underlying23 hi hz0 hz1 hz2 rfl (by decide) (.slice a5 m c5) m _ rfl (HO1.out.alloc _) ⟨wr.heap.size + 1, 0, none⟩ 1 1 [.string nm, .int .i64 ino] rfl rfl (new_cells _ [_, _] _ _ (by simp)) (fun u hu => by simp at hu; rcases hu with rfl | rfl <;> rfl) (by unfold maxLen; omega) (by omega) (by simp; omega) ?_)
        intro v' w2 hown1 hgrow _
        have HO2 := Lib.hid hown1
        have HK2 := Lib.hid (((HKP.out.alloc _).alloc _).grown hgrow (ownsRow_block HO1.out))
        clear hown1 hgrow hc1 hc2
        go_wp2_with fail
        go_roundg gk
        case measure => omega
        case rel =>
          refine ⟨j + 1, by omega, by go_num, ?_, HK2.out⟩
          have := HO2.out
          rw [HSU2.out, List.length_append, ecells_append, HM.out]
          exact this
      · have HSU2 : Hid (sprE (E.take (j + 1)) q = sprE (E.take j) q) := by
          show _ = _
          rw [HSU.out, if_neg (fun h => hb (hcmp.2 h))]
        have hb' : (ri == qi) = false := beq_eq_false_iff_ne.2 hb
        have HO1 := Lib.hid (ownsRow_keep HOW.out ((Keeps.refl [] wr).alloc (.cells #[.int .u64 (W : Int)] 30)) (by simp))
        clear hcmp hb
        go_wp2_with fail
        refine HWC.out.mono ?_; rintro e w' ⟨rfl, rfl⟩
        go_wp2_with fail
        refine HSC.out.mono ?_; rintro e w' ⟨rfl, rfl⟩
        go_wp2_with fail
        go_roundg gk
        case measure => omega
        case rel => exact ⟨j + 1, by omega, by go_num, by rw [HSU2.out, HM.out]; exact HO1.out, HKP.out.alloc _⟩

end Go.Proofs.YtmhcnkjmnbnldaaDoor

namespace Go.Proofs.YtmhcnkjmnbnldaaDoor
open Go.RowKit

set_option maxRecDepth 100000 in
set_option maxHeartbeats 1000000 in
theorem f1Awake_at (w : World) : Calls Tryd.prog 8 #[] w fun e w' => e = .returned (.bool true) ∧ Keeps [] w w' := by
  have hR := right_at ⟨1, 1, 0, 0, List.replicate 13 0, []⟩ (.slice none 0 0) 0 rfl w (EReads.nil w 0) (fun k hk => absurd hk (by show ¬ k < 0; omega))
  have hd : decide (RightP ⟨1, 1, 0, 0, List.replicate 13 0, []⟩) = true := by decide +kernel
  rw [hd] at hR
  have hz0 : inoC inoZ (.slice none 0 0) = #[.int .i64 0, .int .i64 0, .int .i64 0, .int .i64 0, .int .i64 0, .int .i64 0, .int .i64 0, .int .i64 0, .int .i64 0, .int .i64 0, .int .i64 0, .int .i64 0, .int .i64 0, .int .i64 0, .int .i64 0, .int .i64 0, .int .i64 0, .slice none 0 0] := rfl
  have h1 : inoC ⟨1, 1, 0, 0, List.replicate 13 0, []⟩ (.slice none 0 0) = #[.int .i64 1, .int .i64 1, .int .i64 0, .int .i64 0, .int .i64 0, .int .i64 0, .int .i64 0, .int .i64 0, .int .i64 0, .int .i64 0, .int .i64 0, .int .i64 0, .int .i64 0, .int .i64 0, .int .i64 0, .int .i64 0, .int .i64 0, .slice none 0 0] := rfl
  rw [h1] at hR
  have HR := Lib.hid hR
  have hzv := zero_ino
  rw [hz0] at hzv
  clear hR hd hz0 h1
  go_enter Tryd.func8, Tryd.ntmps8
  go_wp2_with fail
  refine HR.out.mono ?_; rintro e w1 ⟨rfl, hk1⟩
  have HK := Lib.hid hk1
  clear hk1
  go_wp2_with fail
  go_ret
  exact ⟨rfl, HK.out⟩

set_option maxRecDepth 100000 in
set_option maxHeartbeats 1000000 in
theorem refTag_at (n : Ino) (v : Value) (hB : n.B.length = 13) (ht : TagOk n) (w : World) : Calls Tryd.prog 47 #[.agg (inoC n v)] w fun e w' => e = .returned (.int .u64 (tagW n)) ∧ Keeps [] w w' := by
  have hat := inoAt v hB
  generalize inoC n v = Z at *
  have hb0 := Blk.new w Z 25
  have c0 : (w.alloc (.cells Z 25)).cell? ⟨w.heap.size, 0, none⟩ = some (.int .i64 n.F) := by rw [hb0.cell]; exact hat.f0
  have c1 : (w.alloc (.cells Z 25)).cell? ⟨w.heap.size, 1, none⟩ = some (.int .i64 n.K) := by rw [hb0.cell]; exact hat.f1
  have c2 : (w.alloc (.cells Z 25)).cell? ⟨w.heap.size, 2, none⟩ = some (.int .i64 n.L) := by rw [hb0.cell]; exact hat.f2
  have HK : Hid (Keeps [] w (w.alloc (.cells Z 25))) := (Keeps.refl [] w).alloc _
  obtain ⟨tf, tk, tl, -⟩ := ht
  have HT : Hid (tagW n = n.F + 256 * n.K + 65536 * n.L) := rfl
  have w0 : IntKind.u64.wrap n.F = n.F := wrap_nat64 tf.1 (by omega)
  have w1 : IntKind.u64.wrap n.K = n.K := wrap_nat64 tk.1 (by omega)
  have w2 : IntKind.u64.wrap n.L = n.L := wrap_nat64 tl.1 (by omega)
  have w3 : IntKind.u64.wrap (256 * n.K) = 256 * n.K := wrap_nat64 (by omega) (by omega)
  have w4 : IntKind.u64.wrap (65536 * n.L) = 65536 * n.L := wrap_nat64 (by omega) (by omega)
  have w5 : IntKind.u64.wrap (n.F + 256 * n.K) = n.F + 256 * n.K := wrap_nat64 (by omega) (by omega)
  have w6 : IntKind.u64.wrap (n.F + 256 * n.K + 65536 * n.L) = n.F + 256 * n.K + 65536 * n.L := wrap_nat64 (by omega) (by omega)
  clear hb0 hat hB
  rw [HT.out]
  generalize n.F = f at *
  generalize n.K = k at *
  generalize n.L = l at *
  go_enter Tryd.func47, Tryd.ntmps47
  go_wp2_with fail
  go_ret
  exact ⟨rfl, HK.out⟩

/-- Of the first k numbers, from the fifth on, one is a block's; or there are more than 5 blocks of entries. -/
def anyTo (B : List Int) (d k : Nat) : Bool := (List.range k).any fun j => decide (5 ≤ j) && (decide (0 < B.getD j 0) || decide (5 < d))

theorem anyTo_succ (B : List Int) (d k : Nat) : anyTo B d (k + 1) = (anyTo B d k || (decide (5 ≤ k) && (decide (0 < B.getD k 0) || decide (5 < d)))) := by
  unfold anyTo
  rw [List.range_succ, List.any_append]
  simp

/-- A list is needed, as the reference tells it. -/
def needL (n : Ino) : Nat := if anyTo n.B (blocksN n.E.length) 13 = true then 1 else 0

set_option maxRecDepth 100000 in
set_option maxHeartbeats 2000000 in
theorem refNeed_at (n : Ino) (a : Option Addr) (cap : Nat) (hB : n.B.length = 13) (hE : n.E.length ≤ 100000) (w : World) :
    Calls Tryd.prog 19 #[.agg (inoC n (.slice a n.E.length cap))] w fun e w' => e = .returned (.tuple #[.int .i64 ((blocksN n.E.length : Nat) : Int), .int .i64 ((needL n : Nat) : Int)]) ∧ Keeps [] w w' := by
  have hat := inoAt (.slice a n.E.length cap) hB
  generalize inoC n (.slice a n.E.length cap) = Z at *
  have hb0 := Blk.new w Z 25
  have c17 : (w.alloc (.cells Z 25)).cell? ⟨w.heap.size, 17, none⟩ = some (.slice a n.E.length cap) := by rw [hb0.cell]; exact hat.f5
  have HCB : Hid (∀ k, k < 13 → (w.alloc (.cells Z 25)).cell? ⟨w.heap.size, 4 + k, none⟩ = some (.int .i64 (n.B.getD k 0))) := fun k hk => by rw [hb0.cell]; exact hat.f4 k hk
  have HK : Hid (Keeps [] w (w.alloc (.cells Z 25))) := (Keeps.refl [] w).alloc _
  have HN : Hid (needL n = if anyTo n.B (blocksN n.E.length) 13 = true then 1 else 0) := rfl
  have HBN : Hid (blocksN n.E.length = (n.E.length + 3) / 4) := rfl
  clear hb0 hat hB
  generalize n.E.length = m at *
  go_enter Tryd.func19, Tryd.ntmps19
  go_wp2_with fail
  go_loopg [4] (blocksN m) (fun gh s4 wx => ∃ d : Nat, d + gh = blocksN m ∧ s4 = .int .i64 (d : Int) ∧ wx = w.alloc (.cells Z 25))
  case atStart => exact ⟨0, by omega, rfl, rfl⟩
  case round =>
    obtain ⟨d, hd, rfl, rfl⟩ := hrel
    have hw4 : wrap64 (4 * (d : Int)) = 4 * (d : Int) := by have := HBN.out; unfold wrap64; omega
    cases gk with
    | succ gg =>
      have hlt : 4 * (d : Int) < (m : Int) := by have := HBN.out; omega
      go_wp2_with fail
      go_roundg gg
      case measure => omega
      case rel => exact ⟨d + 1, by omega, by go_num, rfl⟩
    | zero =>
      have hnl : ¬ 4 * (d : Int) < (m : Int) := by have := HBN.out; omega
      have HDB : Hid (d = blocksN m) := by show d = _; omega
      clear hd
      go_wp2_with fail
      go_loopg [5, 6] 8 (fun gh s5 s6 wx => ∃ k : Nat, k + gh = 13 ∧ 5 ≤ k ∧ s6 = .int .i64 (k : Int) ∧ s5 = .int .i64 (if anyTo n.B d k = true then 1 else 0) ∧ wx = w.alloc (.cells Z 25))
      case atStart => exact ⟨5, by omega, by omega, rfl, rfl, rfl⟩
      case round =>
        obtain ⟨k, hk, hk5, rfl, rfl, rfl⟩ := hrel
        cases gk with
        | zero =>
          obtain rfl : k = 13 := by omega
          have HRES : Hid ((if anyTo n.B d 13 = true then (1 : Int) else 0) = ((needL n : Nat) : Int)) := by
            show _ = _
            rw [HN.out, HDB.out]
            split <;> rfl
          generalize (if anyTo n.B d 13 = true then (1 : Int) else 0) = x at *
          clear hk HN
          go_wp2_with fail
          go_ret2
          rw [← HDB.out, ← HRES.out]
          exact ⟨rfl, HK.out⟩
        | succ gg =>
          have hk13 : k < 13 := by omega
          have hlt : (k : Int) < 13 := by omega
          have hk0 : (0 : Int) ≤ (k : Int) := by omega
          have hcell := HCB.out k hk13
          have HSTEP := Lib.hid (anyTo_succ n.B d k)
          have HD5 : Hid (decide (5 ≤ k) = true) := decide_eq_true hk5
          generalize hs : anyTo n.B d k = t at *
          have HS := Lib.hid hs
          clear hs
          by_cases hx : 0 < n.B.getD k 0
          · have HE1 : Hid (anyTo n.B d (k + 1) = true) := by
              show _ = _
              rw [HSTEP.out, HD5.out, decide_eq_true hx]
              simp
            generalize n.B.getD k 0 = x at *
            go_wp2_with fail
            go_roundg gg
            case measure => omega
            case rel => exact ⟨k + 1, by omega, by omega, by go_num, by rw [HE1.out]; rfl, rfl⟩
          · by_cases h5 : 5 < d
            · have HE1 : Hid (anyTo n.B d (k + 1) = true) := by
                show _ = _
                rw [HSTEP.out, HD5.out, decide_eq_true h5]
                simp
              have h5' : (5 : Int) < (d : Int) := by omega
              generalize n.B.getD k 0 = x at *
              go_wp2_with fail
              go_roundg gg
              case measure => omega
              case rel => exact ⟨k + 1, by omega, by omega, by go_num, by rw [HE1.out]; rfl, rfl⟩
            · have HE1 : Hid (anyTo n.B d (k + 1) = t) := by
                show _ = _
                rw [HSTEP.out, decide_eq_false hx, decide_eq_false h5]
                simp
              have h5' : ¬ (5 : Int) < (d : Int) := by omega
              generalize n.B.getD k 0 = x at *
              cases t
              all_goals
                go_wp2_with fail
                go_roundg gg
                case measure => omega
                case rel => exact ⟨k + 1, by omega, by omega, by go_num, by rw [HE1.out]; rfl, rfl⟩

end Go.Proofs.YtmhcnkjmnbnldaaDoor

namespace Go.Proofs.YtmhcnkjmnbnldaaDoor
open Go.RowKit

/-- All words are those that would be laid. -/
def IsLaidP (X R : List Int) (n : Ino) (own : List Nat) : Prop :=
  (∀ k, k < own.length → (blocksF n own).getD k [] = rowL X (1080 + 8 * own.getD k 0)) ∧ rowF n own = R

theorem blocksF_len {n : Ino} {own : List Nat} (hR : RightP n) (ho : own.length = needF n) : (blocksF n own).length = own.length := by
  unfold blocksF
  rcases hR.2.2 with ⟨hK, hf⟩ | ⟨hK, hd⟩
  · rw [if_neg (by omega), ho, need_file hf, fileBlocks]
    by_cases h : (runsL n.B).length ≤ 6
    · rw [if_pos h, if_neg (by omega)]; rfl
    · rw [if_neg h, if_pos (by omega)]; rfl
  · rw [if_pos hK, dirTo_len, ho, need_dir hd]

theorem blocksF_len8 {n : Ino} {own : List Nat} {k : Nat} (hk : k < (blocksF n own).length) : ((blocksF n own).getD k []).length = 8 := by
  unfold blocksF at *
  by_cases hK : n.K = 2
  · rw [if_pos hK] at hk ⊢
    rw [dirTo_len] at hk
    obtain ⟨b, j, hb, hj, rfl⟩ := fst_cover n.E hk
    rw [dirTo_get n.E own hj hb]
    exact blkX_len (by rw [wordsE_len, chE_len]; omega) _
  · rw [if_neg hK] at hk ⊢
    unfold fileBlocks at *
    have h13 : (runsL n.B).length ≤ 13 := runsTo_len n.B 13
    by_cases h : (runsL n.B).length ≤ 6
    · rw [if_pos h] at hk; simp at hk
    · rw [if_neg h] at hk ⊢
      obtain rfl : k = 0 := by simpa using hk
      simp
      omega

/-- A block's words are loaded. -/
theorem breads_load {w : World} {v : Value} {g : Nat} {Ls : List (List Int)} (h : BReads w v g Ls) {k : Nat} (hk : k < Ls.length) (h8 : (Ls.getD k []).length = 8) :
    ∃ off cap, v = .slice (some ⟨g, off, none⟩) Ls.length cap ∧ g < w.heap.size ∧ ∀ wx, wx.heap[g]? = w.heap[g]? → (loadVar 63 ⟨g, off + k * 8, none⟩).run Tryd.prog wx = .ok (.agg (u64s (Ls.getD k [])).toArray) wx := by
  obtain ⟨a, cap, h1, h2, h3, h4⟩ := h
  obtain ⟨hg, off, rfl, hc⟩ := h4 (by omega)
  refine ⟨off, cap, h1, hg, fun wx hx => run_loadVar_cells g (off + k * 8) (u64s (Ls.getD k [])) Tryd.underlying63 rfl (by rw [u64s_len, h8]; exact size_r8) fun j hj => ?_⟩
  rw [u64s_len, h8] at hj
  rw [World.cell?_of_block (w := w) (a := ⟨g, off + k * 8 + j, none⟩) hx, hc k hk j hj, u64s_get (by rw [h8]; exact hj)]

set_option maxRecDepth 100000 in
set_option maxHeartbeats 8000000 in
theorem isLaid_at {w : World} {b gp : Nat} {B : List Int} {ps : List (Int × Int)} (hSh : ShAt w b gp B ps) (n : Ino) (v : Value) (g : Nat) (hB : n.B.length = 13) (hR : RightP n) (hE : EReads w v g n.E) (vo : Value) (go : Nat) (own : List Nat) (hO : Reads w vo go (i64s own)) (ho : own.length = needF n) (h256 : ∀ c ∈ own, c < 256) {R : List Int} (hR8 : R.length = 8) :
    Calls Tryd.prog 58 #[.pointer (some ⟨b, 0, none⟩), .agg (u64s R).toArray, .agg (inoC n v), vo] w fun e w' => ∃ t : Bool, e = .returned (.bool t) ∧ (t = true ↔ IsLaidP (putAll B ps) R n own) ∧ Keeps [] w w' := by
  obtain ⟨ao, co, rfl, hoc, hom, HOC⟩ := ints_cellR hO
  obtain ⟨W0, hW0⟩ : ∃ W0, W0 = (w.alloc (.cells (u64s R).toArray 63)).alloc (.cells (inoC n v) 25) := ⟨_, rfl⟩
  have hb5 : Blk W0 w.heap.size (u64s R).toArray 63 := by
    rw [hW0]
    exact (Blk.new w _ _).alloc _
  have hb6 : Blk W0 (w.heap.size + 1) (inoC n v) 25 := by
    have := Blk.new (w.alloc (.cells (u64s R).toArray 63)) (inoC n v) 25
    have e : (w.alloc (.cells (u64s R).toArray 63)).heap.size = w.heap.size + 1 := by simp
    rw [e] at this
    rw [hW0]
    exact this
  have hk0 : Keeps [] w W0 := by
    rw [hW0]
    exact ((Keeps.refl _ _).alloc _).alloc _
  have HLI := Lib.hid (load_ino hb6 hB)
  have HLA := Lib.hid (laid_at n v g hB hR (hE.keep hk0 (by simp)) (.slice ao own.length co) go own (hO.keep hk0 (by simp)) ho h256)
  have hbl := blocksF_len hR ho
  have HB8 : Hid (∀ k, k < own.length → ((blocksF n own).getD k []).length = 8) := fun k hk => blocksF_len8 (by omega)
  have hrl := rowF_len n own
  have hzv := zero_r8
  have hol : own.length ≤ 4001 := by
    rw [ho]
    have := needTo_le n (by rcases hR.2.2 with ⟨-, hf⟩ | ⟨-, hd⟩; · have := hf.2.1; omega
                            · have := hd.1; omega) 4
    unfold needF
    have h2 := hR.2.2
    rcases h2 with ⟨-, hf⟩ | ⟨-, hd⟩
    · have := need_file hf
      unfold needF at this
      rw [this]
      split <;> omega
    · have h3 := need_dir hd
      have h24 := hd.1
      unfold needF at h3
      rw [h3]
      have e0 := sprE_len n.E 0
      have e1 := sprE_len n.E 1
      have e2 := sprE_len n.E 2
      have e3 := sprE_len n.E 3
      simp only [fstN, dN]
      omega
  have HIS : Hid (∀ t, (t = true ↔ IsLaidP (putAll B ps) R n own) ↔ (t = true ↔ ((∀ k, k < own.length → (blocksF n own).getD k [] = rowL (putAll B ps) (1080 + 8 * own.getD k 0)) ∧ rowF n own = R))) := fun t => Iff.rfl
  have HSH := Lib.hid (hSh.keep hk0 (by simp) (by simp))
  have HW0 := Lib.hid hW0
  have HK0 := Lib.hid hk0
  have HB5 := Lib.hid hb5
  have H256 : Hid (∀ k, k < own.length → own.getD k 0 < 256) := fun k hk => h256 _ (by rw [List.getD_eq_getElem?_getD, List.getElem?_eq_getElem hk]; exact List.getElem_mem hk)
  have HR8 := Lib.hid hR8
  have hs0 : W0.heap.size = w.heap.size + 1 + 1 := by rw [hW0]; simp
  clear hb5 hb6 hk0 hW0 hE hO hR ho h256 hB hSh
  generalize hRW : rowF n own = RW at *
  generalize hBW : blocksF n own = BW at *
  generalize inoC n v = Z at *
  generalize hzr : (u64s R).toArray = ZR at *
  have HZR := Lib.hid hzr
  generalize hz8 : (u64s (List.replicate 8 0)).toArray = Z8 at *
  have HZ8 := Lib.hid hz8
  clear hRW hBW hzr hz8
  generalize hn : own.length = nn at *
  have HN := Lib.hid hn
  clear hn
  go_enter Tryd.func58, Tryd.ntmps58
  go_wp2_with ((with_reducible show wpList _ _ _ (⟨_, .load 25 (.tmp 6), _, _, _, _⟩ :: _) _ _); rw [← HW0.out]; refine wpList_load_any rfl 25 (.tmp 6) rfl _ rfl _ HLI.out ?_)
  refine HLA.out.mono ?_; rintro e w1 ⟨vb, gb, rfl, hb, hg, hk1⟩
  obtain ⟨w2, hS1, hb9, hk2⟩ := store_whole (P := Tryd.prog) (ty := 63) (cs := u64s RW) (by rw [u64s_len, hrl]; exact size_r8) (Blk.new w1 Z8 63) (by rw [← HZ8.out]; simp [u64s_len, hrl]) (u64s_one _)
  have hz1 := hk1.size
  have HS1 := Lib.hid hS1
  have HK2 : Hid (Keeps [] W0 w2) := (hk1.alloc (.cells Z8 63)).trans hk2 (by intro x hx; rw [List.mem_singleton] at hx; omega)
  have HB9 := Lib.hid hb9
  have HBW : Hid (BReads w2 vb gb BW) := by
    obtain ⟨a, cap, q1, q2, q3, q4⟩ := hb
    refine BReads.keep (l := [w1.heap.size]) ⟨a, cap, q1, q2, q3, q4⟩ (((Keeps.refl [w1.heap.size] w1).alloc (.cells Z8 63)).trans' hk2) fun h0 hm => ?_
    have := (q4 h0).1
    rw [List.mem_singleton] at hm
    omega
  clear hS1 hb9 hk2 hk1 hb hg hz1
  generalize hg9 : w1.heap.size = g9 at *
  go_wp2_with ((with_reducible show wpList _ _ _ (⟨_, .store 63 (.tmp 9) (.tmp 17), _, _, _, _⟩ :: _) _ _); refine wpList_store_any rfl 63 (.tmp 9) (.tmp 17) rfl _ rfl _ rfl _ HS1.out ?_)
  go_loopg [21] nn (fun gh s21 wx => ∃ k : Nat, k + gh = nn ∧ s21 = .int .i64 (k : Int) ∧ Hid ((∀ j, j < k → BW.getD j [] = rowL (putAll B ps) (1080 + 8 * own.getD j 0)) ∧ Keeps [] w2 wx))
  case atStart => exact ⟨0, by omega, rfl, fun j hj => by omega, Keeps.refl _ _⟩
  case round =>
    obtain ⟨k, hk, rfl, HP⟩ := hrel
    obtain ⟨hall, hkp⟩ := HP.out
    cases gk with
    | zero =>
      obtain rfl : k = nn := by omega
      have HL9 := Lib.hid (load_r8 (HB9.out.keep hkp (by simp)) hrl)
      have HL5 : Hid ((loadVar 63 ⟨w.heap.size, 0, none⟩).run Tryd.prog wr = .ok (.agg ZR) wr) := by
        have := (HB5.out.keep HK2.out (by simp)).keep hkp (by simp)
        rw [← HZR.out] at this ⊢
        exact load_r8 this HR8.out
      have HEQ := fun wx => eq_r8 (a := RW) (b := R) hrl HR8.out wx
      have hgr8 := guard_r8
      rw [HZR.out] at HEQ
      obtain ⟨t, ht⟩ : ∃ t, decide (RW = R) = t := ⟨_, rfl⟩
      rw [ht] at HEQ
      have HF : Hid (∃ t' : Bool, Ending.returned (.bool t) = .returned (.bool t') ∧ (t' = true ↔ IsLaidP (putAll B ps) R n own) ∧ Keeps [] w wr) := by
        refine ⟨t, rfl, (HIS.out t).2 ?_, HK0.out.trans' (HK2.out.trans' hkp)⟩
        rw [← ht, decide_eq_true_iff]
        exact ⟨fun h => ⟨hall, h⟩, fun h => h.2⟩
      have HEQ' := HEQ
      clear hall hkp HP ht HEQ
      generalize (u64s RW).toArray = ZW at *
      go_wp2_with (first | ((with_reducible show wpList _ _ _ (⟨_, .load 63 (.tmp 9), _, _, _, _⟩ :: _) _ _); refine wpList_load_any rfl 63 (.tmp 9) rfl _ rfl _ HL9.out ?_) | ((with_reducible show wpList _ _ _ (⟨_, .load 63 (.tmp 5), _, _, _, _⟩ :: _) _ _); refine wpList_load_any rfl 63 (.tmp 5) rfl _ rfl _ HL5.out ?_))
      go_ret
      exact HF.out
    | succ gg =>
      have hkn : k < nn := by omega
      have hlt : (k : Int) < (nn : Int) := by omega
      have hk0 : (0 : Int) ≤ (k : Int) := by omega
      obtain ⟨hgo, offo, rfl, hco⟩ := HOC.out k hkn
      have c0 := (World.cell?_of_block (w := w) (w' := wr) (a := ⟨go, offo + k, none⟩) ((HK0.out.trans' (HK2.out.trans' hkp)).block go hgo (by simp))).trans hco
      have hx := H256.out k hkn
      obtain ⟨off, cap, rfl, hgb, hld⟩ := breads_load HBW.out (k := k) (by omega) (HB8.out k hkn)
      rw [hbl] at *
      have HLD : Hid (∀ wx, Keeps [] wr wx → (loadVar 63 ⟨gb, off + k * 8, none⟩).run Tryd.prog wx = .ok (.agg (u64s (BW.getD k [])).toArray) wx) := fun wx hkx => hld wx ((hkp.trans' hkx).block gb hgb (by simp))
      obtain ⟨x, hxe⟩ : ∃ x, x = own.getD k 0 := ⟨_, rfl⟩
      rw [← hxe] at hx c0
      have HBL := Lib.hid (fun wx => txBlock_at (x : Int) wx)
      have HBN : Hid (blockN (x : Int) = ((1080 + 8 * x : Nat) : Int)) := by
        show _ = _
        rw [blockN, if_neg (by omega)]
        omega
      rw [HBN.out] at HBL
      have HROW : Hid (∀ wx, Keeps [] wr wx → Calls Tryd.prog 40 #[.pointer (some ⟨b, 0, none⟩), .int .i64 ((1080 + 8 * x : Nat) : Int)] wx fun e w' => e = .returned (.agg (u64s (rowL (putAll B ps) (1080 + 8 * x))).toArray) ∧ Keeps [] wx w') := fun wx hkx =>
        rowAt_at (((HSH.out.keep HK2.out (by simp) (by simp)).keep hkp (by simp) (by simp)).keep hkx (by simp) (by simp)) (1080 + 8 * x) (by omega)
      have HEQ := fun wx => eq_r8 (a := BW.getD k []) (b := rowL (putAll B ps) (1080 + 8 * x)) (HB8.out k hkn) (rowL_len _ _) wx
      have hgr8 := guard_r8
      obtain ⟨t, ht⟩ : ∃ t, decide (BW.getD k [] = rowL (putAll B ps) (1080 + 8 * x)) = t := ⟨_, rfl⟩
      rw [ht] at HEQ
      have HALL := Lib.hid hall
      have HKP := Lib.hid hkp
      have HT : Hid (t = true ↔ BW.getD k [] = rowL (putAll B ps) (1080 + 8 * own.getD k 0)) := by
        show _ ↔ _
        rw [← ht, decide_eq_true_iff, hxe]
      have heq8 := HEQ
      clear hall hkp HP hco hgo hgb hld HBW ht hx hxe HBN HEQ
      generalize hpx : ((1080 + 8 * x : Nat) : Int) = px at *
      generalize hxi : (x : Int) = xi at *
      generalize (u64s (BW.getD k [])).toArray = ZQ at *
      generalize (u64s (rowL (putAll B ps) (1080 + 8 * x))).toArray = ZP at *
      clear hpx hxi
      cases t
      all_goals
        go_wp2_with fail
        refine wp_region_each (S := fun wx => Keeps [] wr wx) (by kernel_rfl) (by kernel_rfl) (fun d _ _ _ _ h => by cases d <;> exact h) ((Keeps.refl _ _).drew) (by kernel_rfl) ?_
        repeat (first
          | (refine EachList.cons (.agg ZQ) (EachIf.load rfl 63 (.tmp 28) rfl _ rfl fun wx hx => HLD.out wx hx) ?_; simp only [Act.put, List.setIfInBounds_toArray, List.set_cons_zero, List.set_cons_succ])
          | (refine EachList.cons (.int .i64 px) (EachIf.call rfl 36 #[.int .i64 xi] ?he ?h) ?_; (case he => (intro wz; go_simp)); (case h => exact fun wx hx => (HBL.out wx).mono fun e w' he => ⟨he.1, he.2 ▸ hx⟩); simp only [Act.put, List.setIfInBounds_toArray, List.set_cons_zero, List.set_cons_succ])
          | (refine EachList.cons (.agg ZP) (EachIf.call rfl 40 #[.pointer (some ⟨b, 0, none⟩), .int .i64 px] ?he ?h) ?_; (case he => (intro wz; go_simp)); (case h => exact fun wx hx => (HROW.out wx hx).mono fun e w' he => ⟨he.1, hx.trans' he.2⟩); simp only [Act.put, List.setIfInBounds_toArray, List.set_cons_zero, List.set_cons_succ])
          | (refine EachList.cons ?_ (EachIf.val rfl ?h) ?_; (case h => (intro wx hx; clear hx; go_simp; rfl)); simp only [Act.put, List.setIfInBounds_toArray, List.set_cons_zero, List.set_cons_succ]))
        refine EachList.done fun wz hx => ?_
        have HKZ := Lib.hid hx
        clear hx
      · have HF : Hid (∃ t' : Bool, Ending.returned (.bool false) = .returned (.bool t') ∧ (t' = true ↔ IsLaidP (putAll B ps) R n own) ∧ Keeps [] w wz) := by
          refine ⟨false, rfl, (HIS.out false).2 ⟨fun h => (by cases h), fun h => ?_⟩, HK0.out.trans' (HK2.out.trans' (HKP.out.trans' HKZ.out))⟩
          have := HT.out.2 (h.1 k hkn)
          cases this
        go_wp2_with fail
        go_ret
        exact HF.out
      · have HN : Hid ((∀ j, j < k + 1 → BW.getD j [] = rowL (putAll B ps) (1080 + 8 * own.getD j 0)) ∧ Keeps [] w2 wz) := by
          refine ⟨fun j hj => ?_, HKP.out.trans' HKZ.out⟩
          by_cases e : j = k
          · subst e; exact HT.out.1 (by trivial)
          · exact HALL.out j (by omega)
        clear HALL HT HIS
        go_wp2_with fail
        go_roundg gg
        case measure => omega
        case rel => exact ⟨k + 1, by omega, by go_num, HN.out⟩

end Go.Proofs.YtmhcnkjmnbnldaaDoor
