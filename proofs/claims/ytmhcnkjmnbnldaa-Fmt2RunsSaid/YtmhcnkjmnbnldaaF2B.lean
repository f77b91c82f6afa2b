/-
  Layer 7 (fmt2): imagoref07.Runs.
-/
import Derived.Test.YtmhcnkjmnbnldaaF2A
namespace Go.Proofs.Ytmhcnkjmnbnldaa
open Go.RowKit

theorem w64_in {x : Int} (h0 : -9223372036854775808 ≤ x) (h1 : x < 9223372036854775808) : wrap64 x = x := by unfold wrap64; omega

theorem num_u64 {x : Int} (h0 : 0 ≤ x) (h1 : x < 18446744073709551616) : IntKind.u64.wrap x = x := by
  simp [IntKind.wrap, IntKind.bits, IntKind.signed]; omega

/-- The word as it is reckoned. -/
theorem runW_sum (k b n : Nat) (hk : k < 256) (hb : b < 256) (hn : n < 256) : ∃ A1 A2 A3 : Int, IntKind.u64.wrap ((k : Int) * 4294967296) = A1 ∧ IntKind.u64.wrap ((b : Int) * 256) = A2 ∧ IntKind.u64.wrap (A1 + A2) = A3 ∧ IntKind.u64.wrap (A3 + (n : Int)) = runW k (b : Int) n := by
  refine ⟨(k : Int) * 4294967296, (b : Int) * 256, (k : Int) * 4294967296 + (b : Int) * 256, num_u64 (by omega) (by omega), num_u64 (by omega) (by omega), num_u64 (by omega) (by omega), ?_⟩
  unfold runW
  exact num_u64 (by omega) (by omega)

theorem q_facts {f q : Nat} (h : 0 < f) (hq : q = f - 1) (h13 : f < 13) : (f : Int) - 1 = (q : Int) ∧ wrap64 (q : Int) = (q : Int) ∧ (0 : Int) < (f : Int) ∧ q < 13 :=
  ⟨by omega, w64_in (by omega) (by omega), by omega, by omega⟩

theorem b_facts {b y : Nat} (hb : 0 < b) (hy : y = b - 1) (h256 : b < 256) : (b : Int) - 1 = (y : Int) ∧ wrap64 (y : Int) = (y : Int) :=
  ⟨by omega, w64_in (by omega) (by omega)⟩

theorem j_facts {f n j b m : Nat} (hj : j = f + n) (hm : m = b + n) (h13 : j ≤ 13) (hb : b < 256) : (f : Int) + (n : Int) = (j : Int) ∧ (0 : Int) ≤ (j : Int) ∧ (b : Int) + (n : Int) = (m : Int) ∧ wrap64 (j : Int) = (j : Int) ∧ wrap64 (m : Int) = (m : Int) ∧ n < 256 ∧ f < 256 :=
  ⟨by omega, by omega, by omega, w64_in (by omega) (by omega), w64_in (by omega) (by omega), by omega, by omega⟩

theorem u_facts {n : Nat} (h : n < 256) : IntKind.u64.wrap (n : Int) = (n : Int) := num_u64 (by omega) (by omega)

set_option maxRecDepth 100000 in
set_option maxHeartbeats 40000000 in
theorem refRuns_at (l : List Int) (hl : l.length = 13) (w : World) : Calls Try.prog 6 #[.agg (zs l).toArray] w (MadeWords w (runsL l)) := by
  obtain ⟨i0, hi, hz0, hz1, hz2⟩ := info_parts Try.info_u64
  have hb0 := Blk.new w (zs l).toArray 22
  have HK0 : Hid (Keeps [] w (w.alloc (.cells (zs l).toArray 22))) := (Keeps.refl _ _).alloc _
  have HC0 : Hid (∀ wx k, k < 13 → Keeps [] (w.alloc (.cells (zs l).toArray 22)) wx → wx.cell? ⟨w.heap.size, k, none⟩ = some (.int .i64 (l.getD k 0))) := fun wx k hk hkp => by
    rw [(hb0.keep hkp (by simp)).cell, List.getElem?_toArray, zs_get (by omega)]
  clear hb0
  have HL := Lib.hid hl
  clear hl
  generalize hz : (zs l).toArray = Z at *
  clear hz
  go_enter Try.func6, Try.ntmps6
  go_wp2_with fail
  go_loopg [3, 4] 13 (fun gh s3 s4 wx => ∃ f : Nat, f + gh = 13 ∧ s4 = .int .i64 (f : Int) ∧ Hid (wx.ownsRow (w.heap.size + 1) 26 1 s3 (runsTo l f).length (u64s (runsTo l f)) ∧ Keeps [] (w.alloc (.cells Z 22)) wx))
  case atStart => exact ⟨0, by omega, rfl, ⟨rfl, .inl ⟨rfl, rfl⟩⟩, Keeps.refl _ _⟩
  case round =>
    obtain ⟨f, hf, rfl, HR⟩ := hrel
    cases gk with
    | zero =>
      obtain rfl : f = 13 := by omega
      have HM : Hid (MadeWords w (runsL l) (.returned u3) wr) := Words.made ⟨HR.out.1, runsTo_len l 13, HK0.out.trans' HR.out.2⟩
      clear hf HR
      go_wp2_with fail
      go_ret
      exact HM.out
    | succ gg =>
      have hf13 : f < 13 := by omega
      have hlt : (f : Int) < 13 := by omega
      have hf0 : (0 : Int) ≤ (f : Int) := by omega
      have hcf := HC0.out wr f hf13 HR.out.2
      have hx64 : True := trivial
      have HOW := Lib.hid HR.out.1
      have HKP := Lib.hid HR.out.2
      have HRL := Lib.hid (runsTo_len l f)
      clear HR
      obtain ⟨a, cap, rfl, q1, q2⟩ := ownsRow_val HOW.out
      by_cases hB : isB (l.getD f 0)
      · have HXB := Lib.hid hB
        generalize hx : l.getD f 0 = x at *
        have HX := Lib.hid hx
        clear hx
        have hx1 : 0 < x := hB.1
        have hx2 : x < 256 := hB.2
        obtain ⟨b, rfl⟩ : ∃ b : Nat, x = (b : Int) := ⟨x.toNat, by omega⟩
        clear hB
        have h255 : ¬ 255 < (b : Int) := by omega
        have hb1 : ¬ (b : Int) < 1 := by omega
        have HB256 : Hid (b < 256) := by show _ < _; omega
        have hFF : Hid (f + gg = 12) := by show _ = _; omega
        by_cases hC : contP l f
        · have HN : Hid (runsTo l (f + 1) = runsTo l f) := by
            show _ = _
            rw [runsTo, if_neg (fun hs => hs.2 hC)]
          obtain ⟨c1, -, -, ⟨c2, -⟩, c3⟩ := hC
          obtain ⟨q, hq⟩ : ∃ q, q = f - 1 := ⟨_, rfl⟩
          rw [HX.out] at c3
          rw [← hq] at c2 c3
          obtain ⟨hq1, hqw, hf1, hq13⟩ := q_facts c1 hq hf13
          have hcq := HC0.out wr q hq13 HKP.out
          obtain ⟨p, hp⟩ : ∃ p : Nat, l.getD q 0 = (p : Int) := ⟨(l.getD q 0).toNat, by clear hx64 hcf hqw; omega⟩
          rw [hp] at hcq c2 c3
          obtain ⟨hb2, hb3⟩ := b_facts (b := b) (y := p) (by omega) (by omega) (by omega)
          clear hq c3 HXB hp c1
          generalize hbi : (b : Int) = bi at *
          generalize hpi : (p : Int) = pi at *
          clear hbi hpi
          go_wp2_with fail
          go_roundg gg
          case measure => omega
          case rel => exact ⟨f + 1, by omega, by go_num, by rw [HN.out]; exact HOW.out, HKP.out⟩
        · have HST : Hid (startP l f) := ⟨by rw [HX.out]; exact HXB.out, hC⟩
          have HXB2 : Hid (isB (l.getD f 0)) := by show isB _; rw [HX.out]; exact HXB.out
          clear HXB
          have HXB := HXB2
          clear HXB2
          have hways : f = 0 ∨ (0 < f ∧ ¬ (0 < l.getD (f - 1) 0)) ∨ (0 < f ∧ 0 < l.getD (f - 1) 0 ∧ l.getD (f - 1) 0 ≠ (b : Int) - 1) := by
            by_cases h1 : f = 0
            · exact .inl h1
            · by_cases h2 : 0 < l.getD (f - 1) 0
              · refine .inr (.inr ⟨by omega, h2, fun h3 => hC ?_⟩)
                unfold contP isB
                rw [HX.out]
                omega
              · exact .inr (.inl ⟨by omega, h2⟩)
          clear hC
          rcases hways with h1 | ⟨h1, h2⟩ | ⟨h1, h2, h3⟩
          · have hf1 : ¬ (0 : Int) < (f : Int) := by clear hx64; omega
            clear h1
            go_wp2_with fail
            clear hf1 hcf
            go_loopg [6] (12 - f) (fun gh s6 wx => ∃ n : Nat, f + n + gh = 13 ∧ s6 = .int .i64 (n : Int) ∧ Hid (0 < n ∧ (∀ i, f < i → i < f + n → contP l i)) ∧ wx = wr)
            case atStart => exact ⟨1, by omega, rfl, ⟨by omega, fun i h1 h2 => by omega⟩, rfl⟩
            case round =>
              obtain ⟨n, hn, rfl, HN, rfl⟩ := hrel
              have HCI := Lib.hid (cont_iff2 (HXB.out) (show f < f + n by have := HN.out.1; omega) HN.out.2)
              rw [HX.out, show f + n - f = n by omega] at HCI
              have hn0 := HN.out.1
              have hn0' : (0 : Int) ≤ (n : Int) := by omega
              obtain ⟨j, hj⟩ : ∃ j, j = f + n := ⟨_, rfl⟩
              obtain ⟨m, hm⟩ : ∃ m : Nat, m = b + n := ⟨_, rfl⟩
              obtain ⟨hj1, hj0, hm1, hjw, hmw, hn256, hf256⟩ := j_facts hj hm (by clear hx64; omega) (by clear hx64; omega)
              rw [← hj, hm1] at HCI
              generalize hmi : (m : Int) = mi at *
              clear hmi hm
              obtain ⟨ji, hji⟩ : ∃ ji : Int, ji = (j : Int) := ⟨_, rfl⟩
              have hjt : ji.toNat = j := by rw [hji]; exact Int.toNat_natCast j
              rw [← hji] at hj1 hj0 hjw
              have HJI := Lib.hid hji
              have HWJ := Lib.hid hjw
              clear hji
              have HWM := Lib.hid hmw
              have HX64 := Lib.hid hx64
              clear hjw hmw hx64
              have HNN := HN.out.2
              rw [← hj] at HNN
              have HCONT := Lib.hid HNN
              clear HNN
              by_cases hC : contP l j
              · obtain ⟨c1, c2, c3⟩ := HCI.out.1 hC
                have hcl : ji < 13 := by have := HJI.out; omega
                have hcj := HC0.out wr j c1 HKP.out
                rw [c2] at hcj
                have hm256 : mi < 256 := c3
                have HNX : Hid (0 < n + 1 ∧ (∀ i, f < i → i < f + (n + 1) → contP l i)) := ⟨by omega, fun i h1 h2 => by
                  by_cases e : i = j
                  · subst e; exact hC
                  · exact HCONT.out i h1 (by omega)⟩
                have hj13 : j < 13 := c1
                clear HCI hC HN c2 hj
                have hjw := HWJ.out
                have hmw := HWM.out
                go_wp2_with fail
                go_roundg (gk - 1)
                case measure => clear hjw hmw; omega
                case rel => clear hjw hmw; exact ⟨n + 1, by omega, by go_num, HNX, rfl⟩
              · have HFIN : Hid (runsTo l j = runsTo l f ++ [runW f (b : Int) n] ∧ runsTo l (f + 1) = runsTo l f ++ [runW f (b : Int) n]) := by
                  have h1 := runsTo_run HST.out (show f < j by omega) (by omega) HCONT.out hC
                  rw [HX.out, show j - f = n by omega] at h1
                  refine ⟨h1, ?_⟩
                  rw [← h1]
                  exact (runsTo_cont l (f + 1) j (by omega) fun i h2 h3 => HCONT.out i (by omega) h3).symm
                have hways : (¬ ji < 13) ∨ (ji < 13 ∧ j < 13 ∧ l.getD j 0 ≠ mi) ∨ (ji < 13 ∧ j < 13 ∧ l.getD j 0 = mi ∧ ¬ mi < 256) := by
                  have hjie := HJI.out
                  by_cases h1 : j < 13
                  · by_cases h2 : l.getD j 0 = mi
                    · exact .inr (.inr ⟨by omega, h1, h2, fun h3 => hC (HCI.out.2 ⟨h1, h2, h3⟩)⟩)
                    · exact .inr (.inl ⟨by omega, h1, h2⟩)
                  · exact .inl (by omega)
                obtain ⟨A1, A2, A3, a1, a2, a3, a4⟩ := runW_sum f b n hf256 HB256.out hn256
                have hwn := u_facts hn256
                have hwf := u_facts hf256
                have hwb := u_facts HB256.out
                have hlb : (runsTo l f).length ≤ 13 := by have := HRL.out; omega
                have hwr : w.heap.size + 1 ≤ wr.heap.size := by have := HKP.out.size; simpa using this
                clear HCI hC HN hj hf HCONT
                generalize runW f (b : Int) n = W at *
                generalize hL : runsTo l f = L at *
                have HLE := Lib.hid hL
                clear hL
                have hcell := HC0.out wr j
                have hjw := HWJ.out
                have hmw := HWM.out
                rcases hways with h1 | ⟨h1, h2, h3⟩ | ⟨h1, h2, h3, h4⟩
                · skip
                  clear hcell
                  go_wp2_with (at_builtin; refine wpList_append_own _ rfl _ _ 24 rfl (w.heap.size + 1) 26 i0 (.int .u64 0) 1 8 Try.underlying24 hi hz0 hz1 hz2 rfl (by decide) (.slice a L.length cap) L.length _ rfl (HOW.out.alloc _) ⟨wr.heap.size, 0, none⟩ 1 1 [.int .u64 W] rfl rfl (new_cells _ [_] _ _ rfl) (fun u hu => by rw [List.mem_singleton] at hu; subst hu; rfl) (by unfold maxLen; clear hjw hmw; omega) (by clear hjw hmw; omega) (by clear hjw hmw; simp; omega) ?_)
                  intro v' w1 hown1 hgrow _
                  have HO1 := Lib.hid hown1
                  have HK1 := Lib.hid ((HKP.out.alloc _).grown hgrow (fun k hk => by have := ownsRow_block HOW.out k hk; simpa using this))
                  clear hown1 hgrow
                  go_wp2_with fail
                  clear hjw hmw
                  go_roundg gg
                  case measure => omega
                  case rel =>
                    refine ⟨f + 1, by have := hFF.out; omega, by go_num, ?_, HK1.out⟩
                    have := HO1.out
                    rw [HFIN.out.2, List.length_append, u64s_append]
                    exact this
                · have hcj := hcell h2 HKP.out
                  have h3' : (l.getD j 0 == mi) = false := beq_eq_false_iff_ne.2 h3
                  clear h3
                  generalize l.getD j 0 = y at *
                  clear hcell
                  go_wp2_with (at_builtin; refine wpList_append_own _ rfl _ _ 24 rfl (w.heap.size + 1) 26 i0 (.int .u64 0) 1 8 Try.underlying24 hi hz0 hz1 hz2 rfl (by decide) (.slice a L.length cap) L.length _ rfl (HOW.out.alloc _) ⟨wr.heap.size, 0, none⟩ 1 1 [.int .u64 W] rfl rfl (new_cells _ [_] _ _ rfl) (fun u hu => by rw [List.mem_singleton] at hu; subst hu; rfl) (by unfold maxLen; clear hjw hmw; omega) (by clear hjw hmw; omega) (by clear hjw hmw; simp; omega) ?_)
                  intro v' w1 hown1 hgrow _
                  have HO1 := Lib.hid hown1
                  have HK1 := Lib.hid ((HKP.out.alloc _).grown hgrow (fun k hk => by have := ownsRow_block HOW.out k hk; simpa using this))
                  clear hown1 hgrow hcj
                  go_wp2_with fail
                  clear hjw hmw
                  go_roundg gg
                  case measure => omega
                  case rel =>
                    refine ⟨f + 1, by have := hFF.out; omega, by go_num, ?_, HK1.out⟩
                    have := HO1.out
                    rw [HFIN.out.2, List.length_append, u64s_append]
                    exact this
                · have hcj := hcell h2 HKP.out
                  rw [h3] at hcj
                  clear h3
                  clear hcell
                  go_wp2_with (at_builtin; refine wpList_append_own _ rfl _ _ 24 rfl (w.heap.size + 1) 26 i0 (.int .u64 0) 1 8 Try.underlying24 hi hz0 hz1 hz2 rfl (by decide) (.slice a L.length cap) L.length _ rfl (HOW.out.alloc _) ⟨wr.heap.size, 0, none⟩ 1 1 [.int .u64 W] rfl rfl (new_cells _ [_] _ _ rfl) (fun u hu => by rw [List.mem_singleton] at hu; subst hu; rfl) (by unfold maxLen; clear hjw hmw; omega) (by clear hjw hmw; omega) (by clear hjw hmw; simp; omega) ?_)
                  intro v' w1 hown1 hgrow _
                  have HO1 := Lib.hid hown1
                  have HK1 := Lib.hid ((HKP.out.alloc _).grown hgrow (fun k hk => by have := ownsRow_block HOW.out k hk; simpa using this))
                  clear hown1 hgrow hcj
                  go_wp2_with fail
                  clear hjw hmw
                  go_roundg gg
                  case measure => omega
                  case rel =>
                    refine ⟨f + 1, by have := hFF.out; omega, by go_num, ?_, HK1.out⟩
                    have := HO1.out
                    rw [HFIN.out.2, List.length_append, u64s_append]
                    exact this
          · obtain ⟨q, hq⟩ : ∃ q, q = f - 1 := ⟨_, rfl⟩
            rw [← hq] at h2
            obtain ⟨hq1, hqw, hf1, hq13⟩ := q_facts h1 hq hf13
            have hcq := HC0.out wr q hq13 HKP.out
            clear hq
            generalize l.getD q 0 = p at *
            go_wp2_with fail
            clear hf1 h1 hcf h2 hcq hq1 hqw hq13
            go_loopg [6] (12 - f) (fun gh s6 wx => ∃ n : Nat, f + n + gh = 13 ∧ s6 = .int .i64 (n : Int) ∧ Hid (0 < n ∧ (∀ i, f < i → i < f + n → contP l i)) ∧ wx = wr)
            case atStart => exact ⟨1, by omega, rfl, ⟨by omega, fun i h1 h2 => by omega⟩, rfl⟩
            case round =>
              obtain ⟨n, hn, rfl, HN, rfl⟩ := hrel
              have HCI := Lib.hid (cont_iff2 (HXB.out) (show f < f + n by have := HN.out.1; omega) HN.out.2)
              rw [HX.out, show f + n - f = n by omega] at HCI
              have hn0 := HN.out.1
              have hn0' : (0 : Int) ≤ (n : Int) := by omega
              obtain ⟨j, hj⟩ : ∃ j, j = f + n := ⟨_, rfl⟩
              obtain ⟨m, hm⟩ : ∃ m : Nat, m = b + n := ⟨_, rfl⟩
              obtain ⟨hj1, hj0, hm1, hjw, hmw, hn256, hf256⟩ := j_facts hj hm (by clear hx64; omega) (by clear hx64; omega)
              rw [← hj, hm1] at HCI
              generalize hmi : (m : Int) = mi at *
              clear hmi hm
              obtain ⟨ji, hji⟩ : ∃ ji : Int, ji = (j : Int) := ⟨_, rfl⟩
              have hjt : ji.toNat = j := by rw [hji]; exact Int.toNat_natCast j
              rw [← hji] at hj1 hj0 hjw
              have HJI := Lib.hid hji
              have HWJ := Lib.hid hjw
              clear hji
              have HWM := Lib.hid hmw
              have HX64 := Lib.hid hx64
              clear hjw hmw hx64
              have HNN := HN.out.2
              rw [← hj] at HNN
              have HCONT := Lib.hid HNN
              clear HNN
              by_cases hC : contP l j
              · obtain ⟨c1, c2, c3⟩ := HCI.out.1 hC
                have hcl : ji < 13 := by have := HJI.out; omega
                have hcj := HC0.out wr j c1 HKP.out
                rw [c2] at hcj
                have hm256 : mi < 256 := c3
                have HNX : Hid (0 < n + 1 ∧ (∀ i, f < i → i < f + (n + 1) → contP l i)) := ⟨by omega, fun i h1 h2 => by
                  by_cases e : i = j
                  · subst e; exact hC
                  · exact HCONT.out i h1 (by omega)⟩
                have hj13 : j < 13 := c1
                clear HCI hC HN c2 hj
                have hjw := HWJ.out
                have hmw := HWM.out
                go_wp2_with fail
                go_roundg (gk - 1)
                case measure => clear hjw hmw; omega
                case rel => clear hjw hmw; exact ⟨n + 1, by omega, by go_num, HNX, rfl⟩
              · have HFIN : Hid (runsTo l j = runsTo l f ++ [runW f (b : Int) n] ∧ runsTo l (f + 1) = runsTo l f ++ [runW f (b : Int) n]) := by
                  have h1 := runsTo_run HST.out (show f < j by omega) (by omega) HCONT.out hC
                  rw [HX.out, show j - f = n by omega] at h1
                  refine ⟨h1, ?_⟩
                  rw [← h1]
                  exact (runsTo_cont l (f + 1) j (by omega) fun i h2 h3 => HCONT.out i (by omega) h3).symm
                have hways : (¬ ji < 13) ∨ (ji < 13 ∧ j < 13 ∧ l.getD j 0 ≠ mi) ∨ (ji < 13 ∧ j < 13 ∧ l.getD j 0 = mi ∧ ¬ mi < 256) := by
                  have hjie := HJI.out
                  by_cases h1 : j < 13
                  · by_cases h2 : l.getD j 0 = mi
                    · exact .inr (.inr ⟨by omega, h1, h2, fun h3 => hC (HCI.out.2 ⟨h1, h2, h3⟩)⟩)
                    · exact .inr (.inl ⟨by omega, h1, h2⟩)
                  · exact .inl (by omega)
                obtain ⟨A1, A2, A3, a1, a2, a3, a4⟩ := runW_sum f b n hf256 HB256.out hn256
                have hwn := u_facts hn256
                have hwf := u_facts hf256
                have hwb := u_facts HB256.out
                have hlb : (runsTo l f).length ≤ 13 := by have := HRL.out; omega
                have hwr : w.heap.size + 1 ≤ wr.heap.size := by have := HKP.out.size; simpa using this
                clear HCI hC HN hj hf HCONT
                generalize runW f (b : Int) n = W at *
                generalize hL : runsTo l f = L at *
                have HLE := Lib.hid hL
                clear hL
                have hcell := HC0.out wr j
                have hjw := HWJ.out
                have hmw := HWM.out
                rcases hways with h1 | ⟨h1, h2, h3⟩ | ⟨h1, h2, h3, h4⟩
                · skip
                  clear hcell
                  go_wp2_with (at_builtin; refine wpList_append_own _ rfl _ _ 24 rfl (w.heap.size + 1) 26 i0 (.int .u64 0) 1 8 Try.underlying24 hi hz0 hz1 hz2 rfl (by decide) (.slice a L.length cap) L.length _ rfl (HOW.out.alloc _) ⟨wr.heap.size, 0, none⟩ 1 1 [.int .u64 W] rfl rfl (new_cells _ [_] _ _ rfl) (fun u hu => by rw [List.mem_singleton] at hu; subst hu; rfl) (by unfold maxLen; clear hjw hmw; omega) (by clear hjw hmw; omega) (by clear hjw hmw; simp; omega) ?_)
                  intro v' w1 hown1 hgrow _
                  have HO1 := Lib.hid hown1
                  have HK1 := Lib.hid ((HKP.out.alloc _).grown hgrow (fun k hk => by have := ownsRow_block HOW.out k hk; simpa using this))
                  clear hown1 hgrow
                  go_wp2_with fail
                  clear hjw hmw
                  go_roundg gg
                  case measure => omega
                  case rel =>
                    refine ⟨f + 1, by have := hFF.out; omega, by go_num, ?_, HK1.out⟩
                    have := HO1.out
                    rw [HFIN.out.2, List.length_append, u64s_append]
                    exact this
                · have hcj := hcell h2 HKP.out
                  have h3' : (l.getD j 0 == mi) = false := beq_eq_false_iff_ne.2 h3
                  clear h3
                  generalize l.getD j 0 = y at *
                  clear hcell
                  go_wp2_with (at_builtin; refine wpList_append_own _ rfl _ _ 24 rfl (w.heap.size + 1) 26 i0 (.int .u64 0) 1 8 Try.underlying24 hi hz0 hz1 hz2 rfl (by decide) (.slice a L.length cap) L.length _ rfl (HOW.out.alloc _) ⟨wr.heap.size, 0, none⟩ 1 1 [.int .u64 W] rfl rfl (new_cells _ [_] _ _ rfl) (fun u hu => by rw [List.mem_singleton] at hu; subst hu; rfl) (by unfold maxLen; clear hjw hmw; omega) (by clear hjw hmw; omega) (by clear hjw hmw; simp; omega) ?_)
                  intro v' w1 hown1 hgrow _
                  have HO1 := Lib.hid hown1
                  have HK1 := Lib.hid ((HKP.out.alloc _).grown hgrow (fun k hk => by have := ownsRow_block HOW.out k hk; simpa using this))
                  clear hown1 hgrow hcj
                  go_wp2_with fail
                  clear hjw hmw
                  go_roundg gg
                  case measure => omega
                  case rel =>
                    refine ⟨f + 1, by have := hFF.out; omega, by go_num, ?_, HK1.out⟩
                    have := HO1.out
                    rw [HFIN.out.2, List.length_append, u64s_append]
                    exact this
                · have hcj := hcell h2 HKP.out
                  rw [h3] at hcj
                  clear h3
                  clear hcell
                  go_wp2_with (at_builtin; refine wpList_append_own _ rfl _ _ 24 rfl (w.heap.size + 1) 26 i0 (.int .u64 0) 1 8 Try.underlying24 hi hz0 hz1 hz2 rfl (by decide) (.slice a L.length cap) L.length _ rfl (HOW.out.alloc _) ⟨wr.heap.size, 0, none⟩ 1 1 [.int .u64 W] rfl rfl (new_cells _ [_] _ _ rfl) (fun u hu => by rw [List.mem_singleton] at hu; subst hu; rfl) (by unfold maxLen; clear hjw hmw; omega) (by clear hjw hmw; omega) (by clear hjw hmw; simp; omega) ?_)
                  intro v' w1 hown1 hgrow _
                  have HO1 := Lib.hid hown1
                  have HK1 := Lib.hid ((HKP.out.alloc _).grown hgrow (fun k hk => by have := ownsRow_block HOW.out k hk; simpa using this))
                  clear hown1 hgrow hcj
                  go_wp2_with fail
                  clear hjw hmw
                  go_roundg gg
                  case measure => omega
                  case rel =>
                    refine ⟨f + 1, by have := hFF.out; omega, by go_num, ?_, HK1.out⟩
                    have := HO1.out
                    rw [HFIN.out.2, List.length_append, u64s_append]
                    exact this
          · obtain ⟨q, hq⟩ : ∃ q, q = f - 1 := ⟨_, rfl⟩
            rw [← hq] at h2 h3
            obtain ⟨hq1, hqw, hf1, hq13⟩ := q_facts h1 hq hf13
            have hcq := HC0.out wr q hq13 HKP.out
            obtain ⟨y, hy⟩ : ∃ y, y = b - 1 := ⟨_, rfl⟩
            obtain ⟨hy1, hyw⟩ := b_facts (b := b) (y := y) (by clear hx64 h3; omega) hy (by clear hx64 h3; omega)
            rw [hy1] at h3
            have h3' : (l.getD q 0 == (y : Int)) = false := beq_eq_false_iff_ne.2 h3
            clear hq hy h3
            generalize hyi : (y : Int) = yi at *
            clear hyi
            generalize l.getD q 0 = p at *
            go_wp2_with fail
            clear hf1 h1 hcf h2 h3' hcq hq1 hqw hy1 hyw hq13
            go_loopg [6] (12 - f) (fun gh s6 wx => ∃ n : Nat, f + n + gh = 13 ∧ s6 = .int .i64 (n : Int) ∧ Hid (0 < n ∧ (∀ i, f < i → i < f + n → contP l i)) ∧ wx = wr)
            case atStart => exact ⟨1, by omega, rfl, ⟨by omega, fun i h1 h2 => by omega⟩, rfl⟩
            case round =>
              obtain ⟨n, hn, rfl, HN, rfl⟩ := hrel
              have HCI := Lib.hid (cont_iff2 (HXB.out) (show f < f + n by have := HN.out.1; omega) HN.out.2)
              rw [HX.out, show f + n - f = n by omega] at HCI
              have hn0 := HN.out.1
              have hn0' : (0 : Int) ≤ (n : Int) := by omega
              obtain ⟨j, hj⟩ : ∃ j, j = f + n := ⟨_, rfl⟩
              obtain ⟨m, hm⟩ : ∃ m : Nat, m = b + n := ⟨_, rfl⟩
              obtain ⟨hj1, hj0, hm1, hjw, hmw, hn256, hf256⟩ := j_facts hj hm (by clear hx64; omega) (by clear hx64; omega)
              rw [← hj, hm1] at HCI
              generalize hmi : (m : Int) = mi at *
              clear hmi hm
              obtain ⟨ji, hji⟩ : ∃ ji : Int, ji = (j : Int) := ⟨_, rfl⟩
              have hjt : ji.toNat = j := by rw [hji]; exact Int.toNat_natCast j
              rw [← hji] at hj1 hj0 hjw
              have HJI := Lib.hid hji
              have HWJ := Lib.hid hjw
              clear hji
              have HWM := Lib.hid hmw
              have HX64 := Lib.hid hx64
              clear hjw hmw hx64
              have HNN := HN.out.2
              rw [← hj] at HNN
              have HCONT := Lib.hid HNN
              clear HNN
              by_cases hC : contP l j
              · obtain ⟨c1, c2, c3⟩ := HCI.out.1 hC
                have hcl : ji < 13 := by have := HJI.out; omega
                have hcj := HC0.out wr j c1 HKP.out
                rw [c2] at hcj
                have hm256 : mi < 256 := c3
                have HNX : Hid (0 < n + 1 ∧ (∀ i, f < i → i < f + (n + 1) → contP l i)) := ⟨by omega, fun i h1 h2 => by
                  by_cases e : i = j
                  · subst e; exact hC
                  · exact HCONT.out i h1 (by omega)⟩
                have hj13 : j < 13 := c1
                clear HCI hC HN c2 hj
                have hjw := HWJ.out
                have hmw := HWM.out
                go_wp2_with fail
                go_roundg (gk - 1)
                case measure => clear hjw hmw; omega
                case rel => clear hjw hmw; exact ⟨n + 1, by omega, by go_num, HNX, rfl⟩
              · have HFIN : Hid (runsTo l j = runsTo l f ++ [runW f (b : Int) n] ∧ runsTo l (f + 1) = runsTo l f ++ [runW f (b : Int) n]) := by
                  have h1 := runsTo_run HST.out (show f < j by omega) (by omega) HCONT.out hC
                  rw [HX.out, show j - f = n by omega] at h1
                  refine ⟨h1, ?_⟩
                  rw [← h1]
                  exact (runsTo_cont l (f + 1) j (by omega) fun i h2 h3 => HCONT.out i (by omega) h3).symm
                have hways : (¬ ji < 13) ∨ (ji < 13 ∧ j < 13 ∧ l.getD j 0 ≠ mi) ∨ (ji < 13 ∧ j < 13 ∧ l.getD j 0 = mi ∧ ¬ mi < 256) := by
                  have hjie := HJI.out
                  by_cases h1 : j < 13
                  · by_cases h2 : l.getD j 0 = mi
                    · exact .inr (.inr ⟨by omega, h1, h2, fun h3 => hC (HCI.out.2 ⟨h1, h2, h3⟩)⟩)
                    · exact .inr (.inl ⟨by omega, h1, h2⟩)
                  · exact .inl (by omega)
                obtain ⟨A1, A2, A3, a1, a2, a3, a4⟩ := runW_sum f b n hf256 HB256.out hn256
                have hwn := u_facts hn256
                have hwf := u_facts hf256
                have hwb := u_facts HB256.out
                have hlb : (runsTo l f).length ≤ 13 := by have := HRL.out; omega
                have hwr : w.heap.size + 1 ≤ wr.heap.size := by have := HKP.out.size; simpa using this
                clear HCI hC HN hj hf HCONT
                generalize runW f (b : Int) n = W at *
                generalize hL : runsTo l f = L at *
                have HLE := Lib.hid hL
                clear hL
                have hcell := HC0.out wr j
                have hjw := HWJ.out
                have hmw := HWM.out
                rcases hways with h1 | ⟨h1, h2, h3⟩ | ⟨h1, h2, h3, h4⟩
                · skip
                  clear hcell
                  go_wp2_with (at_builtin; refine wpList_append_own _ rfl _ _ 24 rfl (w.heap.size + 1) 26 i0 (.int .u64 0) 1 8 Try.underlying24 hi hz0 hz1 hz2 rfl (by decide) (.slice a L.length cap) L.length _ rfl (HOW.out.alloc _) ⟨wr.heap.size, 0, none⟩ 1 1 [.int .u64 W] rfl rfl (new_cells _ [_] _ _ rfl) (fun u hu => by rw [List.mem_singleton] at hu; subst hu; rfl) (by unfold maxLen; clear hjw hmw; omega) (by clear hjw hmw; omega) (by clear hjw hmw; simp; omega) ?_)
                  intro v' w1 hown1 hgrow _
                  have HO1 := Lib.hid hown1
                  have HK1 := Lib.hid ((HKP.out.alloc _).grown hgrow (fun k hk => by have := ownsRow_block HOW.out k hk; simpa using this))
                  clear hown1 hgrow
                  go_wp2_with fail
                  clear hjw hmw
                  go_roundg gg
                  case measure => omega
                  case rel =>
                    refine ⟨f + 1, by have := hFF.out; omega, by go_num, ?_, HK1.out⟩
                    have := HO1.out
                    rw [HFIN.out.2, List.length_append, u64s_append]
                    exact this
                · have hcj := hcell h2 HKP.out
                  have h3' : (l.getD j 0 == mi) = false := beq_eq_false_iff_ne.2 h3
                  clear h3
                  generalize l.getD j 0 = y at *
                  clear hcell
                  go_wp2_with (at_builtin; refine wpList_append_own _ rfl _ _ 24 rfl (w.heap.size + 1) 26 i0 (.int .u64 0) 1 8 Try.underlying24 hi hz0 hz1 hz2 rfl (by decide) (.slice a L.length cap) L.length _ rfl (HOW.out.alloc _) ⟨wr.heap.size, 0, none⟩ 1 1 [.int .u64 W] rfl rfl (new_cells _ [_] _ _ rfl) (fun u hu => by rw [List.mem_singleton] at hu; subst hu; rfl) (by unfold maxLen; clear hjw hmw; omega) (by clear hjw hmw; omega) (by clear hjw hmw; simp; omega) ?_)
                  intro v' w1 hown1 hgrow _
                  have HO1 := Lib.hid hown1
                  have HK1 := Lib.hid ((HKP.out.alloc _).grown hgrow (fun k hk => by have := ownsRow_block HOW.out k hk; simpa using this))
                  clear hown1 hgrow hcj
                  go_wp2_with fail
                  clear hjw hmw
                  go_roundg gg
                  case measure => omega
                  case rel =>
                    refine ⟨f + 1, by have := hFF.out; omega, by go_num, ?_, HK1.out⟩
                    have := HO1.out
                    rw [HFIN.out.2, List.length_append, u64s_append]
                    exact this
                · have hcj := hcell h2 HKP.out
                  rw [h3] at hcj
                  clear h3
                  clear hcell
                  go_wp2_with (at_builtin; refine wpList_append_own _ rfl _ _ 24 rfl (w.heap.size + 1) 26 i0 (.int .u64 0) 1 8 Try.underlying24 hi hz0 hz1 hz2 rfl (by decide) (.slice a L.length cap) L.length _ rfl (HOW.out.alloc _) ⟨wr.heap.size, 0, none⟩ 1 1 [.int .u64 W] rfl rfl (new_cells _ [_] _ _ rfl) (fun u hu => by rw [List.mem_singleton] at hu; subst hu; rfl) (by unfold maxLen; clear hjw hmw; omega) (by clear hjw hmw; omega) (by clear hjw hmw; simp; omega) ?_)
                  intro v' w1 hown1 hgrow _
                  have HO1 := Lib.hid hown1
                  have HK1 := Lib.hid ((HKP.out.alloc _).grown hgrow (fun k hk => by have := ownsRow_block HOW.out k hk; simpa using this))
                  clear hown1 hgrow hcj
                  go_wp2_with fail
                  clear hjw hmw
                  go_roundg gg
                  case measure => omega
                  case rel =>
                    refine ⟨f + 1, by have := hFF.out; omega, by go_num, ?_, HK1.out⟩
                    have := HO1.out
                    rw [HFIN.out.2, List.length_append, u64s_append]
                    exact this
      · have HN : Hid (runsTo l (f + 1) = runsTo l f) := runsTo_none hB
        have hB2 : l.getD f 0 < 1 ∨ 255 < l.getD f 0 := by unfold isB at hB; omega
        clear hB
        generalize l.getD f 0 = x at *
        rcases hB2 with h1 | h1
        · go_wp2_with fail
          go_roundg gg
          case measure => omega
          case rel => exact ⟨f + 1, by omega, by go_num, by rw [HN.out]; exact HOW.out, HKP.out⟩
        · have h2 : ¬ x < 1 := by omega
          go_wp2_with fail
          go_roundg gg
          case measure => omega
          case rel => exact ⟨f + 1, by omega, by go_num, by rw [HN.out]; exact HOW.out, HKP.out⟩

end Go.Proofs.Ytmhcnkjmnbnldaa
