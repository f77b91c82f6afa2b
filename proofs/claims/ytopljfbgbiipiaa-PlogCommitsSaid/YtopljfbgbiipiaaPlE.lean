/-
  Layer 3 (plog): flush, settle, settleCommitWord, carryOut, of a memory at rest.
-/
import Derived.Test.YtopljfbgbiipiaaPlD
import Derived.Maps.OwnOps
import Derived.Maps.Views
namespace Go.Proofs.Ytopljfbgbiipiaa
open Go.RowKit Go.Maps

theorem keyed_int : Keyed Try.prog 3 := int_keyed Try.underlying3
theorem zero_int (w : World) : (zeroValue 3).run Try.prog w = .ok (.int .i64 0) w := by kernel_rfl

/-- The map says which lines were flushed. -/
structure FlMap (w : World) (B k : Nat) (f : List Int) (D : DataW Unit) : Prop where
  own : w.ownsMap Try.prog 3 (plainElem Try.prog 3) B k D
  map : IsMap D
  get : ∀ q : Int, D.atKey (.int .i64 q) (.lit (.int .i64 0)) = .lit (.int .i64 (if q ∈ f then 1 else 0))

theorem FlMap.keep {w w' : World} {B k : Nat} {f : List Int} {D : DataW Unit} (h : FlMap w B k f D) {l : List Nat} (hk : Keeps l w w') (hb : B ∉ l) : FlMap w' B k f D := by
  refine ⟨?_, h.map, h.get⟩
  have hlt := h.own.lt
  obtain ⟨es, clock, h1, h2, h3, h4⟩ := h.own
  exact ⟨es, clock, (hk.block B hlt hb).trans h1, h2, h3, h4⟩

theorem FlMap.skip {w : World} {B k : Nat} {f : List Int} {D : DataW Unit} (h : FlMap w B k f D) {q : Int} (hq : q ∈ f) : FlMap w B (k + 1) (f ++ [q]) D := by
  refine ⟨h.own.mono (by omega), h.map, fun x => ?_⟩
  rw [h.get]
  have : x ∈ f ++ [q] ↔ x ∈ f := by simp; rintro rfl; exact hq
  simp only [this]

theorem FlMap.put {w w' : World} {B k : Nat} {f : List Int} {D : DataW Unit} (h : FlMap w B k f D) {q : Int} (ho : w'.ownsMap Try.prog 3 (plainElem Try.prog 3) B (k + 1) (D.put (.int .i64 q) (.lit (.int .i64 1)))) :
    FlMap w' B (k + 1) (f ++ [q]) (D.put (.int .i64 q) (.lit (.int .i64 1))) := by
  refine ⟨ho, h.map.put _ _, fun x => ?_⟩
  by_cases e : x = q
  · subst e
    rw [atKey_put_same h.map (show WideAt.IsKeyLit (.int .i64 x) from trivial), if_pos (by simp)]
  · rw [atKey_put_other (by intro h; cases h; exact e rfl), h.get]
    have : x ∈ f ++ [q] ↔ x ∈ f := by simp [e]
    simp only [this]

/-- Places of a memory. -/
def inP (ps : List (Int × Int)) (n : Nat) : Prop := ∀ p ∈ ps, 0 ≤ p.1 ∧ p.1 < n

theorem inP_get {ps : List (Int × Int)} {n : Nat} (h : inP ps n) {k : Nat} (hk : k < ps.length) : 0 ≤ patN ps k ∧ patN ps k < n := h _ (patN_mem ps k hk)

theorem flush_stirred {w : World} {b gn gl gf : Nat} {xs : List Int} {ps qs : List (Int × Int)} {d : Int} (h : PmAt w b gn gl gf (stirred xs ps qs d)) (h0 : 0 ≤ d) (h1 : d < 4611686018427387904) (i x : Int) (i0 : 0 ≤ i) (i1 : i < xs.length) :
    Calls Try.prog 47 #[.pointer (some ⟨b, 0, none⟩), .int .i64 i] w fun e w' => e = .returned (.int .i64 0) ∧ PmAt w' b gn gl gf (stirred xs ps (qs ++ [(i, x)]) (d + 1)) ∧ Keeps [b, gn, gl, gf] w w' := by
  have := flush_at h (stirred_fit _ _ _ _ h0 h1) i
  rw [stirred_refusal i0 i1, stirred_flush _ _ _ _ _ x i0 i1] at this
  exact this

theorem store_stirred {w : World} {b gn gl gf : Nat} {xs : List Int} {ps : List (Int × Int)} {d : Int} (h : PmAt w b gn gl gf (stirred xs ps [] d)) (h0 : 0 ≤ d) (h1 : d < 4611686018427387904) (i x : Int) (i0 : 0 ≤ i) (i1 : i < xs.length) :
    Calls Try.prog 41 #[.pointer (some ⟨b, 0, none⟩), .int .i64 i, .int .u64 x] w fun e w' => e = .returned (.int .i64 0) ∧ PmAt w' b gn gl gf (stirred xs (ps ++ [(i, x)]) [] (d + 1)) ∧ Keeps [b, gn, gl, gf] w w' := by
  have := store_at h (stirred_fit _ _ _ _ h0 h1) i x
  rw [stirred_refusal i0 i1, stirred_store _ _ _ _ _ i0 i1] at this
  exact this

theorem PmAt.old {w : World} {b gn gl gf : Nat} {s : PmS} (h : PmAt w b gn gl gf s) (hn : s.now.length ≠ 0) : b < w.heap.size ∧ gn < w.heap.size ∧ gl < w.heap.size ∧ gf < w.heap.size := by
  obtain ⟨vn, vl, vf, a, c, d, e⟩ := h.at_
  exact ⟨a.lt, (c.cell hn).1, (d.cell hn).1, (e.cell (by omega)).1⟩

theorem stirred_len (xs : List Int) (ps qs : List (Int × Int)) (d : Int) : (stirred xs ps qs d).now.length = xs.length := putAll_len _ _

set_option maxHeartbeats 2000000 in
theorem pflush_at {w : World} {b gn gl gf : Nat} {xs : List Int} {ps qs : List (Int × Int)} {d : Int} (h : PmAt w b gn gl gf (stirred xs ps [] d)) (h0 : 0 ≤ d) (hd : d < 4000000000000000000) {v : Value} {g : Nat} (hr : PReads w v g qs)
    (hq : inP qs xs.length) (hn : qs.length ≤ 1000) (hx : xs.length ≤ 100000) (hg : qs.length ≠ 0 → g ∉ [b, gn, gl, gf]) :
    Calls Try.prog 42 #[.pointer (some ⟨b, 0, none⟩), v] w fun e w' => e = .returned (.int .i64 0) ∧ PmAt w' b gn gl gf (stirred xs ps qs (d + (linesN qs : Nat))) ∧ Keeps [b, gn, gl, gf] w w' := by
  have H := Lib.hid h
  have HR := Lib.hid hr
  have HQ := Lib.hid hq
  have HG := Lib.hid hg
  obtain ⟨a, cap, rfl, h1, h2⟩ := hr.val
  unfold maxLen at h2
  have HB : Hid (qs.length ≠ 0 → w.heap.size ∉ [b, gn, gl, gf]) := fun hne hm => by
    have hi := inP_get hq (k := 0) (by omega)
    have := h.old (by rw [stirred_len]; omega)
    simp only [List.mem_cons, List.not_mem_nil, or_false] at hm
    omega
  have hmm := @run_makeMap Try.prog
  clear h hr hq hg
  go_enter Try.func42, Try.ntmps42
  go_wp2_with fail
  go_loopg [13] qs.length (fun gh s13 wx => ∃ k : Nat, k + gh = qs.length ∧ s13 = .int .i64 (k : Int) ∧
    Hid ((∃ D, FlMap wx w.heap.size k ((linesOf qs).take k) D) ∧ PmAt wx b gn gl gf (stirred xs ps (qs.take k) (d + (linesTo (linesOf qs) k : Nat))) ∧ Keeps [b, gn, gl, gf] w wx))
  case atStart =>
    refine ⟨0, by omega, rfl, ⟨.map [], World.ownsMap_made _ _ _ _, isMap_empty, fun q => by simp [DataW.atKey]⟩, ?_, (Keeps.refl _ _).alloc _⟩
    have := H.out.keep ((Keeps.refl [] w).alloc (.map #[] 0)) (by simp) (by simp)
    simpa [linesTo] using this
  case round =>
    obtain ⟨k, hk, rfl, HI⟩ := hrel
    cases gk with
    | zero =>
      obtain rfl : k = qs.length := by omega
      have hlt : ¬ (qs.length : Int) < (qs.length : Int) := by omega
      have HE := HI.out.2
      rw [List.take_of_length_le (Nat.le_refl _)] at HE
      have HE := Lib.hid HE
      go_wp2_with fail
      go_ret
      exact ⟨rfl, HE.out.1, HE.out.2⟩
    | succ gg =>
      have hlt : (k : Int) < (qs.length : Int) := by omega
      obtain ⟨⟨D, hD⟩, hp, hkp⟩ := HI.out
      have hg' := HG.out (by omega)
      have hB := HB.out (by omega)
      obtain ⟨hgl, off, rfl, c0, c1⟩ := (HR.out.keep hkp (fun _ => hg')).get (j := k) (by omega)
      obtain ⟨x0, x1⟩ := inP_get HQ.out (k := k) (by omega)
      have hlt1 := linesTo_le (linesOf qs) k
      have HS := Lib.hid (linesOf_snoc qs k (by omega))
      have HT := Lib.hid (take_snocP qs k (by omega))
      have HGE := Lib.hid (linesOf_get qs k (by omega))
      have hst := Lib.hid (stirred_skip xs ps (qs.take k) (d + (linesTo (linesOf qs) k : Nat)) (patN qs k) (pwdN qs k))
      rw [← linesOf_take] at hst
      have HLT : Hid (linesTo (linesOf qs) (k + 1) = linesTo (linesOf qs) k + if patN qs k / 8 ∈ (linesOf qs).take k then 0 else 1) := by
        show linesTo (linesOf qs) (k + 1) = _
        rw [linesTo, HGE.out]
      generalize patN qs k = x at *
      generalize pwdN qs k = y at *
      have HD := Lib.hid hD
      have HP := Lib.hid hp
      have HKP := Lib.hid hkp
      have HB2 := Lib.hid hB
      have hkey : keyOf Try.prog 3 (.int .i64 (x / 8)) = some (.int .i64 (x / 8)) := keyOf_int_mk Try.underlying3 (WalkArith.wf_i64 (by omega))
      have HKEY := Lib.hid hkey
      clear hD hp hkp hB hg' HI hkey
      generalize (linesOf qs).take k = f at *
      by_cases hm : x / 8 ∈ f
      · rw [if_pos hm] at HLT
        have HM := Lib.hid hm
        clear hm
        go_wp2_with (at_lookup; refine wpList_lookup_own_int _ rfl _ _ 76 rfl 3 3 .i64 keyed_int Try.underlying76 Try.underlying3 (zero_int _) w.heap.size k _ rfl (HD.out.own.alloc _) _ _ rfl HKEY.out ?_; intro c hat hwc; (obtain rfl : c = 1 := by (rw [HD.out.get, if_pos HM.out] at hat; cases hat; rfl)); clear hat hwc)
        go_roundg gg
        case measure => omega
        case rel =>
          refine ⟨k + 1, by omega, by go_num, ⟨D, ?_⟩, ?_, HKP.out.alloc _⟩
          · rw [HS.out]
            exact (HD.out.skip HM.out).keep ((Keeps.refl [] _).alloc _) (by simp)
          · rw [HLT.out, HT.out, Nat.add_zero, hst.out HM.out]
            exact HP.out.keep ((Keeps.refl [] _).alloc _) (by simp) (by simp)
      · rw [if_neg hm] at HLT
        have HM := Lib.hid hm
        clear hm
        go_wp2_with (at_lookup; refine wpList_lookup_own_int _ rfl _ _ 76 rfl 3 3 .i64 keyed_int Try.underlying76 Try.underlying3 (zero_int _) w.heap.size k _ rfl (HD.out.own.alloc _) _ _ rfl HKEY.out ?_; intro c hat hwc; (obtain rfl : c = 0 := by (rw [HD.out.get, if_neg HM.out] at hat; cases hat; rfl)); clear hat hwc)
        refine (flush_stirred (HP.out.keep ((Keeps.refl [] _).alloc _) (by simp) (by simp)) (by omega) (by omega) x y x0 x1).mono ?_
        rintro e w2 ⟨rfl, hp2, hk2⟩
        have HP2 := Lib.hid hp2
        have HD2 := Lib.hid ((HD.out.keep ((Keeps.refl [] _).alloc _) (by simp)).keep hk2 HB2.out)
        have HK2 := Lib.hid ((HKP.out.alloc _).trans' hk2)
        clear hp2 hk2
        go_wp2_with (first | (at_lookup; refine wpList_lookup_own_int _ rfl _ _ 76 rfl 3 3 .i64 keyed_int Try.underlying76 Try.underlying3 (zero_int _) w.heap.size k _ rfl HD2.out.own _ _ rfl HKEY.out ?_; intro c hat hwc; (obtain rfl : c = 0 := by (rw [HD2.out.get, if_neg HM.out] at hat; cases hat; rfl)); clear hat hwc) | (at_mapUpdate; refine wpList_mapUpdate_own _ rfl _ _ _ 76 rfl 3 3 keyed_int Try.underlying76 _ w.heap.size k _ rfl HD2.out.own (by unfold maxLen; omega) _ _ _ rfl rfl HKEY.out (.lit (.int .i64 1)) [] (plainElem_int Try.underlying3 (by decide)) ?_; intro w3 hown3 hgrow3))
        have HD3 := Lib.hid (HD2.out.put hown3)
        have hk3 : Keeps [w.heap.size] w2 w3 := Keeps.of_grown hgrow3 (by intro q hq; cases hq; simp)
        have HP3 := Lib.hid (HP2.out.keep hk3 (by have := HB2.out; simp at this ⊢; omega) (fun _ => by have := HB2.out; simp at this ⊢; omega))
        have HK3 := Lib.hid (HK2.out.trans hk3 (by simp))
        clear hown3 hgrow3 hk3
        go_wp2_with fail
        go_roundg gg
        case measure => omega
        case rel =>
          refine ⟨k + 1, by omega, by go_num, ⟨D.put (.int .i64 (x / 8)) (.lit (.int .i64 1)), ?_⟩, ?_, HK3.out⟩
          · rw [HS.out]
            exact HD3.out
          · rw [HLT.out, HT.out]
            have := HP3.out
            rw [show d + ((linesTo (linesOf qs) k + 1 : Nat) : Int) = d + (linesTo (linesOf qs) k : Nat) + 1 by omega]
            exact this

set_option maxHeartbeats 2000000 in
theorem settle_at {w : World} {b gn gl gf : Nat} {xs : List Int} {d : Int} (h : PmAt w b gn gl gf (calm xs d)) (h0 : 0 ≤ d) (hd : d < 3000000000000000000) {v : Value} {g : Nat} {ps : List (Int × Int)} (hr : PReads w v g ps)
    (hq : inP ps xs.length) (hn : ps.length ≤ 1000) (hx : xs.length ≤ 100000) (hg : ps.length ≠ 0 → g ∉ [b, gn, gl, gf]) :
    Calls Try.prog 27 #[.pointer (some ⟨b, 0, none⟩), v] w fun e w' => e = .returned (.int .i64 0) ∧ PmAt w' b gn gl gf (calm (putAll xs ps) (d + (settleD ps : Nat))) ∧ Keeps [b, gn, gl, gf] w w' := by
  have H := Lib.hid h
  have HR := Lib.hid hr
  have HQ := Lib.hid hq
  have HG := Lib.hid hg
  obtain ⟨a, cap, rfl, h1, h2⟩ := hr.val
  unfold maxLen at h2
  clear h hr hq hg
  go_enter Try.func27, Try.ntmps27
  go_wp2_with fail
  go_loopg [11] ps.length (fun gh s11 wx => ∃ k : Nat, k + gh = ps.length ∧ s11 = .int .i64 (k : Int) ∧
    Hid (PmAt wx b gn gl gf (stirred xs (ps.take k) [] (d + (k : Nat))) ∧ Keeps [b, gn, gl, gf] w wx))
  case atStart =>
    refine ⟨0, by omega, rfl, ?_, Keeps.refl _ _⟩
    have := H.out
    rw [calm_eq] at this
    simpa using this
  case round =>
    obtain ⟨k, hk, rfl, HI⟩ := hrel
    cases gk with
    | zero =>
      obtain rfl : k = ps.length := by omega
      have hlt : ¬ (ps.length : Int) < (ps.length : Int) := by omega
      obtain ⟨hp, hkp⟩ := HI.out
      rw [List.take_of_length_le (Nat.le_refl _)] at hp
      have HF := Lib.hid (pflush_at hp (by omega) (by omega) (HR.out.keep hkp HG.out) HQ.out hn hx HG.out)
      have HKP := Lib.hid hkp
      clear hp hkp
      have hll := linesTo_le (linesOf ps) ps.length
      go_wp2_with fail
      refine HF.out.mono ?_
      rintro e w2 ⟨rfl, hp2, hk2⟩
      have hfe := fence_at hp2 (stirred_fit _ _ _ _ (by omega) (by unfold linesN; omega))
      obtain ⟨e1, e2⟩ := stirred_fence xs ps (d + (ps.length : Nat) + (linesN ps : Nat)) (fun p hp => (HQ.out p hp).1)
      rw [e1, e2] at hfe
      have HFE := Lib.hid hfe
      have HK2 := Lib.hid (HKP.out.trans' hk2)
      clear hp2 hk2 hfe e1 e2
      go_wp2_with fail
      refine HFE.out.mono ?_
      rintro e w3 ⟨rfl, hp3, hk3⟩
      have HP3 := Lib.hid hp3
      have HK3 := Lib.hid (HK2.out.trans' hk3)
      clear hp3 hk3
      go_wp2_with fail
      go_ret
      refine ⟨rfl, ?_, HK3.out⟩
      rw [show d + ((settleD ps : Nat) : Int) = d + (ps.length : Nat) + (linesN ps : Nat) + 1 by unfold settleD; omega]
      exact HP3.out
    | succ gg =>
      have hlt : (k : Int) < (ps.length : Int) := by omega
      obtain ⟨hp, hkp⟩ := HI.out
      obtain ⟨hgl, off, rfl, c0, c1⟩ := (HR.out.keep hkp HG.out).get (j := k) (by omega)
      obtain ⟨x0, x1⟩ := inP_get HQ.out (k := k) (by omega)
      have HT := Lib.hid (take_snocP ps k (by omega))
      generalize patN ps k = x at *
      generalize pwdN ps k = y at *
      have HP := Lib.hid hp
      have HKP := Lib.hid hkp
      clear hp hkp HI
      go_wp2_with fail
      refine (store_stirred (HP.out.keep ((Keeps.refl [] _).alloc _) (by simp) (by simp)) (by omega) (by omega) x y x0 x1).mono ?_
      rintro e w2 ⟨rfl, hp2, hk2⟩
      have HP2 := Lib.hid hp2
      have HK2 := Lib.hid ((HKP.out.alloc _).trans' hk2)
      clear hp2 hk2
      go_wp2_with fail
      go_roundg gg
      case measure => omega
      case rel =>
        refine ⟨k + 1, by omega, by go_num, ?_, HK2.out⟩
        rw [HT.out, show d + ((k + 1 : Nat) : Int) = d + (k : Nat) + 1 by omega]
        exact HP2.out

theorem one_pair (w : World) (a x : Int) (T : Nat) : PReads (w.alloc (.cells #[.int .i64 a, .int .u64 x] T)) (.slice (some ⟨w.heap.size, 0, none⟩) 1 1) w.heap.size [(a, x)] :=
  Owns.preads (T := T) ⟨rfl, _, 1, rfl, Nat.le_refl _, by unfold maxLen; omega, fun _ => ⟨rfl, _, Blk.new _ _ _, rfl, rfl⟩⟩

set_option maxHeartbeats 1000000 in
theorem settleCommitWord_at {w : World} {b gn gl gf : Nat} {xs : List Int} {d : Int} (h : PmAt w b gn gl gf (calm xs d)) (h0 : 0 ≤ d) (hd : d < 3000000000000000000) (hx : xs.length = 3128) (x : Int) :
    Calls Try.prog 29 #[.pointer (some ⟨b, 0, none⟩), .int .u64 x] w fun e w' => e = .returned (.int .i64 0) ∧ PmAt w' b gn gl gf (calm (putAll xs [(8, x)]) (d + 3)) ∧ Keeps [b, gn, gl, gf] w w' := by
  have ho := h.old (by show xs.length ≠ 0; omega)
  have hs := fun (w1 : World) (hk : Keeps [] w w1) (he : w1.heap.size = w.heap.size) => settle_at (h.keep (hk.alloc (.cells #[.int .i64 8, .int .u64 x] 43)) (by simp) (by simp)) h0 hd (one_pair w1 8 x 43) (by intro p hp; simp at hp; subst hp; simp; omega) (by simp) (by omega) (by intro _ hm; simp at hm; omega)
  rw [settleD_one] at hs
  have HS := Lib.hid hs
  clear hs ho h
  go_enter Try.func29, Try.ntmps29
  go_wp2_with fail
  refine (HS.out w (Keeps.refl _ _) rfl).mono ?_
  rintro e w2 ⟨rfl, hp2, hk2⟩
  have HP2 := Lib.hid hp2
  have HK2 := Lib.hid (((Keeps.refl _ _).alloc _).trans' hk2)
  clear hp2 hk2
  go_wp2_with fail
  go_ret
  exact ⟨rfl, HP2.out, HK2.out⟩

set_option maxHeartbeats 1000000 in
theorem carryOut_at {w : World} {b gn gl gf : Nat} {xs : List Int} {d : Int} (h : PmAt w b gn gl gf (calm xs d)) (h0 : 0 ≤ d) (hd : d < 2000000000000000000) (hx : xs.length = 3128) {v : Value} {g : Nat} {ps : List (Int × Int)} (hr : PReads w v g ps)
    (hq : inP ps 3128) (hn : ps.length ≤ 1000) (hg : ps.length ≠ 0 → g ∉ [b, gn, gl, gf]) :
    Calls Try.prog 31 #[.pointer (some ⟨b, 0, none⟩), v] w fun e w' => e = .returned (.int .i64 0) ∧ PmAt w' b gn gl gf (calm (carryX xs ps) (d + (settleD ps : Nat) + 3)) ∧ Keeps [b, gn, gl, gf] w w' := by
  have HS := Lib.hid (settle_at h h0 (by omega) hr (by rw [hx]; exact hq) hn (by omega) hg)
  have hll := settleD_le ps
  have HX := Lib.hid hx
  obtain ⟨a, cap, rfl, -, -⟩ := hr.val
  clear h hr hq hg hx
  go_enter Try.func31, Try.ntmps31
  go_wp2_with fail
  refine HS.out.mono ?_
  rintro e w2 ⟨rfl, hp2, hk2⟩
  have HC := Lib.hid (settleCommitWord_at hp2 (by omega) (by omega) (by rw [putAll_len]; exact HX.out) 0)
  have HK2 := Lib.hid hk2
  clear hp2 hk2
  go_wp2_with fail
  refine HC.out.mono ?_
  rintro e w3 ⟨rfl, hp3, hk3⟩
  have HP3 := Lib.hid hp3
  have HK3 := Lib.hid (HK2.out.trans' hk3)
  clear hp3 hk3
  go_wp2_with fail
  go_ret
  exact ⟨rfl, HP3.out, HK3.out⟩

end Go.Proofs.Ytopljfbgbiipiaa
