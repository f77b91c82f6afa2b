/-
  Layer 1 (pmem): Crash.
-/
import Derived.Test.YtopljfbgbiipiaaPmC
namespace Go.Proofs.Ytopljfbgbiipiaa
open Go.RowKit

def PmS.crash (s : PmS) (ks : List Int) : PmS :=
  { now := crashM ks s.now s.last 0, last := crashM ks s.now s.last 0, fl := List.replicate s.fl.length false, deeds := s.deeds, fused := false, left := 0 }

/-- The memory in the midst of a crash: the first k words are done. -/
def PmS.mid (s : PmS) (ks : List Int) (k : Nat) : PmS := { s with now := mix (crashM ks s.now s.last 0) s.now k, last := mix (crashM ks s.now s.last 0) s.last k }

set_option maxHeartbeats 1000000 in
theorem crash_at {w : World} {b gn gl gf : Nat} {s : PmS} (h : PmAt w b gn gl gf s) {v : Value} {g : Nat} {ks : List Int} (hr : Reads w v g (u8s ks)) (hb : ∀ j, 0 ≤ ks.getD j 0 ∧ ks.getD j 0 ≤ 255)
    (hgd : g ∉ [b, gn, gl, gf]) :
    Calls Try.prog 17 #[.pointer (some ⟨b, 0, none⟩), v] w fun e w' => e = .returned (.tuple #[]) ∧ PmAt w' b gn gl gf (s.crash ks) ∧ Keeps [b, gn, gl, gf] w w' := by
  have hn9 := h.n9
  have hll := Lib.hid h.ll
  have hfl := Lib.hid h.fll
  have hcl := Lib.hid (crashM_len ks s.now s.last 0 h.ll.symm)
  obtain ⟨vn, vl, vf, a, c, -, -⟩ := h.at_
  obtain ⟨an, cn, rfl, _, _⟩ := c.val
  have h0 : w.cell? ⟨b, 0, none⟩ = some (.slice an s.now.length cn) := by rw [a.cell]; rfl
  have H := Lib.hid h
  have HR := Lib.hid hr
  have HB := Lib.hid hb
  have HGD := Lib.hid hgd
  clear a c h hr hb hgd
  go_enter Try.func17, Try.ntmps17
  go_wp2
  go_loopw [4, 11] (fun c i wr => ∃ k : Nat, k ≤ s.now.length ∧ i = .int .i64 (k : Int) ∧ c = .int .i64 (dirtyN (s.now.take k) (s.last.take k) : Int) ∧ PmAt wr b gn gl gf (s.mid ks k) ∧ Keeps [b, gn, gl, gf] w wr) (fun _ i _ => s.now.length - (intOf i).toNat)
  case atStart => exact ⟨0, Nat.zero_le _, rfl, by simp [dirtyN], by simpa [PmS.mid, mix_zero] using H.out, Keeps.refl _ _⟩
  case round =>
    obtain ⟨k, hk, rfl, rfl, hp, hkp⟩ := hrel
    have hd := dirtyN_le (s.now.take k) (s.last.take k)
    have hl : (s.now.take k).length ≤ k := List.length_take_le _ _
    have HP := Lib.hid hp
    have HKP := Lib.hid hkp
    clear hp hkp h0
    by_cases hlt : k < s.now.length
    · have en : (s.mid ks k).now.length = s.now.length := mix_len _ _ _ hcl.out
      have el : (s.mid ks k).last.length = s.now.length := by
        have := mix_len (crashM ks s.now s.last 0) s.last k (by rw [hcl.out, hll.out])
        rw [hll.out] at this
        exact this
      have gn0 : (s.mid ks k).now.getD k 0 = s.now.getD k 0 := by rw [PmS.mid, mix_get _ _ _ _ hcl.out (by omega), if_neg (by omega)]
      have gl0 : (s.mid ks k).last.getD k 0 = s.last.getD k 0 := by rw [PmS.mid, mix_get _ _ _ _ (by rw [hcl.out, hll.out]) (by rw [hll.out]; omega), if_neg (by omega)]
      have HD := Lib.hid (dirty_at HP.out k (by omega))
      rw [gn0, gl0] at HD
      have HT := Lib.hid (dirtyN_take s.now s.last k hlt hll.out.symm)
      have HM := Lib.hid (crashM_get ks s.now s.last 0 k hll.out.symm hlt)
      have HN := Lib.hid (mix_succ (crashM ks s.now s.last 0) s.now k hcl.out hlt)
      have HL := Lib.hid (mix_succ (crashM ks s.now s.last 0) s.last k (by rw [hcl.out, hll.out]) (by rw [hll.out]; exact hlt))
      have SN := Lib.hid (set_getD_self (s.mid ks k).now k 0)
      have SL := Lib.hid (set_getD_self (s.mid ks k).last k 0)
      rw [gn0] at SN
      rw [gl0] at SL
      clear en el gn0 gl0
      by_cases hx : s.now.getD k 0 = s.last.getD k 0
      · have e1 : (s.now.getD k 0 != s.last.getD k 0) = false := by simpa using hx
        rw [e1] at HD
        rw [if_pos hx] at HT HM
        have HX := Lib.hid hx
        clear hx e1
        go_wp2_with (go_at_call 34; refine HD.out.mono ?_; rintro e w' ⟨rfl, m', rfl⟩)
        go_roundw
        case rel =>
          refine ⟨k + 1, by omega, by go_num, by rw [HT.out]; go_num, ?_, HKP.out.drewN _⟩
          have e2 : s.mid ks (k + 1) = s.mid ks k := by
            have t1 := HN.out
            have t2 := HL.out
            rw [HM.out] at t1 t2
            rw [HX.out] at t2
            have t3 := SN.out
            have t4 := SL.out
            simp only [PmS.mid] at t3 t4 ⊢
            rw [t1, t2, t3, t4]
          rw [e2]
          exact HP.out.drewN _
        case measure => simp [intOf]; omega
      · have e1 : (s.now.getD k 0 != s.last.getD k 0) = true := by simpa using hx
        rw [e1] at HD
        rw [if_neg hx] at HT HM
        rw [Nat.zero_add] at HM
        clear hx e1
        go_wp2_with fail
        refine HD.out.mono ?_; rintro e w' ⟨rfl, m', rfl⟩
        have HP2 := Lib.hid (HP.out.drewN m')
        have HKP2 := Lib.hid (HKP.out.drewN m')
        clear HP HKP HD
        generalize wr.drewN m' = w2 at *
        have HKE := Lib.hid (kept_at (HR.out.keep HKP2.out HGD.out) HB.out (dirtyN (s.now.take k) (s.last.take k)) (by omega))
        go_wp2_with fail
        have en : (s.mid ks k).now.length = s.now.length := mix_len _ _ _ hcl.out
        have el : (s.mid ks k).last.length = s.now.length := by
          have := mix_len (crashM ks s.now s.last 0) s.last k (by rw [hcl.out, hll.out])
          rw [hll.out] at this
          exact this
        have gn0 : (s.mid ks k).now.getD k 0 = s.now.getD k 0 := by rw [PmS.mid, mix_get _ _ _ _ hcl.out (by omega), if_neg (by omega)]
        have gl0 : (s.mid ks k).last.getD k 0 = s.last.getD k 0 := by rw [PmS.mid, mix_get _ _ _ _ (by rw [hcl.out, hll.out]) (by rw [hll.out]; omega), if_neg (by omega)]
        obtain ⟨vn, vl', vf', a, c, d, -⟩ := HP2.out.at_
        obtain ⟨-, ⟨cn', rfl, q1, q2⟩, q3, q4⟩ := c.cell (by omega)
        obtain ⟨-, ⟨cl', rfl, q5, q6⟩, q7, q8⟩ := d.cell (by omega)
        rw [en] at a q1 q3 q5 q7
        have k0 : w2.cell? ⟨b, 0, none⟩ = some (.slice (some ⟨gn, 0, none⟩) s.now.length cn') := by rw [a.cell]; rfl
        have k1 : w2.cell? ⟨b, 1, none⟩ = some (.slice (some ⟨gl, 0, none⟩) s.now.length cl') := by rw [a.cell]; rfl
        have k2 : w2.cell? ⟨gn, k, none⟩ = some (.int .u64 (s.now.getD k 0)) := by rw [q3 k (by omega), u64s_get (by omega), gn0]
        have k3 : w2.cell? ⟨gl, k, none⟩ = some (.int .u64 (s.last.getD k 0)) := by rw [q7 k (by omega), u64s_get (by omega), gl0]
        have k4 : w2.frozen? ⟨gn, k, none⟩ = false := q4 k
        have k5 : w2.frozen? ⟨gl, k, none⟩ = false := q8 k
        have S1 := Lib.hid (HP2.out.drew.setNow (by omega) k (s.last.getD k 0))
        have S2 := Lib.hid (HP2.out.drew.setLast (by omega) k (s.now.getD k 0))
        clear a c d q3 q4 q7 q8 en el gn0 gl0
        generalize s.now.getD k 0 = x at *
        generalize s.last.getD k 0 = y at *
        generalize hkk : keptB ks (dirtyN (s.now.take k) (s.last.take k)) = kk at *
        clear hkk
        cases kk
        · rw [if_neg (by simp)] at HM
          refine HKE.out.mono ?_; rintro e w' ⟨rfl, rfl⟩
          go_wp2_with fail
          go_region
          go_wp2_with fail
          go_roundw
          case rel =>
            refine ⟨k + 1, by omega, by go_num, by rw [HT.out]; go_num, ?_, HKP2.out.drew.setCell (by simp) _⟩
            have e2 : s.mid ks (k + 1) = { s.mid ks k with now := (s.mid ks k).now.set k y } := by
              have t1 := HN.out
              have t2 := HL.out
              rw [HM.out] at t1 t2
              have t4 := SL.out
              simp only [PmS.mid] at t4 ⊢
              rw [t1, t2, t4]
            rw [e2]
            exact S1.out
          case measure => simp [intOf]; omega
        · rw [if_pos rfl] at HM
          refine HKE.out.mono ?_; rintro e w' ⟨rfl, rfl⟩
          go_wp2_with fail
          go_region
          go_wp2_with fail
          go_roundw
          case rel =>
            refine ⟨k + 1, by omega, by go_num, by rw [HT.out]; go_num, ?_, HKP2.out.drew.setCell (by simp) _⟩
            have e2 : s.mid ks (k + 1) = { s.mid ks k with last := (s.mid ks k).last.set k x } := by
              have t1 := HN.out
              have t2 := HL.out
              rw [HM.out] at t1 t2
              have t3 := SN.out
              simp only [PmS.mid] at t3 ⊢
              rw [t1, t2, t3]
            rw [e2]
            exact S2.out
          case measure => simp [intOf]; omega
    · obtain rfl : k = s.now.length := by omega
      have e2 : s.mid ks s.now.length = { s with now := crashM ks s.now s.last 0, last := crashM ks s.now s.last 0 } := by
        rw [PmS.mid, mix_all _ _ _ (by rw [hcl.out]; omega) (by omega), mix_all _ _ _ (by rw [hcl.out]; omega) (by rw [hll.out]; omega)]
      rw [e2] at HP
      clear e2
      obtain ⟨vf, w2, k0, k1, k2, k3⟩ := HP.out.clear
      obtain ⟨vn', vl', vf', a, -, -, -⟩ := k2.at_
      have k4 : w2.cell? ⟨b, 4, none⟩ = some (.bool s.fused) := by rw [a.cell]; rfl
      have k5 : w2.cell? ⟨b, 5, none⟩ = some (.int .i64 s.left) := by rw [a.cell]; rfl
      have g4 : w2.frozen? ⟨b, 4, none⟩ = false := a.frozen 4
      have g5 : w2.frozen? ⟨b, 5, none⟩ = false := a.frozen 5
      have K2 := Lib.hid k2
      have K3 := Lib.hid (HKP.out.trans' k3)
      clear a k2 k3
      go_wp2
      go_end0
      refine ⟨rfl, ?_, (K3.out.setCell (by simp) _).setCell (by simp) _⟩
      refine K2.out.six (((Keeps.refl _ _).setCell (by simp) _).setCell (by simp) _) ⟨rfl, rfl, rfl⟩ fun vn vl vf a => ?_
      simpa [PmS.crash] using (a.set 4 (.bool false)).set 5 (.int .i64 0)

end Go.Proofs.Ytopljfbgbiipiaa
