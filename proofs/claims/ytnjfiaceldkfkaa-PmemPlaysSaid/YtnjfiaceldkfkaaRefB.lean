/-
  Layer 1's reference: crash.
-/
import Derived.Test.YtnjfiaceldkfkaaRef
import Derived.Deep.DeepCutAuto
namespace Go.Proofs.Ytnjfiaceldkfkaa
open Go.RowKit

def flZ (fl : List Bool) (k : Nat) : List Bool := fl.mapIdx fun j x => if j < k then false else x

theorem flZ_zero (fl : List Bool) : flZ fl 0 = fl := by
  apply List.ext_getElem?
  intro j
  simp only [flZ, List.getElem?_mapIdx]
  cases fl[j]? <;> simp

theorem flZ_len (fl : List Bool) (k : Nat) : (flZ fl k).length = fl.length := by simp [flZ]

theorem flZ_succ (fl : List Bool) (k : Nat) : flZ fl (k + 1) = (flZ fl k).set k false := by
  apply List.ext_getElem?
  intro j
  simp only [flZ, List.getElem?_set, List.getElem?_mapIdx, List.length_mapIdx]
  by_cases hj : k = j
  · subst hj
    by_cases hl : k < fl.length
    · simp [hl]
    · simp [hl]
  · rw [if_neg hj]
    cases fl[j]? with
    | none => rfl
    | some x =>
      have : j < k + 1 ↔ j < k := by omega
      simp only [this]

theorem flZ_all (fl : List Bool) (k : Nat) (h : fl.length ≤ k) : flZ fl k = List.replicate fl.length false := by
  apply List.ext_getElem?
  intro j
  simp only [flZ, List.getElem?_mapIdx, List.getElem?_replicate]
  by_cases hj : j < fl.length
  · rw [List.getElem?_eq_getElem hj, if_pos hj]
    simp; omega
  · rw [List.getElem?_eq_none (by omega), if_neg hj]
    rfl

def RefS.crash (s : RefS) (ks : List Int) : RefS :=
  { now := crashM ks s.now s.last 0, last := crashM ks s.now s.last 0, fl := List.replicate s.fl.length false, deeds := s.deeds, fuse := -1 }

def RefS.mid (s : RefS) (ks : List Int) (k : Nat) : RefS := { s with now := mix (crashM ks s.now s.last 0) s.now k, last := mix (crashM ks s.now s.last 0) s.last k, fl := flZ s.fl k }

/-- In the midst: what lasts is one word ahead. -/
def RefS.mid1 (s : RefS) (ks : List Int) (k : Nat) : RefS := { s with now := mix (crashM ks s.now s.last 0) s.now k, last := mix (crashM ks s.now s.last 0) s.last (k + 1), fl := flZ s.fl k }

set_option maxRecDepth 100000 in
set_option maxHeartbeats 2000000 in
theorem refCrash_at {w : World} {b gn gl gf : Nat} {s : RefS} (h : RefAt w b gn gl gf s) {v : Value} {gK : Nat} {ks : List Int} (hr : Reads w v gK (u8s ks)) (hb : ∀ j, 0 ≤ ks.getD j 0 ∧ ks.getD j 0 ≤ 255)
    (hgd : gK ∉ [b, gn, gl, gf]) :
    Calls Try.prog 29 #[.pointer (some ⟨b, 0, none⟩), v] w fun e w' => e = .returned (.tuple #[]) ∧ RefAt w' b gn gl gf (s.crash ks) ∧ Keeps [b, gn, gl, gf] w w' := by
  have hn9 := h.n9
  have HLL := Lib.hid h.ll
  have HFL := Lib.hid h.fll
  have HCL := Lib.hid (crashM_len ks s.now s.last 0 h.ll.symm)
  have H := Lib.hid h
  have HR := Lib.hid hr
  have HB := Lib.hid hb
  have HGD := Lib.hid hgd
  obtain ⟨av, cv, rfl, hkm⟩ := hr.val
  rw [u8s_len] at hkm HR ⊢
  unfold maxLen at hkm
  clear h hr hb hgd
  go_enter Try.func29, Try.ntmps29
  go_wp2_with fail
  go_loopg [4, 5] s.now.length (fun g c i wr => ∃ k : Nat, k + g = s.now.length ∧ i = .int .i64 (k : Int) ∧ c = .int .i64 (dirtyN (s.now.take k) (s.last.take k) : Int) ∧ Hid (RefAt wr b gn gl gf (s.mid ks k) ∧ Keeps [b, gn, gl, gf] w wr))
  case atStart => exact ⟨0, by omega, rfl, by simp [dirtyN], by unfold RefS.mid; rw [mix_zero, mix_zero, flZ_zero]; exact H.out, Keeps.refl _ _⟩
  case round =>
    obtain ⟨k, hkg, rfl, rfl, HP⟩ := hrel
    have hd := dirtyN_le (s.now.take k) (s.last.take k)
    have hl : (s.now.take k).length ≤ k := List.length_take_le _ _
    have en : (s.mid ks k).now.length = s.now.length := mix_len _ _ _ HCL.out
    obtain ⟨an, cn, al, cl, af, cf, c0, c1, c2, -, c4, fz, hcells⟩ := HP.out.1.cells
    rw [en] at c0 c1 c2 hcells
    cases gk with
    | zero =>
      obtain rfl : k = s.now.length := by omega
      have e2 : s.mid ks s.now.length = { s with now := crashM ks s.now s.last 0, last := crashM ks s.now s.last 0, fl := List.replicate s.fl.length false } := by
        rw [RefS.mid, mix_all _ _ _ (by rw [HCL.out]; omega) (by omega), mix_all _ _ _ (by rw [HCL.out]; omega) (by rw [HLL.out]; omega), flZ_all _ _ (by rw [HFL.out]; omega)]
      rw [e2] at HP
      have f4 := fz 4
      clear e2 c1 c2 hcells fz en
      have hlt : ¬ (s.now.length : Int) < (s.now.length : Int) := by omega
      go_wp2_with fail
      go_end0
      refine ⟨rfl, HP.out.1.five ((Keeps.refl _ _).setCell (by simp) _) ⟨rfl, rfl, rfl⟩ fun vn vl vf a => ?_, HP.out.2.setCell (by simp) _⟩
      simpa [RefS.crash] using a.set 4 (.int .i64 (-1))
    | succ g =>
      have hlt : (k : Int) < (s.now.length : Int) := by omega
      obtain ⟨rfl, rfl, rfl, k1, k2, k3, z1, z2, z3⟩ := hcells k (by omega)
      have gn0 : (s.mid ks k).now.getD k 0 = s.now.getD k 0 := by rw [RefS.mid, mix_get _ _ _ _ HCL.out (by omega), if_neg (by omega)]
      have gl0 : (s.mid ks k).last.getD k 0 = s.last.getD k 0 := by rw [RefS.mid, mix_get _ _ _ _ (by rw [HCL.out, HLL.out]) (by rw [HLL.out]; omega), if_neg (by omega)]
      rw [gn0] at k1
      rw [gl0] at k2
      have HT := Lib.hid (dirtyN_take s.now s.last k (by omega) HLL.out.symm)
      have HM := Lib.hid (crashM_get ks s.now s.last 0 k HLL.out.symm (by omega))
      have HN := Lib.hid (mix_succ (crashM ks s.now s.last 0) s.now k HCL.out (by omega))
      have HL := Lib.hid (mix_succ (crashM ks s.now s.last 0) s.last k (by rw [HCL.out, HLL.out]) (by rw [HLL.out]; omega))
      have SL := Lib.hid (set_getD_self (s.mid ks k).last k 0)
      rw [gl0] at SL
      have HS2 := Lib.hid (HP.out.1.drew.setLast (by omega) k (s.now.getD k 0))
      have HEN := Lib.hid en
      clear gn0 gl0 hcells fz en c2 c4 k3 z1 z3
      have HX : Hid (∀ wz, RefAt wz b gn gl gf (s.mid ks k) → RefAt (wz.drew.setCell ⟨gl, k, none⟩ (.int .u64 (s.now.getD k 0))) b gn gl gf { s.mid ks k with last := (s.mid ks k).last.set k (s.now.getD k 0) }) := fun wz hz => hz.drew.setLast (by rw [HEN.out]; omega) k (s.now.getD k 0)
      clear HS2
      generalize hxe : s.now.getD k 0 = x at *
      generalize s.last.getD k 0 = y at *
      clear hxe
      go_wp2_with fail
      go_quiet (fail)
      have HP2 : Hid (RefAt (wr.drewN nq) b gn gl gf (s.mid ks k) ∧ Keeps [b, gn, gl, gf] w (wr.drewN nq)) := ⟨HP.out.1.drewN _, HP.out.2.drewN _⟩
      replace c0 : (wr.drewN nq).cell? ⟨b, 0, none⟩ = _ := c0
      replace c1 : (wr.drewN nq).cell? ⟨b, 1, none⟩ = _ := c1
      replace k1 : (wr.drewN nq).cell? ⟨gn, k, none⟩ = _ := k1
      replace k2 : (wr.drewN nq).cell? ⟨gl, k, none⟩ = _ := k2
      replace z2 : (wr.drewN nq).frozen? ⟨gl, k, none⟩ = _ := z2
      clear HP
      generalize wr.drewN nq = w2 at *
      go_upto_if 29 with fail
      go_cut [4] (fun s4 wx => s4 = .int .i64 (dirtyN (s.now.take (k + 1)) (s.last.take (k + 1)) : Int) ∧ Hid (RefAt wx b gn gl gf (s.mid1 ks k) ∧ Keeps [b, gn, gl, gf] w wx))
      case first =>
        generalize dirtyN (s.now.take k) (s.last.take k) = dk at *
        by_cases hx : x = y
        · have e1 : (x != y) = false := by simpa using hx
          have e2 : Hid (s.mid1 ks k = s.mid ks k) := by
            show s.mid1 ks k = s.mid ks k
            have t2 := HL.out
            rw [HM.out, if_pos hx] at t2
            have t4 := SL.out
            rw [← hx] at t4
            simp only [RefS.mid, RefS.mid1] at t4 ⊢
            rw [t2, t4]
          rw [if_pos hx, Nat.add_zero] at HT
          clear hx
          go_wp2_with fail
          go_meet
          exact ⟨by rw [HT.out]; go_num, by rw [e2.out]; exact HP2.out.1, HP2.out.2⟩
        · have e1 : (x != y) = true := by simpa using hx
          rw [if_neg hx] at HM HT
          clear hx
          rw [Nat.zero_add] at HM
          by_cases h0 : ks.length = 0
          · have e2 : Hid (s.mid1 ks k = s.mid ks k) := by
              show s.mid1 ks k = s.mid ks k
              have t2 := HL.out
              have hk0 : keptB ks dk = false := by simp [keptB, h0]
              rw [HM.out, hk0, if_neg (by simp)] at t2
              have t4 := SL.out
              simp only [RefS.mid, RefS.mid1] at t4 ⊢
              rw [t2, t4]
            obtain rfl : ks = [] := List.eq_nil_of_length_eq_zero h0
            clear h0
            go_wp2_with fail
            go_meet
            exact ⟨by rw [HT.out]; go_num, by rw [e2.out]; exact HP2.out.1, HP2.out.2⟩
          · have d0 : decide ((0 : Int) < (ks.length : Int)) = true := decide_eq_true (by omega)
            have p1 : 0 < ks.length := by omega
            have hm : dk % ks.length < ks.length := Nat.mod_lt _ p1
            obtain ⟨aw, cw, hvw, -, -, hrw⟩ := HR.out.keep HP2.out.2 HGD.out
            obtain ⟨hgw, off, rfl, hcw⟩ := hrw (by intro e; exact h0 (by rw [← u8s_len, e]; rfl))
            obtain ⟨hv1, hv2, hv3⟩ := Value.slice.inj hvw
            subst hv1
            clear hv2 hv3
            have cc : w2.cell? ⟨gK, off + dk % ks.length, none⟩ = some (.int .u8 (ks.getD (dk % ks.length) 0)) := by rw [hcw _ (by rw [u8s_len]; exact hm), u8s_get hm]
            obtain ⟨b1, b2⟩ := HB.out (dk % ks.length)
            have hke : keptB ks dk = (ks.getD (dk % ks.length) 0 % 2 == 1) := by simp [keptB]; omega
            rw [hke] at HM
            clear hcw hrw hvw hke h0
            generalize ks.getD (dk % ks.length) 0 = kb at *
            cases hkb : (kb % 2 == 1)
            · rw [hkb, if_neg (by simp)] at HM
              have e2 : Hid (s.mid1 ks k = s.mid ks k) := by
                show s.mid1 ks k = s.mid ks k
                have t2 := HL.out
                rw [HM.out] at t2
                have t4 := SL.out
                simp only [RefS.mid, RefS.mid1] at t4 ⊢
                rw [t2, t4]
              go_wp2_with fail
              go_meet
              exact ⟨by rw [HT.out]; go_num, by rw [e2.out]; exact HP2.out.1, HP2.out.2⟩
            · rw [hkb, if_pos rfl] at HM
              have e2 : Hid (s.mid1 ks k = { s.mid ks k with last := (s.mid ks k).last.set k x }) := by
                show s.mid1 ks k = { s.mid ks k with last := (s.mid ks k).last.set k x }
                have t2 := HL.out
                rw [HM.out] at t2
                simp only [RefS.mid, RefS.mid1]
                rw [t2]
              go_wp2_with fail
              go_still_tail 13, (by kernel_rfl)
              go_wp2_with fail
              go_meet
              exact ⟨by rw [HT.out]; go_num, by rw [e2.out]; exact HX.out _ HP2.out.1, HP2.out.2.drew.setCell (by simp) _⟩
      case rest =>
        obtain ⟨rfl, HP3⟩ := hcut
        have en1 : (s.mid1 ks k).now.length = s.now.length := mix_len _ _ _ HCL.out
        obtain ⟨an', cn', al', cl', af', cf', c0', c1', c2', -, -, -, hcells'⟩ := HP3.out.1.cells
        rw [en1] at c0' c1' c2' hcells'
        obtain ⟨rfl, rfl, rfl, k1', k2', k3', z1', z2', z3'⟩ := hcells' k (by omega)
        have gl1 : (s.mid1 ks k).last.getD k 0 = (crashM ks s.now s.last 0).getD k 0 := by rw [RefS.mid1, mix_get _ _ _ _ (by rw [HCL.out, HLL.out]) (by rw [HLL.out]; omega), if_pos (by omega)]
        rw [gl1] at k2'
        have HY := Lib.hid (HP3.out.1.drew.setNow (by rw [en1]; omega) k ((crashM ks s.now s.last 0).getD k 0))
        obtain ⟨⟨ap1, -, -⟩, -, ap2, -⟩ := HP3.out.1.apart (by rw [en1]; omega)
        clear hcells' gl1 c0 c1 k1 k2 z2
        generalize (s.mid1 ks k).now.getD k 0 = x1 at *
        generalize (s.mid1 ks k).fl.getD k false = f1 at *
        generalize hmk : (crashM ks s.now s.last 0).getD k 0 = mk at *
        clear hmk
        go_wp2_with fail
        go_still_tail 13, (by kernel_rfl)
        go_wp2_with fail
        go_roundg g
        case measure => omega
        case rel =>
          refine ⟨k + 1, by omega, by go_num, rfl, ?_, (HP3.out.2.drew.setCell (by simp) _).setCell (by simp) _⟩
          have e3 : s.mid ks (k + 1) = { { s.mid1 ks k with now := (s.mid1 ks k).now.set k mk } with fl := (s.mid1 ks k).fl.set k false } := by
            have t1 := HN.out
            simp only [RefS.mid, RefS.mid1]
            rw [t1, flZ_succ]
          rw [e3]
          exact HY.out.setFl (by rw [List.length_set, en1]; omega) k false

end Go.Proofs.Ytnjfiaceldkfkaa
