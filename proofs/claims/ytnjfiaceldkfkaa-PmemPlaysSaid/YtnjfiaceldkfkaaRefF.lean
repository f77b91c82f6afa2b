/-
  Layer 1's reference: Do, kinds 2 to 5.
-/
import Derived.Test.YtnjfiaceldkfkaaRefE
namespace Go.Proofs.Ytnjfiaceldkfkaa
open Go.RowKit

def flUp (fl : List Bool) (q k : Nat) : List Bool := fl.mapIdx fun j x => if (q * 8 ≤ j ∧ j < q * 8 + 8) ∧ j < k then true else x

theorem flUp_zero (fl : List Bool) (q : Nat) : flUp fl q 0 = fl := by
  apply List.ext_getElem?
  intro j
  simp only [flUp, List.getElem?_mapIdx]
  cases fl[j]? <;> simp

theorem flUp_len (fl : List Bool) (q k : Nat) : (flUp fl q k).length = fl.length := by simp [flUp]

theorem flUp_in (fl : List Bool) (q k : Nat) (h : q * 8 ≤ k ∧ k < q * 8 + 8) : flUp fl q (k + 1) = (flUp fl q k).set k true := by
  apply List.ext_getElem?
  intro j
  simp only [flUp, List.getElem?_set, List.getElem?_mapIdx, List.length_mapIdx]
  by_cases hj : k = j
  · subst hj
    by_cases hl : k < fl.length
    · rw [if_pos rfl, if_pos hl, List.getElem?_eq_getElem hl, Option.map_some, if_pos ⟨h, by omega⟩]
    · rw [if_pos rfl, if_neg hl, List.getElem?_eq_none (by omega)]; rfl
  · rw [if_neg hj]
    cases fl[j]? with
    | none => rfl
    | some x =>
      have : j < k + 1 ↔ j < k := by omega
      simp only [this]

theorem flUp_out (fl : List Bool) (q k : Nat) (h : ¬ (q * 8 ≤ k ∧ k < q * 8 + 8)) : flUp fl q (k + 1) = flUp fl q k := by
  apply List.ext_getElem?
  intro j
  simp only [flUp, List.getElem?_mapIdx]
  cases fl[j]? with
  | none => rfl
  | some x =>
    simp only [Option.map_some, Option.some.injEq]
    by_cases hj : q * 8 ≤ j ∧ j < q * 8 + 8
    · have : j < k + 1 ↔ j < k := by constructor <;> intro h1 <;> omega
      simp only [this]
    · rw [if_neg (fun e => hj e.1), if_neg (fun e => hj e.1)]

theorem flUp_all (fl : List Bool) (q k : Nat) (h : fl.length ≤ k) : flUp fl q k = flTo fl q 8 := by
  apply List.ext_getElem?
  intro j
  simp only [flUp, flTo, List.getElem?_mapIdx]
  cases hj : fl[j]? with
  | none => rfl
  | some x =>
    have := (List.getElem?_eq_some_iff.1 hj).1
    simp only [Option.map_some, Option.some.injEq]
    by_cases h1 : q * 8 ≤ j ∧ j < q * 8 + 8
    · rw [if_pos ⟨h1, by omega⟩, if_pos h1]
    · rw [if_neg (fun e => h1 e.1), if_neg h1]

set_option maxRecDepth 100000 in
set_option maxHeartbeats 2000000 in
theorem refDo_flush {w : World} {b gn gl gf : Nat} {r : RefS} (h : RefAt w b gn gl gf r) (hfit : r.fit) {o : OpR} (hk : o.kind % 6 = 2) (hk0 : 0 ≤ o.kind) (hf : r.fuse ≠ 0) {i : Nat} (hi : o.i = (i : Int)) (hi2 : i < r.now.length) :
    Calls Try.prog 19 #[.pointer (some ⟨b, 0, none⟩), opAgg o] w (Did w b gn gl gf { r.bump with fl := flTo r.fl (i / 8) 8 } 0 0) := by
  unfold opAgg
  obtain ⟨f1, f2, f3, f4⟩ := hfit
  have hn9 := h.n9
  have HFL := Lib.hid h.fll
  have HM := Lib.hid (Mid.start h o)
  rw [hi] at HM
  obtain ⟨an, cn, al, cl, af, cf, c0, -, -, -, c4, -, -⟩ := HM.out.ref.cells
  have hb := h.lt.1
  clear h
  rw [hi]
  have d4 : (r.fuse == 0) = false := by simpa using hf
  have d0 : decide ((i : Int) < 0) = false := decide_eq_false (by omega)
  have d1 : (i : Int) < (r.now.length : Int) := by omega
  have d2 : decide (r.now.length ≤ i) = false := decide_eq_false (by omega)
  clear hf
  go_enter Try.func19, Try.ntmps19
  go_wp2_with fail
  go_quiet (fail)
  go_wp2_with fail
  have HM2 := Lib.hid (HM.out.drewN nq)
  clear HM c0 c4
  generalize (w.alloc (.cells #[.int .u8 o.kind, .int .i64 (i : Int), .int .i64 o.n, .int .u64 o.w, o.kv] 33)).drewN nq = w2 at *
  simp only [hk]
  go_loopg [7] r.now.length (fun g s7 wx => ∃ k : Nat, k + g = r.now.length ∧ s7 = .int .i64 (k : Int) ∧ Hid (Mid w wx b gn gl gf { r with fl := flUp r.fl (i / 8) k } o))
  case atStart => exact ⟨0, by omega, rfl, by rw [flUp_zero]; exact HM2.out⟩
  case round =>
    obtain ⟨k, hkg, rfl, HM3⟩ := hrel
    clear HM2
    obtain ⟨an, cn', al, cl, af, cf, c0, -, c2, c3, c4, hz, hc⟩ := HM3.out.ref.cells
    obtain ⟨-, q1, -, -, -⟩ := HM3.out.opc
    rw [hi] at q1
    cases gk with
    | zero =>
      obtain rfl : k = r.now.length := by omega
      have hlt : ¬ (r.now.length : Int) < (r.now.length : Int) := by omega
      have HE := HM3.out.bump
      rw [flUp_all _ _ _ (by rw [HFL.out]; omega)] at HE
      have y3 := hz 3
      have y4 := hz 4
      clear hc hz
      by_cases h0 : 0 < r.fuse
      · rw [if_pos h0] at HE
        have HE3 := Lib.hid HE
        clear HE
        go_wp2_with fail
        go_ret2
        exact HE3.out
      · rw [if_neg h0] at HE
        have HE3 := Lib.hid HE
        clear HE
        go_wp2_with fail
        go_ret2
        exact HE3.out
    | succ g =>
      have hlt : (k : Int) < (r.now.length : Int) := by omega
      obtain ⟨-, -, rfl, -, -, k3, -, -, z3⟩ := hc k (by show k < r.now.length; omega)
      have HE := Lib.hid (HM3.out.setFl (by show r.now.length ≠ 0; omega) k true)
      clear hc hz c3 c4
      generalize ({ r with fl := flUp r.fl (i / 8) k } : RefS).fl.getD k false = x at *
      by_cases hq : k / 8 = i / 8
      · have hb1 : ((k : Int) / 8 == (i : Int) / 8) = true := by rw [beq_iff_eq]; omega
        have HU := Lib.hid (flUp_in r.fl (i / 8) k (by omega))
        go_wp2_with fail
        go_roundg g
        case measure => omega
        case rel => exact ⟨k + 1, by omega, by go_num, by rw [HU.out]; exact HE.out⟩
      · have hb1 : ((k : Int) / 8 == (i : Int) / 8) = false := by rw [beq_eq_false_iff_ne]; omega
        have HU := Lib.hid (flUp_out r.fl (i / 8) k (by omega))
        go_wp2_with fail
        go_roundg g
        case measure => omega
        case rel => exact ⟨k + 1, by omega, by go_num, by rw [HU.out]; exact HM3.out⟩

/-- What lasts once the first k words have been seen to. -/
def fenR (r : RefS) (k : Nat) : List Int := r.last.mapIdx fun j x => if j < k ∧ r.fl.getD j false = true then r.now.getD j 0 else x

theorem fenR_zero (r : RefS) : fenR r 0 = r.last := by
  apply List.ext_getElem?
  intro j
  simp only [fenR, List.getElem?_mapIdx]
  cases r.last[j]? <;> simp

theorem fenR_len (r : RefS) (k : Nat) : (fenR r k).length = r.last.length := by simp [fenR]

theorem fenR_in (r : RefS) (k : Nat) (h : r.fl.getD k false = true) : fenR r (k + 1) = (fenR r k).set k (r.now.getD k 0) := by
  apply List.ext_getElem?
  intro j
  simp only [fenR, List.getElem?_set, List.getElem?_mapIdx, List.length_mapIdx]
  by_cases hj : k = j
  · subst hj
    by_cases hl : k < r.last.length
    · rw [if_pos rfl, if_pos hl, List.getElem?_eq_getElem hl, Option.map_some, if_pos ⟨by omega, h⟩]
    · rw [if_pos rfl, if_neg hl, List.getElem?_eq_none (by omega)]; rfl
  · rw [if_neg hj]
    cases r.last[j]? with
    | none => rfl
    | some x =>
      have : j < k + 1 ↔ j < k := by omega
      simp only [this]

theorem fenR_out (r : RefS) (k : Nat) (h : r.fl.getD k false = false) : fenR r (k + 1) = fenR r k := by
  apply List.ext_getElem?
  intro j
  simp only [fenR, List.getElem?_mapIdx]
  cases r.last[j]? with
  | none => rfl
  | some x =>
    simp only [Option.map_some, Option.some.injEq]
    by_cases hj : j = k
    · subst hj; rw [if_neg (by rw [h]; simp), if_neg (by rw [h]; simp)]
    · have : j < k + 1 ↔ j < k := by omega
      simp only [this]

def RefS.fmid (r : RefS) (k : Nat) : RefS := { r with last := fenR r k, fl := flZ r.fl k }

set_option maxRecDepth 100000 in
set_option maxHeartbeats 2000000 in
theorem refDo_fence {w : World} {b gn gl gf : Nat} {r : RefS} (h : RefAt w b gn gl gf r) (hfit : r.fit) {o : OpR} (hk : o.kind % 6 = 3) (hk0 : 0 ≤ o.kind) (hf : r.fuse ≠ 0) :
    Calls Try.prog 19 #[.pointer (some ⟨b, 0, none⟩), opAgg o] w (Did w b gn gl gf { r.bump with last := fenR r r.now.length, fl := List.replicate r.fl.length false } 0 0) := by
  unfold opAgg
  obtain ⟨f1, f2, f3, f4⟩ := hfit
  have hn9 := h.n9
  have HFL := Lib.hid h.fll
  have HLL := Lib.hid h.ll
  have HM := Lib.hid (Mid.start h o)
  obtain ⟨an, cn, al, cl, af, cf, c0, -, -, -, c4, -, -⟩ := HM.out.ref.cells
  have hb := h.lt.1
  clear h
  have d4 : (r.fuse == 0) = false := by simpa using hf
  clear hf
  go_enter Try.func19, Try.ntmps19
  go_wp2_with fail
  go_quiet (fail)
  go_wp2_with fail
  have HM2 := Lib.hid (HM.out.drewN nq)
  clear HM c0 c4
  generalize (w.alloc (.cells #[.int .u8 o.kind, .int .i64 o.i, .int .i64 o.n, .int .u64 o.w, o.kv] 33)).drewN nq = w2 at *
  simp only [hk]
  go_loopg [8] r.now.length (fun g s8 wx => ∃ k : Nat, k + g = r.now.length ∧ s8 = .int .i64 (k : Int) ∧ Hid (Mid w wx b gn gl gf (r.fmid k) o))
  case atStart => exact ⟨0, by omega, rfl, by unfold RefS.fmid; rw [fenR_zero, flZ_zero]; exact HM2.out⟩
  case round =>
    obtain ⟨k, hkg, rfl, HM3⟩ := hrel
    clear HM2
    have en : (r.fmid k).now.length = r.now.length := rfl
    obtain ⟨an, cn', al, cl, af, cf, c0, c1, c2, c3, c4, hz, hc⟩ := HM3.out.ref.cells
    rw [en] at c0 c1 c2 hc
    cases gk with
    | zero =>
      obtain rfl : k = r.now.length := by omega
      have hlt : ¬ (r.now.length : Int) < (r.now.length : Int) := by omega
      have HE := HM3.out.bump
      have e1 : r.fmid r.now.length = { r with last := fenR r r.now.length, fl := List.replicate r.fl.length false } := by
        rw [RefS.fmid, flZ_all _ _ (by rw [HFL.out]; omega)]
      rw [e1] at HE
      have y3 := hz 3
      have y4 := hz 4
      rw [e1] at c3 c4
      clear hc hz e1
      by_cases h0 : 0 < r.fuse
      · rw [if_pos h0] at HE
        have HE3 := Lib.hid HE
        clear HE
        go_wp2_with fail
        go_ret2
        exact HE3.out
      · rw [if_neg h0] at HE
        have HE3 := Lib.hid HE
        clear HE
        go_wp2_with fail
        go_ret2
        exact HE3.out
    | succ g =>
      have hlt : (k : Int) < (r.now.length : Int) := by omega
      obtain ⟨rfl, rfl, rfl, k1, k2, k3, z1, z2, z3⟩ := hc k (by omega)
      have gf0 : (r.fmid k).fl.getD k false = r.fl.getD k false := by
        simp only [RefS.fmid, flZ]
        rw [List.getD_eq_getElem?_getD, List.getElem?_mapIdx, List.getElem?_eq_getElem (by rw [HFL.out]; omega)]
        simp [show k < r.fl.length by rw [HFL.out]; omega]
      rw [gf0] at k3
      have k1' : wr.cell? ⟨gn, k, none⟩ = some (.int .u64 (r.now.getD k 0)) := k1
      clear hc hz c3 c4 k1 gf0
      obtain ⟨⟨ap1, ap2, ap3⟩, ap4, ap5, ap6⟩ := HM3.out.ref.apart (by rw [en]; omega)
      cases hfl : r.fl.getD k false
      · rw [hfl] at k3
        have HE : Hid (Mid w (wr.setCell ⟨gf, k, none⟩ (.bool false)) b gn gl gf (r.fmid (k + 1)) o) := by
          have := HM3.out.setFl (by rw [en]; omega) k false
          have e1 : r.fmid (k + 1) = { r.fmid k with fl := (r.fmid k).fl.set k false } := by
            simp only [RefS.fmid]; rw [fenR_out r k hfl, flZ_succ]
          rw [e1]; exact this
        clear hfl en
        generalize (r.fmid k).last.getD k 0 = y at *
        generalize r.now.getD k 0 = x at *
        go_wp2_with fail
        go_roundg g
        case measure => omega
        case rel => exact ⟨k + 1, by omega, by go_num, HE.out⟩
      · rw [hfl] at k3
        have HE : Hid (Mid w ((wr.drew.setCell ⟨gl, k, none⟩ (.int .u64 (r.now.getD k 0))).setCell ⟨gf, k, none⟩ (.bool false)) b gn gl gf (r.fmid (k + 1)) o) := by
          have := (HM3.out.drew.setLast (by rw [en]; omega) k (r.now.getD k 0)).setFl (by show r.now.length ≠ 0; omega) k false
          have e1 : r.fmid (k + 1) = { r.fmid k with last := (r.fmid k).last.set k (r.now.getD k 0), fl := (r.fmid k).fl.set k false } := by
            simp only [RefS.fmid]; rw [fenR_in r k hfl, flZ_succ]
          rw [e1]; exact this
        clear hfl en
        generalize (r.fmid k).last.getD k 0 = y at *
        generalize r.now.getD k 0 = x at *
        go_wp2_with fail
        go_still_tail 13, (by kernel_rfl)
        go_wp2_with fail
        go_roundg g
        case measure => omega
        case rel => exact ⟨k + 1, by omega, by go_num, HE.out⟩

def RefS.fuseTo (r : RefS) (n : Int) : RefS := if r.fuse = 0 then r else { r with fuse := if n < -1 then -1 else n }

set_option maxRecDepth 100000 in
set_option maxHeartbeats 2000000 in
theorem refDo_fuse {w : World} {b gn gl gf : Nat} {r : RefS} (h : RefAt w b gn gl gf r) {o : OpR} (hk : o.kind % 6 = 4) (hk0 : 0 ≤ o.kind) :
    Calls Try.prog 19 #[.pointer (some ⟨b, 0, none⟩), opAgg o] w (Did w b gn gl gf (r.fuseTo o.n) 0 0) := by
  unfold opAgg
  have HM := Lib.hid (Mid.start h o)
  have hb := h.lt.1
  clear h
  go_enter Try.func19, Try.ntmps19
  go_wp2_with fail
  go_quiet (fail)
  have HM2 := Lib.hid (HM.out.drewN nq)
  clear HM
  generalize (w.alloc (.cells #[.int .u8 o.kind, .int .i64 o.i, .int .i64 o.n, .int .u64 o.w, o.kv] 33)).drewN nq = w2 at *
  obtain ⟨-, -, -, -, -, -, -, -, -, -, c4, hz, -⟩ := HM2.out.ref.cells
  obtain ⟨-, -, q2, -, -⟩ := HM2.out.opc
  have z4 := hz 4
  clear hz
  by_cases h0 : r.fuse = 0
  · have d4 : (r.fuse != 0) = false := by simpa using h0
    have HE : Hid (Did w b gn gl gf (r.fuseTo o.n) 0 0 (.returned (.tuple #[.int .u64 0, .int .i64 0])) w2) := by
      show Did _ _ _ _ _ _ _ _ _ _
      rw [RefS.fuseTo, if_pos h0]; exact ⟨rfl, HM2.out.ref, HM2.out.kept⟩
    clear h0
    go_wp2_with fail
    go_ret2
    exact HE.out
  · have d4 : (r.fuse != 0) = true := by simpa using h0
    by_cases hm : o.n < -1
    · have HE : Hid (Did w b gn gl gf (r.fuseTo o.n) 0 0 (.returned (.tuple #[.int .u64 0, .int .i64 0])) (w2.setCell ⟨b, 4, none⟩ (.int .i64 (-1)))) := by
        show Did _ _ _ _ _ _ _ _ _ _
        rw [RefS.fuseTo, if_neg h0, if_pos hm]
        refine ⟨rfl, HM2.out.ref.five ((Keeps.refl _ _).setCell (by simp) _) ⟨rfl, rfl, rfl⟩ fun vn vl vf a => ?_, HM2.out.kept.setCell (by simp) _⟩
        simpa using a.set 4 (.int .i64 (-1))
      clear h0
      go_wp2_with fail
      go_ret2
      exact HE.out
    · have hm' : -1 ≤ o.n := by omega
      have HE : Hid (Did w b gn gl gf (r.fuseTo o.n) 0 0 (.returned (.tuple #[.int .u64 0, .int .i64 0])) (w2.setCell ⟨b, 4, none⟩ (.int .i64 o.n))) := by
        show Did _ _ _ _ _ _ _ _ _ _
        rw [RefS.fuseTo, if_neg h0, if_neg hm]
        refine ⟨rfl, HM2.out.ref.five ((Keeps.refl _ _).setCell (by simp) _) ⟨rfl, rfl, rfl⟩ fun vn vl vf a => ?_, HM2.out.kept.setCell (by simp) _⟩
        simpa using a.set 4 (.int .i64 o.n)
      clear h0 hm
      go_wp2_with fail
      go_ret2
      exact HE.out

set_option maxRecDepth 100000 in
set_option maxHeartbeats 2000000 in
theorem refDo_crash {w : World} {b gn gl gf : Nat} {r : RefS} (h : RefAt w b gn gl gf r) {o : OpR} (hk : o.kind % 6 = 5) (hk0 : 0 ≤ o.kind) (hr : Reads w o.kv o.kg (u8s o.ks)) (hby : ∀ j, 0 ≤ o.ks.getD j 0 ∧ o.ks.getD j 0 ≤ 255) (hgd : o.ks ≠ [] → o.kg ∉ [b, gn, gl, gf]) :
    Calls Try.prog 19 #[.pointer (some ⟨b, 0, none⟩), opAgg o] w (Did w b gn gl gf (r.crash o.ks) 0 0) := by
  unfold opAgg
  have HM := Lib.hid (Mid.start h o)
  have hb := h.lt.1
  have HCR : Hid (∀ wx, Keeps [b, gn, gl, gf] w wx → RefAt wx b gn gl gf r → Calls Try.prog 29 #[.pointer (some ⟨b, 0, none⟩), o.kv] wx fun e w' => e = .returned (.tuple #[]) ∧ RefAt w' b gn gl gf (r.crash o.ks) ∧ Keeps [b, gn, gl, gf] wx w') := fun wx hkx hx => by
    by_cases hks : o.ks = []
    · have h1 : Reads wx o.kv (b + gn + gl + gf + 1) (u8s o.ks) := (hr.anyG (by rw [hks]; rfl) (b + gn + gl + gf + 1)).keep hkx (by simp; omega)
      exact refCrash_at hx h1 hby (by simp; omega)
    · exact refCrash_at hx (hr.keep hkx (hgd hks)) hby (hgd hks)
  obtain ⟨akv, ckv, hkv, -⟩ := hr.val
  rw [hkv] at HM HCR ⊢
  clear h hr hby hgd
  go_enter Try.func19, Try.ntmps19
  go_wp2_with fail
  go_quiet (fail)
  have HM2 := Lib.hid (HM.out.drewN nq)
  clear HM
  generalize (w.alloc (.cells #[.int .u8 o.kind, .int .i64 o.i, .int .i64 o.n, .int .u64 o.w, .slice akv (u8s o.ks).length ckv] 33)).drewN nq = w2 at *
  obtain ⟨-, -, -, -, q4⟩ := HM2.out.opc
  rw [hkv] at q4
  have HKV := Lib.hid hkv
  clear hkv
  go_wp2_with fail
  refine (HCR.out _ HM2.out.kept HM2.out.ref).mono ?_
  rintro e w3 ⟨rfl, hp, hkk⟩
  have HP := Lib.hid hp
  have HKK := Lib.hid (HM2.out.kept.trans' hkk)
  clear hp hkk
  go_wp2_with fail
  go_ret2
  exact ⟨rfl, HP.out, HKK.out⟩

end Go.Proofs.Ytnjfiaceldkfkaa
