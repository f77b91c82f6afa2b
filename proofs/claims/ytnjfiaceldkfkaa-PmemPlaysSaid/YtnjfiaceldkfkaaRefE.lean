/-
  Layer 1's reference: Do, kinds 0 and 2 to 5.
-/
import Derived.Test.YtnjfiaceldkfkaaRefD
namespace Go.Proofs.Ytnjfiaceldkfkaa
open Go.RowKit

set_option maxRecDepth 100000 in
set_option maxHeartbeats 2000000 in
theorem refDo_store {w : World} {b gn gl gf : Nat} {r : RefS} (h : RefAt w b gn gl gf r) (hfit : r.fit) {o : OpR} (hk : o.kind % 6 = 0) (hk0 : 0 ≤ o.kind) (hf : r.fuse ≠ 0) {i : Nat} (hi : o.i = (i : Int)) (hi2 : i < r.now.length) :
    Calls Try.prog 19 #[.pointer (some ⟨b, 0, none⟩), opAgg o] w (Did w b gn gl gf { r.bump with now := r.now.set i o.w, fl := r.fl.set i false } 0 0) := by
  unfold opAgg
  obtain ⟨f1, f2, f3, f4⟩ := hfit
  have hn9 := h.n9
  have HM := Lib.hid (Mid.start h o)
  rw [hi] at HM
  obtain ⟨an, cn, al, cl, af, cf, c0, -, -, -, c4, -, -⟩ := HM.out.ref.cells
  have hb := h.lt.1
  clear h
  rw [hi]
  have d4 : (r.fuse == 0) = false := by simpa using hf
  have d0 : decide ((i : Int) < 0) = false := decide_eq_false (by omega)
  have d1 : (i : Int) < (r.now.length : Int) := by omega
  have d2 : decide (r.now.length ≤ i) = false := decide_eq_false (by omega)
  clear hf
  go_enter Try.func19, Try.ntmps19
  go_wp2_with fail
  go_quiet (fail)
  go_wp2_with fail
  have HM2 := Lib.hid (HM.out.drewN nq)
  clear HM c0 c4
  generalize (w.alloc (.cells #[.int .u8 o.kind, .int .i64 (i : Int), .int .i64 o.n, .int .u64 o.w, o.kv] 33)).drewN nq = w2 at *
  simp only [hk]
  go_upto_region 8 with fail
  go_cut [] (fun wx => Hid (Mid w wx b gn gl gf { r with now := r.now.set i o.w } o))
  case first =>
    obtain ⟨an, cn', al, cl, af, cf, c0, -, -, -, -, -, hc⟩ := HM2.out.ref.cells
    obtain ⟨rfl, -, -, k1, -, -, z1, -, -⟩ := hc i hi2
    obtain ⟨-, q1, -, q3, -⟩ := HM2.out.opc
    rw [hi] at q1
    have HE := Lib.hid (HM2.out.drew.setNow (by omega) i o.w)
    clear hc
    generalize r.now.getD i 0 = x at *
    go_still_tail 9, (by kernel_rfl)
    go_wp2_with fail
    go_meet
    exact HE.out
  case rest =>
    have HM3 := hcut
    clear hcut HM2
    have hl3 : ({ r with now := r.now.set i o.w } : RefS).now.length = r.now.length := by simp
    obtain ⟨an, cn', al, cl, af, cf, -, -, c2, c3, c4, hz, hc⟩ := HM3.out.ref.cells
    rw [hl3] at c2 hc
    obtain ⟨-, -, rfl, -, -, k3, -, -, z3⟩ := hc i hi2
    obtain ⟨-, q1, -, -, -⟩ := HM3.out.opc
    rw [hi] at q1
    have HE := Lib.hid ((HM3.out.drew.setFl (by rw [hl3]; omega) i false)).bump
    have y3 := hz 3
    have y4 := hz 4
    obtain ⟨⟨-, -, ap⟩, -⟩ := HM3.out.ref.apart (by rw [hl3]; omega)
    clear hc hz hl3
    generalize ({ r with now := r.now.set i o.w } : RefS).fl.getD i false = x at *
    by_cases h0 : 0 < r.fuse
    · have HE2 := HE.out
      rw [if_pos h0] at HE2
      have HE3 := Lib.hid HE2
      clear HE HE2
      go_wp2_with fail
      go_still_tail 7, (by kernel_rfl)
      go_wp2_with fail
      go_ret2
      exact HE3.out
    · have HE2 := HE.out
      rw [if_neg h0] at HE2
      have HE3 := Lib.hid HE2
      clear HE HE2
      go_wp2_with fail
      go_still_tail 7, (by kernel_rfl)
      go_wp2_with fail
      go_ret2
      exact HE3.out

end Go.Proofs.Ytnjfiaceldkfkaa
