/-
  Layer 1's reference: Do, kinds 0 and 1.
-/
import Derived.Test.YtnjfiaceldkfkaaRefC
namespace Go.Proofs.Ytnjfiaceldkfkaa
open Go.RowKit

def RefS.bump (r : RefS) : RefS := { r with deeds := r.deeds + 1, fuse := if 0 < r.fuse then r.fuse - 1 else r.fuse }
def RefS.fit (r : RefS) : Prop := 0 ≤ r.deeds ∧ r.deeds < 4611686018427387904 ∧ -1 ≤ r.fuse ∧ r.fuse ≤ 9223372036854775807

/-- What Do answers, and leaves. -/
def Did (w : World) (b gn gl gf : Nat) (r : RefS) (x e : Int) (en : Ending) (w' : World) : Prop :=
  en = .returned (.tuple #[.int .u64 x, .int .i64 e]) ∧ RefAt w' b gn gl gf r ∧ Keeps [b, gn, gl, gf] w w'

def opAgg (o : OpR) : Value := .agg #[.int .u8 o.kind, .int .i64 o.i, .int .i64 o.n, .int .u64 o.w, o.kv]

theorem RefAt.bump {w w' : World} {b gn gl gf : Nat} {s : RefS} (h : RefAt w b gn gl gf s) (hw : w' = if 0 < s.fuse then (w.setCell ⟨b, 3, none⟩ (.int .i64 (s.deeds + 1))).setCell ⟨b, 4, none⟩ (.int .i64 (s.fuse - 1)) else w.setCell ⟨b, 3, none⟩ (.int .i64 (s.deeds + 1))) :
    RefAt w' b gn gl gf s.bump ∧ Keeps [b, gn, gl, gf] w w' := by
  subst hw
  split
  · rename_i hf
    refine ⟨h.five (((Keeps.refl _ _).setCell (by simp) _).setCell (by simp) _) ⟨rfl, rfl, rfl⟩ fun vn vl vf a => ?_, ((Keeps.refl _ _).setCell (by simp) _).setCell (by simp) _⟩
    simpa [RefS.bump, hf] using (a.set 3 (.int .i64 (s.deeds + 1))).set 4 (.int .i64 (s.fuse - 1))
  · rename_i hf
    refine ⟨h.five ((Keeps.refl _ _).setCell (by simp) _) ⟨rfl, rfl, rfl⟩ fun vn vl vf a => ?_, (Keeps.refl _ _).setCell (by simp) _⟩
    simpa [RefS.bump, hf] using a.set 3 (.int .i64 (s.deeds + 1))

set_option maxRecDepth 100000 in
set_option maxHeartbeats 2000000 in
theorem refDo_lost {w : World} {b gn gl gf : Nat} {r : RefS} (h : RefAt w b gn gl gf r) {o : OpR} (hk : o.kind % 6 < 4) (hk0 : 0 ≤ o.kind) (hf : r.fuse = 0) :
    Calls Try.prog 19 #[.pointer (some ⟨b, 0, none⟩), opAgg o] w (Did w b gn gl gf r 0 9) := by
  unfold opAgg
  obtain ⟨an, cn, al, cl, af, cf, c0, c1, c2, c3, c4, -, -⟩ := h.cells
  rw [hf] at c4
  have hb := (h.at_.choose_spec.choose_spec.choose_spec.1).lt
  have c4' : (w.alloc (.cells #[.int .u8 o.kind, .int .i64 o.i, .int .i64 o.n, .int .u64 o.w, o.kv] 33)).cell? ⟨b, 4, none⟩ = some (.int .i64 0) := by rw [World.cell?_of_block (w := w) (Below.heap_alloc _ _ _ hb)]; exact c4
  have HE : Hid (Did w b gn gl gf r 0 9 (.returned (.tuple #[.int .u64 0, .int .i64 9])) (w.alloc (.cells #[.int .u8 o.kind, .int .i64 o.i, .int .i64 o.n, .int .u64 o.w, o.kv] 33))) := ⟨rfl, h.keep ((Keeps.refl [] w).alloc _) (by simp) (by simp), (Keeps.refl _ w).alloc _⟩
  clear h c0 c1 c2 c3 c4 hf
  go_enter Try.func19, Try.ntmps19
  go_wp2_with fail
  go_ret2
  exact HE.out

/-- The call's own copy of the call. -/
def OpBlk (w : World) (g : Nat) (o : OpR) : Prop := Blk w g #[.int .u8 o.kind, .int .i64 o.i, .int .i64 o.n, .int .u64 o.w, o.kv] 33

/-- In the midst of Do. -/
structure Mid (w wx : World) (b gn gl gf : Nat) (r : RefS) (o : OpR) : Prop where
  ref : RefAt wx b gn gl gf r
  op : OpBlk wx w.heap.size o
  kept : Keeps [b, gn, gl, gf] w wx
  lo : b < w.heap.size ∧ (r.now.length ≠ 0 → gn < w.heap.size ∧ gl < w.heap.size ∧ gf < w.heap.size)

theorem RefAt.lt {w : World} {b gn gl gf : Nat} {s : RefS} (h : RefAt w b gn gl gf s) : b < w.heap.size ∧ (s.now.length ≠ 0 → gn < w.heap.size ∧ gl < w.heap.size ∧ gf < w.heap.size) := by
  obtain ⟨vn, vl, vf, a, c, d, e⟩ := h.at_
  exact ⟨a.lt, fun hn => ⟨(c.cell hn).1, (d.cell hn).1, (e.cell hn).1⟩⟩

theorem Mid.start {w : World} {b gn gl gf : Nat} {r : RefS} (h : RefAt w b gn gl gf r) (o : OpR) : Mid w (w.alloc (.cells #[.int .u8 o.kind, .int .i64 o.i, .int .i64 o.n, .int .u64 o.w, o.kv] 33)) b gn gl gf r o :=
  ⟨h.keep ((Keeps.refl [] w).alloc _) (by simp) (by simp), Blk.new _ _ _, (Keeps.refl _ w).alloc _, h.lt⟩

/-- One step of the memory's own. -/
theorem Mid.step {w wx wy : World} {b gn gl gf : Nat} {r r' : RefS} {o : OpR} (h : Mid w wx b gn gl gf r o) (hr : RefAt wy b gn gl gf r') (hl : r'.now.length = r.now.length) (hk : Keeps [b, gn, gl, gf] wx wy)
    (hn : r.now.length ≠ 0 ∨ Keeps [b] wx wy) : Mid w wy b gn gl gf r' o := by
  refine ⟨hr, ?_, h.kept.trans' hk, by rw [hl]; exact h.lo⟩
  have := h.lo
  rcases hn with hn | hn
  · exact h.op.keep hk (by simp only [List.mem_cons, List.not_mem_nil, or_false]; have := this.2 hn; omega)
  · exact h.op.keep hn (by simp only [List.mem_cons, List.not_mem_nil, or_false]; omega)

theorem Mid.drewN {w wx : World} {b gn gl gf : Nat} {r : RefS} {o : OpR} (h : Mid w wx b gn gl gf r o) (n : Nat) : Mid w (wx.drewN n) b gn gl gf r o := ⟨h.ref.drewN n, h.op.drewN n, h.kept.drewN n, h.lo⟩
theorem Mid.drew {w wx : World} {b gn gl gf : Nat} {r : RefS} {o : OpR} (h : Mid w wx b gn gl gf r o) : Mid w wx.drew b gn gl gf r o := ⟨h.ref.drew, h.op.drew, h.kept.drew, h.lo⟩

theorem Mid.setNow {w wx : World} {b gn gl gf : Nat} {r : RefS} {o : OpR} (h : Mid w wx b gn gl gf r o) (hn : r.now.length ≠ 0) (j : Nat) (x : Int) : Mid w (wx.setCell ⟨gn, j, none⟩ (.int .u64 x)) b gn gl gf { r with now := r.now.set j x } o :=
  h.step (h.ref.setNow hn j x) (by simp) ((Keeps.refl _ _).setCell (by simp) _) (.inl hn)
theorem Mid.setLast {w wx : World} {b gn gl gf : Nat} {r : RefS} {o : OpR} (h : Mid w wx b gn gl gf r o) (hn : r.now.length ≠ 0) (j : Nat) (x : Int) : Mid w (wx.setCell ⟨gl, j, none⟩ (.int .u64 x)) b gn gl gf { r with last := r.last.set j x } o :=
  h.step (h.ref.setLast hn j x) rfl ((Keeps.refl _ _).setCell (by simp) _) (.inl hn)
theorem Mid.setFl {w wx : World} {b gn gl gf : Nat} {r : RefS} {o : OpR} (h : Mid w wx b gn gl gf r o) (hn : r.now.length ≠ 0) (j : Nat) (x : Bool) : Mid w (wx.setCell ⟨gf, j, none⟩ (.bool x)) b gn gl gf { r with fl := r.fl.set j x } o :=
  h.step (h.ref.setFl hn j x) rfl ((Keeps.refl _ _).setCell (by simp) _) (.inl hn)

/-- The end of Do behind a deed. -/
theorem Mid.bump {w wx : World} {b gn gl gf : Nat} {r : RefS} {o : OpR} (h : Mid w wx b gn gl gf r o) :
    Did w b gn gl gf r.bump 0 0 (.returned (.tuple #[.int .u64 0, .int .i64 0])) (if 0 < r.fuse then (wx.setCell ⟨b, 3, none⟩ (.int .i64 (r.deeds + 1))).setCell ⟨b, 4, none⟩ (.int .i64 (r.fuse - 1)) else wx.setCell ⟨b, 3, none⟩ (.int .i64 (r.deeds + 1))) := by
  obtain ⟨h1, h2⟩ := h.ref.bump rfl
  exact ⟨rfl, h1, h.kept.trans' h2⟩

set_option maxRecDepth 100000 in
set_option maxHeartbeats 2000000 in
theorem refDo_arg {w : World} {b gn gl gf : Nat} {r : RefS} (h : RefAt w b gn gl gf r) {o : OpR} (hk : o.kind % 6 < 3) (hk0 : 0 ≤ o.kind) (hf : r.fuse ≠ 0) (hi : o.i < 0 ∨ (r.now.length : Int) ≤ o.i) :
    Calls Try.prog 19 #[.pointer (some ⟨b, 0, none⟩), opAgg o] w (Did w b gn gl gf r 0 1) := by
  unfold opAgg
  have hn9 := h.n9
  have HM := Lib.hid (Mid.start h o)
  obtain ⟨an, cn, al, cl, af, cf, c0, -, -, -, c4, -, -⟩ := HM.out.ref.cells
  have hb := h.lt.1
  clear h
  have d4 : (r.fuse == 0) = false := by simpa using hf
  clear hf
  have k4 : o.kind % 6 < 4 := by omega
  by_cases hi0 : o.i < 0
  · go_enter Try.func19, Try.ntmps19
    go_wp2_with fail
    go_quiet (fail)
    go_wp2_with fail
    go_ret2
    exact ⟨rfl, (HM.out.drewN _).ref, (HM.out.drewN _).kept⟩
  · have d0 : decide (o.i < 0) = false := by simpa using hi0
    have hi1 : (r.now.length : Int) ≤ o.i := by omega
    go_enter Try.func19, Try.ntmps19
    go_wp2_with fail
    go_quiet (fail)
    go_wp2_with fail
    go_ret2
    exact ⟨rfl, (HM.out.drewN _).ref, (HM.out.drewN _).kept⟩

theorem Mid.opc {w wx : World} {b gn gl gf : Nat} {r : RefS} {o : OpR} (h : Mid w wx b gn gl gf r o) : wx.cell? ⟨w.heap.size, 0, none⟩ = some (.int .u8 o.kind) ∧ wx.cell? ⟨w.heap.size, 1, none⟩ = some (.int .i64 o.i) ∧ wx.cell? ⟨w.heap.size, 2, none⟩ = some (.int .i64 o.n) ∧
    wx.cell? ⟨w.heap.size, 3, none⟩ = some (.int .u64 o.w) ∧ wx.cell? ⟨w.heap.size, 4, none⟩ = some o.kv := by
  have := h.op
  unfold OpBlk at this
  refine ⟨?_, ?_, ?_, ?_, ?_⟩ <;> (rw [this.cell]; rfl)

set_option maxRecDepth 100000 in
set_option maxHeartbeats 2000000 in
theorem refDo_load {w : World} {b gn gl gf : Nat} {r : RefS} (h : RefAt w b gn gl gf r) {o : OpR} (hk : o.kind % 6 = 1) (hk0 : 0 ≤ o.kind) (hf : r.fuse ≠ 0) {i : Nat} (hi : o.i = (i : Int)) (hi2 : i < r.now.length) :
    Calls Try.prog 19 #[.pointer (some ⟨b, 0, none⟩), opAgg o] w (Did w b gn gl gf r (r.now.getD i 0) 0) := by
  unfold opAgg
  have hn9 := h.n9
  have HM := Lib.hid (Mid.start h o)
  rw [hi] at HM
  obtain ⟨an, cn, al, cl, af, cf, c0, -, -, -, c4, -, hc⟩ := HM.out.ref.cells
  obtain ⟨rfl, -, -, k1, -, -, -, -, -⟩ := hc i hi2
  have hb := h.lt.1
  have hgn := (h.lt.2 (by omega)).1
  clear h hc
  rw [hi]
  have d4 : (r.fuse == 0) = false := by simpa using hf
  have d0 : decide ((i : Int) < 0) = false := decide_eq_false (by omega)
  have d1 : (i : Int) < (r.now.length : Int) := by omega
  clear hf
  go_enter Try.func19, Try.ntmps19
  go_wp2_with fail
  go_quiet (fail)
  go_wp2_with fail
  have HM2 := Lib.hid (HM.out.drewN nq)
  clear HM c0 c4 k1
  generalize (w.alloc (.cells #[.int .u8 o.kind, .int .i64 (i : Int), .int .i64 o.n, .int .u64 o.w, o.kv] 33)).drewN nq = w2 at *
  obtain ⟨an, cn', al, cl, af, cf, c0, -, -, -, -, -, hc⟩ := HM2.out.ref.cells
  obtain ⟨rfl, -, -, k1, -, -, -, -, -⟩ := hc i hi2
  obtain ⟨-, q1, -, -, -⟩ := HM2.out.opc
  rw [hi] at q1
  clear hc
  generalize r.now.getD i 0 = x at *
  go_quiet (fail)
  go_wp2_with fail
  go_ret2
  exact ⟨rfl, (HM2.out.drewN _).ref, (HM2.out.drewN _).kept⟩

end Go.Proofs.Ytnjfiaceldkfkaa
