/-
  Layer 1's reference: calls (imagoref01.Op) as they are read, and Few.
-/
import Derived.Test.YtnjfiaceldkfkaaPmF
import Derived.Test.YtnjfiaceldkfkaaOpen
namespace Go.Proofs.Ytnjfiaceldkfkaa
open Go.ChangeShapes Go.WideShapes Go.ChangeAt Go.RowKit

/-- A call, as it was read: its numbers, and where its list of bytes lies. -/
structure OpR where
  kind : Int
  i : Int
  n : Int
  w : Int
  kv : Value
  kg : Nat
  ks : List Int

def opCells (o : OpR) : List Value := [.int .u8 o.kind, .int .i64 o.i, .int .i64 o.n, .int .u64 o.w, o.kv]

structure OpOk (W : World) (o : OpR) : Prop where
  kind : 0 ≤ o.kind ∧ o.kind ≤ 255
  i : -9223372036854775808 ≤ o.i ∧ o.i ≤ 9223372036854775807
  n : -9223372036854775808 ≤ o.n ∧ o.n ≤ 9223372036854775807
  w : 0 ≤ o.w ∧ o.w ≤ 18446744073709551615
  reads : Reads W o.kv o.kg (u8s o.ks)
  bytes : ∀ j, 0 ≤ o.ks.getD j 0 ∧ o.ks.getD j 0 ≤ 255

theorem getD_all {l : List Int} {p : Int → Prop} (h : ∀ n ∈ l, p n) (h0 : p 0) (j : Nat) : p (l.getD j 0) := by
  rw [List.getD_eq_getElem?_getD]
  cases hj : l[j]? with
  | none => exact h0
  | some x => exact h x (List.mem_of_getElem? hj)

theorem wf_u8 {n : Int} (h : (Lit.int .u8 n).wf = true) : 0 ≤ n ∧ n ≤ 255 := bounds_u8 h
theorem wf_i64 {n : Int} (h : (Lit.int .i64 n).wf = true) : -9223372036854775808 ≤ n ∧ n ≤ 9223372036854775807 := bounds_i64 h
theorem wf_u64 {n : Int} (h : (Lit.int .u64 n).wf = true) : 0 ≤ n ∧ n ≤ 18446744073709551615 := bounds_u64 h

section
variable {H : Type} {enc : TypeId × Value → H} {W : World} {base : Nat} {spare : Nat → Bool} {held : Bool}

theorem open_op {fuel : Nat} {cs : List Value} {x : DataW H × List MemPlace} (h : DataW.trod enc Try.prog W base spare held fuel 33 cs = some x) : ∃ o : OpR, cs = opCells o ∧ OpOk W o := by
  obtain ⟨xs, n, -, -, hl, hlen, hf⟩ := DataW.trod_struct Try.underlying33 h
  rw [show Try.prog.cellsOf 33 = 5 by kernel_rfl] at hl
  match cs, hl with
  | [c0, c1, c2, c3, c4], _ =>
    have f0 : DataW.trod enc Try.prog W base spare held n 5 (([c0, c1, c2, c3, c4].drop 0).take (Try.prog.cellsOf 5)) = xs[0]? := hf 0 _ rfl
    have f1 : DataW.trod enc Try.prog W base spare held n 3 (([c0, c1, c2, c3, c4].drop 1).take (Try.prog.cellsOf 3)) = xs[1]? := hf 1 _ rfl
    have f2 : DataW.trod enc Try.prog W base spare held n 3 (([c0, c1, c2, c3, c4].drop 2).take (Try.prog.cellsOf 3)) = xs[2]? := hf 2 _ rfl
    have f3 : DataW.trod enc Try.prog W base spare held n 31 (([c0, c1, c2, c3, c4].drop 3).take (Try.prog.cellsOf 31)) = xs[3]? := hf 3 _ rfl
    have f4 : DataW.trod enc Try.prog W base spare held n 23 (([c0, c1, c2, c3, c4].drop 4).take (Try.prog.cellsOf 23)) = xs[4]? := hf 4 _ rfl
    simp only [show Try.prog.cellsOf 5 = 1 by kernel_rfl, show Try.prog.cellsOf 3 = 1 by kernel_rfl, show Try.prog.cellsOf 31 = 1 by kernel_rfl, show Try.prog.cellsOf 23 = 1 by kernel_rfl,
      List.drop_zero, List.drop_succ_cons, List.take_succ_cons, List.take_zero] at f0 f1 f2 f3 f4
    match xs, hlen with
    | [y0, y1, y2, y3, y4], _ =>
      simp only [List.getElem?_cons_zero, List.getElem?_cons_succ] at f0 f1 f2 f3 f4
      obtain ⟨n0, e0, -, w0⟩ := DataW.trod_int Try.underlying5 f0
      obtain ⟨n1, e1, -, w1⟩ := DataW.trod_int Try.underlying3 f1
      obtain ⟨n2, e2, -, w2⟩ := DataW.trod_int Try.underlying3 f2
      obtain ⟨n3, e3, -, w3⟩ := DataW.trod_int Try.underlying31 f3
      obtain ⟨v, g, zs, e4, hr, hw⟩ := open_reads Try.underlying23 Try.underlying5 (by kernel_rfl) f4
      simp only [List.cons.injEq, and_true] at e0 e1 e2 e3 e4
      subst e0 e1 e2 e3 e4
      exact ⟨⟨n0, n1, n2, n3, c4, g, zs⟩, rfl, wf_u8 w0, wf_i64 w1, wf_i64 w2, wf_u64 w3, hr, fun j => getD_all (p := fun n => 0 ≤ n ∧ n ≤ 255) (fun n hn => wf_u8 (hw n hn)) (by omega) j⟩

end

/-- A slice of calls. -/
structure OpsAt (W : World) (v : Value) (l : List OpR) : Prop where
  all : ∀ o ∈ l, OpOk W o
  at_ : ∃ a cap, v = .slice a l.length cap ∧ l.length ≤ cap ∧ cap ≤ maxLen ∧ (l ≠ [] → ∃ g off, a = some ⟨g, off, none⟩ ∧ g < W.heap.size ∧
    ∀ (j : Nat) (o : OpR), l[j]? = some o → ∀ c, c < 5 → W.cell? ⟨g, off + (j * 5 + c), none⟩ = (opCells o)[c]?)

section
variable {H : Type} {enc : TypeId × Value → H} {W : World} {base : Nat} {spare : Nat → Bool} {held : Bool}
theorem open_ops {fuel : Nat} {cs : List Value} {x : DataW H × List MemPlace} (h : DataW.trod enc Try.prog W base spare held fuel 22 cs = some x) : ∃ v l, cs = [v] ∧ OpsAt W v l := by
  obtain ⟨a, len, cap, rfl, h1, h2, h3⟩ := open_rows (sz := 5) Try.underlying22 (by kernel_rfl) (by omega) h
  by_cases h0 : len = 0
  · subst h0
    exact ⟨_, [], rfl, by simp, a, cap, rfl, by simp, h2, fun h => absurd rfl h⟩
  · obtain ⟨g, off, rfl, hg, hx⟩ := h3 h0
    have hex : ∀ i, i < len → ∃ o : OpR, OpOk W o ∧ ∀ c, c < 5 → W.cell? ⟨g, off + (i * 5 + c), none⟩ = (opCells o)[c]? := fun i hi => by
      obtain ⟨cs', y, n, hl, hc, ht⟩ := hx i hi
      obtain ⟨o, rfl, ho⟩ := open_op ht
      exact ⟨o, ho, hc⟩
    obtain ⟨f, hf⟩ : ∃ f : Nat → OpR, ∀ i, i < len → OpOk W (f i) ∧ ∀ c, c < 5 → W.cell? ⟨g, off + (i * 5 + c), none⟩ = (opCells (f i))[c]? :=
      ⟨fun i => if h : i < len then Classical.choose (hex i h) else ⟨0, 0, 0, 0, .bool false, 0, []⟩, fun i hi => by simp only [dif_pos hi]; exact Classical.choose_spec (hex i hi)⟩
    refine ⟨_, (List.range len).map f, rfl, ?_, _, cap, by simp, by simpa using h1, h2, fun _ => ⟨g, off, rfl, hg, fun j o ho => ?_⟩⟩
    · intro o ho
      simp only [List.mem_map, List.mem_range] at ho
      obtain ⟨i, hi, rfl⟩ := ho
      exact (hf i hi).1
    · simp only [List.getElem?_map, Option.map_eq_some_iff] at ho
      obtain ⟨i, hi, rfl⟩ := ho
      have hj := (List.getElem?_eq_some_iff.1 hi)
      simp only [List.getElem_range, List.length_range] at hj
      obtain ⟨hj1, rfl⟩ := hj
      exact (hf j hj1).2
end

/-- Old memory stands: the calls are read as they were. -/
theorem OpsAt.keep {W W' : World} {v : Value} {l : List OpR} (h : OpsAt W v l) (hb : Below W.heap.size W W') : OpsAt W' v l := by
  have hk : Keeps [] W W' := Keeps.of_below hb []
  obtain ⟨h0, a, cap, h1, h2, h3, h4⟩ := h
  refine ⟨fun o ho => ?_, a, cap, h1, h2, h3, fun hl => ?_⟩
  · obtain ⟨p1, p2, p3, p4, p5, p6⟩ := h0 o ho
    exact ⟨p1, p2, p3, p4, p5.keep hk (by simp), p6⟩
  · obtain ⟨g, off, h5, h6, h7⟩ := h4 hl
    refine ⟨g, off, h5, Nat.lt_of_lt_of_le h6 hk.size, fun j o ho c hc => ?_⟩
    rw [hb.cell h6]
    exact h7 j o ho c hc

/-- Few calls, by the law's own count. -/
def fewB (l : List OpR) (n : Nat) : Bool := ((l.take 300).all fun o => decide (o.ks.length ≤ 100)) && decide (l.length ≤ n)

theorem fewB_true {l : List OpR} {n : Nat} (h : fewB l n = true) (hn : n ≤ 300) : l.length ≤ n ∧ ∀ o ∈ l, o.ks.length ≤ 100 := by
  simp only [fewB, Bool.and_eq_true, List.all_eq_true, decide_eq_true_eq] at h
  refine ⟨h.2, fun o ho => h.1 o ?_⟩
  rw [List.take_of_length_le (by omega)]
  exact ho

/-- The cells of the j-th call. -/
theorem OpsAt.get {W : World} {v : Value} {l : List OpR} (h : OpsAt W v l) {j : Nat} (hj : j < l.length) :
    ∃ g off cap, v = .slice (some ⟨g, off, none⟩) l.length cap ∧ l.length ≤ maxLen ∧ g < W.heap.size ∧ OpOk W l[j] ∧
      W.cell? ⟨g, off + j * 5, none⟩ = some (.int .u8 l[j].kind) ∧ W.cell? ⟨g, off + j * 5 + 1, none⟩ = some (.int .i64 l[j].i) ∧ W.cell? ⟨g, off + j * 5 + 2, none⟩ = some (.int .i64 l[j].n) ∧
      W.cell? ⟨g, off + j * 5 + 3, none⟩ = some (.int .u64 l[j].w) ∧ W.cell? ⟨g, off + j * 5 + 4, none⟩ = some l[j].kv := by
  obtain ⟨h0, a, cap, rfl, h2, h3, h4⟩ := h
  obtain ⟨g, off, rfl, h6, h7⟩ := h4 (by intro e; rw [e] at hj; simp at hj)
  have hc := h7 j l[j] (List.getElem?_eq_getElem hj)
  exact ⟨g, off, cap, rfl, Nat.le_trans h2 h3, h6, h0 _ (List.getElem_mem hj), hc 0 (by omega), hc 1 (by omega), hc 2 (by omega), hc 3 (by omega), hc 4 (by omega)⟩

theorem OpsAt.val {W : World} {v : Value} {l : List OpR} (h : OpsAt W v l) : ∃ a cap, v = .slice a l.length cap ∧ l.length ≤ maxLen := by
  obtain ⟨h0, a, cap, rfl, h2, h3, h4⟩ := h
  exact ⟨a, cap, rfl, Nat.le_trans h2 h3⟩

theorem Reads.val {w : World} {v : Value} {g : Nat} {xs : List Value} (h : Reads w v g xs) : ∃ a cap, v = .slice a xs.length cap ∧ xs.length ≤ maxLen := by
  obtain ⟨a, cap, h1, h2, h3, h4⟩ := h
  exact ⟨a, cap, h1, Nat.le_trans h2 h3⟩

set_option maxHeartbeats 1000000 in
theorem few_at {w : World} {v : Value} {l : List OpR} (h : OpsAt w v l) (n : Nat) (_hn : n ≤ 1000) :
    Calls Try.prog 8 #[v, .int .i64 (n : Int)] w fun e w' => e = .returned (.bool (fewB l n)) ∧ w = w' := by
  have H := Lib.hid h
  obtain ⟨a, cap, rfl, hm⟩ := h.val
  unfold maxLen at hm
  clear h
  go_enter Try.func8, Try.ntmps8
  go_wp2
  go_loopg [5] 301 (fun gh i wx => ∃ k : Nat, k + gh = 301 ∧ k ≤ l.length ∧ k ≤ 300 ∧ i = .int .i64 (k : Int) ∧ wx = w ∧ Hid (∀ o ∈ l.take k, o.ks.length ≤ 100))
  case atStart => exact ⟨0, by omega, by omega, by omega, rfl, rfl, by simp [Hid]⟩
  case round =>
    obtain ⟨k, hkg, hk1, hk2, rfl, rfl, HA⟩ := hrel
    by_cases hl : k < l.length
    · have hl' : (k : Int) < (l.length : Int) := by omega
      by_cases h3 : k < 300
      · have h3' : (k : Int) < 300 := by omega
        obtain ⟨g, off, cap', hv, -, -, ho, -, -, -, -, c4⟩ := H.out.get hl
        cases hv
        obtain ⟨ak, ck, hkv, hkm⟩ := ho.reads.val
        rw [u8s_len] at hkv hkm
        rw [hkv] at c4
        clear hkv
        have HT := Lib.hid (List.take_succ_eq_append_getElem hl)
        have HO := Lib.hid ho
        clear ho
        unfold maxLen at hkm
        generalize hz : l[k].ks.length = z at *
        have HZ := Lib.hid hz
        clear hz
        by_cases hz1 : z ≤ 100
        · have d1 : ¬ (100 : Int) < (z : Int) := by omega
          obtain ⟨gk', rfl⟩ : ∃ gk', gk = gk' + 1 := ⟨gk - 1, by omega⟩
          go_wp2
          go_roundg gk'
          case measure => omega
          case rel =>
            refine ⟨k + 1, by omega, by omega, by omega, by go_num, rfl, fun o ho => ?_⟩
            rw [HT.out] at ho
            rcases List.mem_append.1 ho with h1 | h1
            · exact HA.out o h1
            · rw [List.mem_singleton] at h1; subst h1; rw [HZ.out]; exact hz1
        · have d1 : (100 : Int) < (z : Int) := by omega
          have hf : Hid (fewB l n = false) := by
            show fewB l n = false
            simp only [fewB, Bool.and_eq_false_iff, List.all_eq_false, decide_eq_true_eq]
            refine .inl ⟨l[k], ?_, by rw [HZ.out]; omega⟩
            rw [List.mem_take_iff_getElem]
            exact ⟨k, by omega, rfl⟩
          go_wp2
          go_ret
          exact ⟨by rw [hf.out]; rfl, rfl⟩
      · obtain rfl : k = 300 := by omega
        have hf : Hid (fewB l n = decide (l.length ≤ n)) := by
          show fewB l n = _
          have : ((l.take 300).all fun o => decide (o.ks.length ≤ 100)) = true := by simpa using HA.out
          simp only [fewB, this, Bool.true_and]
        go_wp2
        go_ret
        exact ⟨by rw [hf.out]; rfl, rfl⟩
    · obtain rfl : k = l.length := by omega
      have hl' : ¬ (l.length : Int) < (l.length : Int) := by omega
      have hd' : decide ((l.length : Int) < (l.length : Int)) = false := by simp
      have hf : Hid (fewB l n = decide (l.length ≤ n)) := by
        show fewB l n = _
        have h1 := HA.out
        rw [List.take_of_length_le (Nat.le_refl _)] at h1
        have : ((l.take 300).all fun o => decide (o.ks.length ≤ 100)) = true := by
          rw [List.take_of_length_le (by omega)]; simpa using h1
        simp only [fewB, this, Bool.true_and]
      go_wp2
      go_ret
      exact ⟨by rw [hf.out]; rfl, rfl⟩

end Go.Proofs.Ytnjfiaceldkfkaa
