/-
  Layer 4: the law TxPlays: a list of pairs is grown by one, in whatever order; what holds between calls.
-/
import Derived.Test.YtgbmjahjgmcdjaaTxL2
import Derived.Test.YtgbmjahjgmcdjaaTxO
namespace Go.Proofs.Ytgbmjahjgmcdjaa
open Go.RowKit

theorem PReads.cut {w : World} {a : Option Addr} {n cap g : Nat} {ps : List (Int × Int)} (h : PReads w (.slice a n cap) g ps) (m : Nat) (hm : m ≤ ps.length) : PReads w (.slice a m cap) g (ps.take m) := by
  obtain ⟨a', cap', hv, h2, h3, h4⟩ := h
  cases hv
  have hl : (ps.take m).length = m := by rw [List.length_take, Nat.min_eq_left hm]
  refine ⟨a, cap, by rw [hl], by rw [hl]; omega, h3, fun h0 => ?_⟩
  rw [hl] at h0
  obtain ⟨hlt, off, h5, h6⟩ := h4 (by omega)
  refine ⟨hlt, off, h5, fun j hj => ?_⟩
  rw [hl] at hj
  have := h6 j (by omega)
  rw [patN_take hj]
  rw [show pwdN (ps.take m) j = pwdN ps j by simp [pwdN, List.getD_eq_getElem?_getD, hj]]
  exact this

theorem preads_one {w : World} {B T : Nat} {a x : Int} (hb : Blk w B #[.int .i64 a, .int .u64 x] T) : PReads w (.slice (some ⟨B, 0, none⟩) 1 1) B [(a, x)] := by
  refine ⟨_, 1, rfl, by simp, by simp [maxLen], fun _ => ⟨hb.lt, 0, rfl, fun j hj => ?_⟩⟩
  obtain rfl : j = 0 := by simpa using hj
  rw [hb.cell, hb.cell]
  exact ⟨rfl, rfl⟩

theorem Blk.grown {w w' : World} {row : Option Nat} {b T : Nat} {c : Array Value} (h : Blk w b c T) (hg : w.grownBy w' row) (hne : some b ≠ row) : Blk w' b c T := (hg.block b h.lt hne).trans h

/-- append of a list of pairs, whatever it is, onto a row of its own. -/
theorem run_append_pairs {P : Program} {w : World} (t T : TypeId) (i : TypeInfo) (ht : P.underlying t = some (.slice T)) (hi : P.info? T = some i) (hz : i.zero = some (.agg #[.int .i64 0, .int .u64 0])) (hsz : i.size = 2) (hby : i.bytes = 16)
    (base n : Nat) (v : Value) (xs : List Value) (hown : w.ownsRow base T 2 v n xs) (u : Value) (g : Nat) (ps : List (Int × Int)) (hp : PReads w u g ps) (hlen : n + ps.length ≤ 1000000) (hbase : base ≤ w.heap.size) (ty : TypeId) :
    ∃ v' w', (Builtin.append_ #[t, t] ty #[v, u]).run P w = .ok v' w' ∧ w'.ownsRow base T 2 v' (n + ps.length) (xs ++ pcells ps) ∧ w.grownBy w' v.ownBlock := by
  obtain ⟨a, cap, rfl, h1, h2, h3⟩ := hp
  cases a with
  | none =>
    have h0 : ps = [] := by
      cases ps with
      | nil => rfl
      | cons p ps => obtain ⟨-, off, e, -⟩ := h3 (by simp); cases e
    subst h0
    refine ⟨v, w, ?_, by simpa [pcells] using hown, ⟨rfl, rfl, rfl, Nat.le_refl _, fun _ _ _ => rfl⟩⟩
    obtain ⟨-, h5⟩ := hown
    rcases h5 with ⟨rfl, rfl⟩ | ⟨g', cap', cur, rfl, hg, hh, q2, q3, q4, q5⟩
    · simp [Builtin.append_, run_underlying ht, sizeOf, typeInfo, hi, Builtin.lenOf, Builtin.firstCells]
    · simp [Builtin.append_, run_underlying ht, sizeOf, typeInfo, hi, Builtin.lenOf, Builtin.firstCells, q2, storeCells]
  | some ad =>
    have hcell : ∀ j u, (pcells ps)[j]? = some u → w.cell? (ad.add j) = some u := by
      intro j u hu
      have hj : j < (pcells ps).length := (List.getElem?_eq_some_iff.1 hu).1
      rw [pcells_len] at hj
      obtain ⟨-, off, e, hc⟩ := h3 (by omega)
      cases e
      rw [add_plain]
      have h6 := pcells_get ps (j / 2) (by omega)
      have h7 := hc (j / 2) (by omega)
      rcases (show j % 2 = 0 ∨ j % 2 = 1 by omega) with hm | hm
      · rw [show j / 2 * 2 = j by omega] at h6 h7
        rw [h7.1, ← h6.1, hu]
      · rw [show off + j / 2 * 2 + 1 = off + j by omega] at h7
        rw [show j / 2 * 2 + 1 = j by omega] at h6
        rw [h7.2, ← h6.2, hu]
    obtain ⟨v', w', hr, ho, hg, -⟩ := run_append_own (P := P) w base t ty T i (.agg #[.int .i64 0, .int .u64 0]) 2 16 ht hi hz hsz hby rfl (by omega) v n xs hown ad ps.length cap (pcells ps) (pcells_len ps) hcell (pcells_one ps) (by unfold maxLen; omega) (by omega) hbase
    exact ⟨v', w', hr, ho, hg⟩

section
variable {P : Program} {w : World} {ops : Array Oper} {o : Oper} {a : Act} {K : Act → World → Prop} {Q : Exit → Act → World → Prop} {E : Prop}

theorem step_append_pairs (hgd : o.guard = none) (s x : Operand) (t T : TypeId) (ho : o.op = .call { callee := .builtin .append, args := #[s, x], argTypes := #[t, t] })
    (i : TypeInfo) (ht : P.underlying t = some (.slice T)) (hi : P.info? T = some i) (hz : i.zero = some (.agg #[.int .i64 0, .int .u64 0])) (hsz : i.size = 2) (hby : i.bytes = 16)
    (base n : Nat) (v : Value) (xs : List Value) (hs : a.eval s = v) (u : Value) (hx : a.eval x = u) (g : Nat) (ps : List (Int × Int)) (hlen : n + ps.length ≤ 1000000)
    (hown : w.ownsRow base T 2 v n xs) (hp : PReads w u g ps) (hbase : base ≤ w.heap.size)
    (h : ∀ v' w', w'.ownsRow base T 2 v' (n + ps.length) (xs ++ pcells ps) → w.grownBy w' v.ownBlock → K (a.put o.dst v') w') : if Region.wanted o (yielded ops a.tmps) = true then Oper.wp P o a w K Q else E := by
  have hw : Region.wanted o (yielded ops a.tmps) = true := by simp [Region.wanted, hgd]
  rw [if_pos hw]
  obtain ⟨v', w', hr, h1, h2⟩ := run_append_pairs (P := P) t T i ht hi hz hsz hby base n v xs hown u g ps hp hlen hbase o.type
  unfold Oper.wp
  simp only [execOp, ho, resolve, invoke, builtin, Sem.run_bind, Sem.run_pure, Result.andThen_ok, List.map_toArray, List.map_cons, List.map_nil, hs, hx, hr]
  exact h v' w' h1 h2
end

/-- What holds between two calls of the law. -/
structure TInv (w wx : World) (b gp gq : Nat) (ws : List Int) (ps : List (Int × Int)) (vq : Value) (j : Nat) : Prop where
  sh : ShAt wx b gp (padW ws) ps
  pr : PReads wx vq gq ps
  kp : Keeps [] w wx
  lo : w.heap.size ≤ b ∧ w.heap.size ≤ gp ∧ gp < wx.heap.size
  ap : ps.length ≠ 0 → gq ≠ b ∧ gq ≠ gp
  n : ps.length ≤ j

theorem TInv.keep {w wx wy : World} {b gp gq : Nat} {ws : List Int} {ps : List (Int × Int)} {vq : Value} {j : Nat} (h : TInv w wx b gp gq ws ps vq j) (hk : Keeps [] wx wy) : TInv w wy b gp gq ws ps vq j :=
  ⟨h.sh.keep hk (by simp) (by simp), h.pr.keep hk (by simp), h.kp.trans hk (by simp), ⟨h.lo.1, h.lo.2.1, Nat.lt_of_lt_of_le h.lo.2.2 hk.size⟩, h.ap, h.n⟩

theorem TInv.succ {w wx : World} {b gp gq : Nat} {ws : List Int} {ps : List (Int × Int)} {vq : Value} {j : Nat} (h : TInv w wx b gp gq ws ps vq j) : TInv w wx b gp gq ws ps vq (j + 1) :=
  ⟨h.sh, h.pr, h.kp, h.lo, h.ap, Nat.le_succ_of_le h.n⟩

/-- Behind Back. -/
theorem TInv.back {w wx wy : World} {b gp gq : Nat} {ws : List Int} {ps : List (Int × Int)} {a : Option Addr} {n cap : Nat} {j m : Nat} (h : TInv w wx b gp gq ws ps (.slice a n cap) j) (hm : m ≤ ps.length) (hs : ShAt wy b gp (padW ws) (ps.take m)) (hk : Keeps [b] wx wy) :
    TInv w wy b gp gq ws (ps.take m) (.slice a m cap) (j + 1) := by
  have hl : (ps.take m).length = m := by rw [List.length_take, Nat.min_eq_left hm]
  refine ⟨hs, (h.pr.keep hk fun h0 => by simpa using (h.ap h0).1).cut m hm, h.kp.trans hk fun x hx => ?_, ⟨h.lo.1, h.lo.2.1, Nat.lt_of_lt_of_le h.lo.2.2 hk.size⟩, fun h0 => h.ap (by omega), by have := h.n; omega⟩
  rw [List.mem_singleton] at hx
  subst hx
  exact .inr h.lo.1

/-- Behind Put: the list is as it was. -/
theorem TInv.put {w wx wy : World} {b gp gp' gq : Nat} {ws : List Int} {ps qs : List (Int × Int)} {vq : Value} {j : Nat} (h : TInv w wx b gp gq ws ps vq j) (hg : gp' = gp ∨ (wx.heap.size ≤ gp' ∧ gp' < wy.heap.size)) (hs : ShAt wy b gp' (padW ws) qs) (hk : Keeps [b, gp] wx wy) :
    PReads wy vq gq ps ∧ Keeps [] w wy ∧ (w.heap.size ≤ b ∧ w.heap.size ≤ gp' ∧ gp' < wy.heap.size) ∧ b < wy.heap.size ∧ (ps.length ≠ 0 → gq ≠ b ∧ gq ≠ gp') := by
  have hz := hk.size
  have hz0 := h.kp.size
  obtain ⟨l1, l2, l3⟩ := h.lo
  refine ⟨h.pr.keep hk fun h0 => by simpa using h.ap h0, h.kp.trans hk fun x hx => ?_, ?_, hs.raw.lt, fun h0 => ⟨(h.ap h0).1, ?_⟩⟩
  · simp only [List.mem_cons, List.not_mem_nil, or_false] at hx
    omega
  · omega
  · have h1 := (h.ap h0).2
    obtain ⟨a, cap, -, -, -, h3⟩ := h.pr
    have := (h3 h0).1
    omega

/-- Behind Put: the list is grown. -/
theorem TInv.grown {w w3 w10 : World} {b gp T : Nat} {ws : List Int} {ps : List (Int × Int)} {q x : Int} {v : Value} {j : Nat} (hs : ShAt w3 b gp (padW ws) (ps ++ [(q, x)])) (hk : Keeps [] w w3) (lo : w.heap.size ≤ b ∧ w.heap.size ≤ gp ∧ gp < w3.heap.size) (hb : b < w3.heap.size)
    (hk10 : Keeps [] w3 w10) (ho : w10.ownsRow w3.heap.size T 2 v (0 + ps.length + [(q, x)].length) (([] ++ pcells ps) ++ pcells [(q, x)])) (hn : ps.length ≤ j) : ∃ gq, TInv w w10 b gp gq ws (ps ++ [(q, x)]) v (j + 1) := by
  obtain ⟨g, hw, hg⟩ := Owns.of_row ho
  have hgb := (hg (by simp)).1
  rw [List.nil_append, ← pcells_append] at hw
  refine ⟨g, hs.keep hk10 (by simp) (by simp), hw.preads' (by simp), hk.trans hk10 (by simp), ⟨lo.1, lo.2.1, Nat.lt_of_lt_of_le lo.2.2 hk10.size⟩, fun _ => ⟨by omega, by omega⟩, by simp; omega⟩

end Go.Proofs.Ytgbmjahjgmcdjaa
