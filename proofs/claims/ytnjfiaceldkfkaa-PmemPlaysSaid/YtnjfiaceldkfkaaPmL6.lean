/-
  Layer 1: what Do answers beside the memory's own call; what the law PmemPlays carries.
-/
import Derived.Test.YtnjfiaceldkfkaaPmL5
namespace Go.Proofs.Ytnjfiaceldkfkaa
open Go.RowKit

/-- A call of the memory: what it leaves, the word, the error. -/
def PmS.doS (s : PmS) (o : OpR) : PmS :=
  if o.kind % 6 = 0 then s.store o.i o.w else if o.kind % 6 = 1 then s else if o.kind % 6 = 2 then s.flush o.i else if o.kind % 6 = 3 then s.fence else if o.kind % 6 = 4 then s.fuse o.n else s.crash o.ks
def PmS.doX (s : PmS) (o : OpR) : Int := if o.kind % 6 = 1 then s.load o.i else 0
def PmS.doE (s : PmS) (o : OpR) : Int := if o.kind % 6 < 3 then s.refusal o.i else if o.kind % 6 = 3 then s.fenceE else 0

def DidToo (w : World) (b gn gl gf : Nat) (s : PmS) (o : OpR) (en : Ending) (w' : World) : Prop :=
  ∃ r', en = .returned (.tuple #[.int .u64 (s.doX o), .int .i64 (s.doE o)]) ∧ RefAt w' b gn gl gf r' ∧ Rel (s.doS o) r' ∧ Keeps [b, gn, gl, gf] w w'

theorem Did.too {w : World} {b gn gl gf : Nat} {r : RefS} {s : PmS} {o : OpR} {x e : Int} {en : Ending} {w' : World} (h : Did w b gn gl gf r x e en w') (hx : x = s.doX o) (he : e = s.doE o) (hr : Rel (s.doS o) r) : DidToo w b gn gl gf s o en w' := by
  subst hx he
  exact ⟨r, h.1, h.2.1, hr, h.2.2⟩

theorem refDo_at {w : World} {b gn gl gf : Nat} {s : PmS} {r : RefS} (h : RefAt w b gn gl gf r) (hrel : Rel s r) (hfit : s.fit) (hll : s.last.length = s.now.length) (hfll : s.fl.length = (s.now.length + 7) / 8 * 8) {o : OpR} (ho : OpOk w o) (hgd : o.ks ≠ [] → o.kg ∉ [b, gn, gl, gf]) :
    Calls Try.prog 19 #[.pointer (some ⟨b, 0, none⟩), opAgg o] w (DidToo w b gn gl gf s o) := by
  obtain ⟨k0, k1⟩ := ho.kind
  have hrf : r.fit := by
    have h1 := hrel.deeds
    have h2 := hrel.fuse
    have h3 := hrel.left
    have h4 := hrel.max
    obtain ⟨h5, h6, h7, h8⟩ := hfit
    refine ⟨by omega, by omega, ?_, ?_⟩
    · rw [h2]; split <;> omega
    · rw [h2]; split <;> omega
  have hlen : r.now.length = s.now.length := by rw [hrel.now]
  by_cases hlost : o.kind % 6 < 4 ∧ r.fuse = 0
  · obtain ⟨q1, q2⟩ := hlost
    have hg := hrel.gone.2 q2
    refine (refDo_lost h q1 k0 q2).mono fun e w' hd => hd.too ?_ ?_ ?_
    · rw [PmS.doX]
      split
      · rw [PmS.load, if_neg (by rw [PmS.refusal, if_pos hg]; omega)]
      · rfl
    · rw [PmS.doE]
      split
      · rw [PmS.refusal, if_pos hg]
      · rw [if_pos (by omega), PmS.fenceE, if_pos hg]
    · have e1 : s.doS o = s := by
        rw [PmS.doS]
        have hr9 : s.refusal o.i = 9 := by rw [PmS.refusal, if_pos hg]
        split
        · rw [PmS.store, if_neg (by omega)]
        · split
          · rfl
          · split
            · rw [PmS.flush, if_neg (by omega)]
            · rw [if_pos (by omega), PmS.fence, if_pos hg]
      rw [e1]; exact hrel
  · by_cases hk3 : o.kind % 6 < 3
    · have hfz : r.fuse ≠ 0 := fun e => hlost ⟨by omega, e⟩
      have hg : s.gone = false := by
        cases hg : s.gone with
        | false => rfl
        | true => exact absurd (hrel.gone.1 hg) hfz
      by_cases harg : o.i < 0 ∨ (r.now.length : Int) ≤ o.i
      · have hr1 : s.refusal o.i = 1 := by rw [PmS.refusal, if_neg (by simp [hg]), if_pos (by omega)]
        refine (refDo_arg h hk3 k0 hfz harg).mono fun e w' hd => hd.too ?_ ?_ ?_
        · rw [PmS.doX]
          split
          · rw [PmS.load, if_neg (by omega)]
          · rfl
        · rw [PmS.doE, if_pos hk3, hr1]
        · have e1 : s.doS o = s := by
            rw [PmS.doS]
            split
            · rw [PmS.store, if_neg (by omega)]
            · split
              · rfl
              · rw [if_pos (by omega), PmS.flush, if_neg (by omega)]
          rw [e1]; exact hrel
      · obtain ⟨i, hi⟩ := Int.eq_ofNat_of_zero_le (show 0 ≤ o.i by omega)
        have hi2 : i < r.now.length := by omega
        have hr0 : s.refusal o.i = 0 := by rw [PmS.refusal, if_neg (by simp [hg]), if_neg (by omega)]
        have hr0' : s.refusal (i : Int) = 0 := by rw [← hi]; exact hr0
        rcases (show o.kind % 6 = 0 ∨ o.kind % 6 = 1 ∨ o.kind % 6 = 2 by omega) with hk | hk | hk
        · refine (refDo_store h hrf hk k0 hfz hi hi2).mono fun e w' hd => hd.too ?_ ?_ ?_
          · rw [PmS.doX, if_neg (by omega)]
          · rw [PmS.doE, if_pos hk3, hr0]
          · rw [PmS.doS, if_pos hk, hi]; exact hrel.store i o.w hr0'
        · refine (refDo_load h hk k0 hfz hi hi2).mono fun e w' hd => hd.too ?_ ?_ ?_
          · rw [PmS.doX, if_pos hk, PmS.load, if_pos hr0, hi, Int.toNat_natCast, hrel.now]
          · rw [PmS.doE, if_pos hk3, hr0]
          · rw [PmS.doS, if_neg (by omega), if_pos hk]; exact hrel
        · refine (refDo_flush h hrf hk k0 hfz hi hi2).mono fun e w' hd => hd.too ?_ ?_ ?_
          · rw [PmS.doX, if_neg (by omega)]
          · rw [PmS.doE, if_pos hk3, hr0]
          · rw [PmS.doS, if_neg (by omega), if_neg (by omega), if_pos hk, hi]; exact hrel.flush i hr0'
    · rcases (show o.kind % 6 = 3 ∨ o.kind % 6 = 4 ∨ o.kind % 6 = 5 by omega) with hk | hk | hk
      · have hfz : r.fuse ≠ 0 := fun e => hlost ⟨by omega, e⟩
        have hg : s.gone = false := by
          cases hg : s.gone with
          | false => rfl
          | true => exact absurd (hrel.gone.1 hg) hfz
        refine (refDo_fence h hrf hk k0 hfz).mono fun e w' hd => hd.too ?_ ?_ ?_
        · rw [PmS.doX, if_neg (by omega)]
        · rw [PmS.doE, if_neg hk3, if_pos hk, PmS.fenceE, if_neg (by simp [hg])]
        · rw [PmS.doS, if_neg (by omega), if_neg (by omega), if_neg (by omega), if_pos hk]; exact hrel.fence hg hll hfll
      · refine (refDo_fuse h hk k0).mono fun e w' hd => hd.too ?_ ?_ ?_
        · rw [PmS.doX, if_neg (by omega)]
        · rw [PmS.doE, if_neg hk3, if_neg (by omega)]
        · rw [PmS.doS, if_neg (by omega), if_neg (by omega), if_neg (by omega), if_neg (by omega), if_pos hk]; exact hrel.fuse' o.n ho.n.2
      · refine (refDo_crash h hk k0 ho.reads ho.bytes hgd).mono fun e w' hd => hd.too ?_ ?_ ?_
        · rw [PmS.doX, if_neg (by omega)]
        · rw [PmS.doE, if_neg hk3, if_neg (by omega)]
        · rw [PmS.doS, if_neg (by omega), if_neg (by omega), if_neg (by omega), if_neg (by omega), if_neg (by omega)]; exact hrel.crash o.ks hll hfll

/-- The deeds of a call, and its words. -/
theorem PmS.do_facts (s : PmS) (o : OpR) (hl : s.last.length = s.now.length) : (s.doS o).now.length = s.now.length ∧ s.deeds ≤ (s.doS o).deeds ∧ (s.doS o).deeds ≤ s.deeds + 1 := by
  rw [PmS.doS]
  split
  · rw [PmS.store]; split <;> simp [PmS.count] <;> omega
  · split
    · omega
    · split
      · rw [PmS.flush]; split <;> simp [PmS.count] <;> omega
      · split
        · rw [PmS.fence]; split <;> simp [PmS.count] <;> omega
        · split
          · rw [PmS.fuse]; split <;> simp <;> omega
          · refine ⟨?_, ?_, ?_⟩
            · show (crashM o.ks s.now s.last 0).length = _
              rw [crashM_len _ _ _ _ hl.symm]
            · show s.deeds ≤ s.deeds; omega
            · show s.deeds ≤ s.deeds + 1; omega

/-- What the law's loop carries. -/
structure PInv (w wx : World) (b gn gl gf c hn hl hf : Nat) (s : PmS) (r : RefS) (n m : Nat) : Prop where
  pm : PmAt wx b gn gl gf s
  ref : RefAt wx c hn hl hf r
  rel : Rel s r
  len : s.now.length = n
  deeds : 0 ≤ s.deeds ∧ s.deeds ≤ m
  lo1 : ∀ x, x ∈ [b, gn, gl, gf] → w.heap.size ≤ x
  lo2 : ∀ x, x ∈ [c, hn, hl, hf] → w.heap.size ≤ x
  apart : ∀ x, x ∈ [b, gn, gl, gf] → x ∉ [c, hn, hl, hf]
  kept : Keeps [] w wx
  up1 : ∀ x, x ∈ [b, gn, gl, gf] → x < wx.heap.size
  up2 : ∀ x, x ∈ [c, hn, hl, hf] → x < wx.heap.size

theorem PInv.fit {w wx : World} {b gn gl gf c hn hl hf : Nat} {s : PmS} {r : RefS} {n m : Nat} (h : PInv w wx b gn gl gf c hn hl hf s r n m) (hm : m ≤ 10000) : s.fit := by
  have := h.deeds
  have := h.rel.left
  have := h.rel.max
  exact ⟨by omega, by omega, by omega, by omega⟩

/-- The memory's call leaves the reference, and the other way round. -/
theorem RefAt.keepPm {w w' : World} {b gn gl gf c hn hl hf : Nat} {r : RefS} (h : RefAt w c hn hl hf r) (hk : Keeps [b, gn, gl, gf] w w') (hap : ∀ x, x ∈ [b, gn, gl, gf] → x ∉ [c, hn, hl, hf]) : RefAt w' c hn hl hf r :=
  h.keep hk (fun e => hap _ e (by simp)) (fun _ => ⟨fun e => hap _ e (by simp), fun e => hap _ e (by simp), fun e => hap _ e (by simp)⟩)
theorem PmAt.keepRef {w w' : World} {b gn gl gf c hn hl hf : Nat} {s : PmS} (h : PmAt w b gn gl gf s) (hk : Keeps [c, hn, hl, hf] w w') (hap : ∀ x, x ∈ [b, gn, gl, gf] → x ∉ [c, hn, hl, hf]) : PmAt w' b gn gl gf s :=
  h.keep hk (hap _ (by simp)) (fun _ => ⟨hap _ (by simp), hap _ (by simp), hap _ (by simp)⟩)

theorem PInv.next {w w1 w2 w3 w4 : World} {b gn gl gf c hn hl hf : Nat} {s s' : PmS} {r r' : RefS} {n m : Nat} (h : PInv w w1 b gn gl gf c hn hl hf s r n m) (hk2 : Keeps [] w1 w2) (hp3 : PmAt w3 b gn gl gf s') (hk3 : Keeps [b, gn, gl, gf] w2 w3)
    (hr4 : RefAt w4 c hn hl hf r') (hrel : Rel s' r') (hk4 : Keeps [c, hn, hl, hf] w3 w4) (hd : s'.now.length = s.now.length ∧ s.deeds ≤ s'.deeds ∧ s'.deeds ≤ s.deeds + 1) (q : Nat) : PInv w (w4.drewN q) b gn gl gf c hn hl hf s' r' n (m + 1) := by
  obtain ⟨h1, h2, h3, h4, h5, h6, h7, h8, h9, h10, h11⟩ := h
  have z2 := hk2.size
  have z3 := hk3.size
  have z4 := hk4.size
  refine ⟨(hp3.keepRef hk4 h8).drewN q, hr4.drewN q, hrel, by omega, by omega, h6, h7, h8, ((((h9.trans hk2 (by simp)).trans hk3 fun x hx => .inr (h6 x hx)).trans hk4 fun x hx => .inr (h7 x hx)).drewN q), fun x hx => ?_, fun x hx => ?_⟩
  · have := h10 x hx
    show x < w4.heap.size
    omega
  · have := h11 x hx
    show x < w4.heap.size
    omega

/-- Everything that stands behind the memory's own call of a round. -/
structure Half (w wr w2 w3 : World) (b gn gl gf c hn hl hf : Nat) (s : PmS) (o : OpR) : Prop where
  pm : PmAt w3 b gn gl gf (s.doS o)
  kept : Keeps [b, gn, gl, gf] w2 w3
  op : OpBlk w3 wr.heap.size o
  call : Calls Try.prog 19 #[.pointer (some ⟨c, 0, none⟩), opAgg o] w3 (DidToo w3 c hn hl hf s o)

theorem half_of {w wr w2 w3 : World} {b gn gl gf c hn hl hf : Nat} {s : PmS} {r : RefS} {n m : Nat} (h : PInv w wr b gn gl gf c hn hl hf s r n m) (hm : m ≤ 10000) {o : OpR} (ho : OpOk w o) (hk2 : Keeps [] wr w2) (hb2 : OpBlk w2 wr.heap.size o)
    (hp3 : PmAt w3 b gn gl gf (s.doS o)) (hk3 : Keeps [b, gn, gl, gf] w2 w3) : Half w wr w2 w3 b gn gl gf c hn hl hf s o := by
  have hkw : Keeps [b, gn, gl, gf] w w3 := ((h.kept.trans hk2 (by simp)).mono (l' := [b, gn, gl, gf]) (by simp)).trans' hk3
  have hlt : ∀ x, x ∈ [b, gn, gl, gf] → wr.heap.size ≠ x := fun x hx e => by have := h.up1 x hx; omega
  have hg : o.ks ≠ [] → o.kg < w.heap.size := fun hne => by
    obtain ⟨_, _, _, _, _, h2⟩ := ho.reads
    exact (h2 (by intro e; exact hne (by cases hks : o.ks with | nil => rfl | cons a t => rw [hks] at e; simp [u8s] at e))).1
  have hg1 : o.ks ≠ [] → o.kg ∉ [b, gn, gl, gf] := fun hne e => by have := hg hne; have := h.lo1 _ e; omega
  have hg2 : o.ks ≠ [] → o.kg ∉ [c, hn, hl, hf] := fun hne e => by have := hg hne; have := h.lo2 _ e; omega
  refine ⟨hp3, hk3, ?_, ?_⟩
  · refine Blk.keep hb2 hk3 fun e => hlt _ e rfl
  · have hr3 : RefAt w3 c hn hl hf r := (h.ref.keep hk2 (by simp) (by simp)).keepPm hk3 h.apart
    by_cases hks : o.ks = []
    · have ho3 : OpOk w3 { o with kg := b + gn + gl + gf + 1 } := ⟨ho.kind, ho.i, ho.n, ho.w, (ho.reads.anyG (by rw [hks]; rfl) _).keep hkw (by simp; omega), ho.bytes⟩
      exact refDo_at (o := { o with kg := b + gn + gl + gf + 1 }) hr3 h.rel (h.fit hm) h.pm.ll h.pm.fll ho3 (fun hne => absurd hks hne)
    · exact refDo_at hr3 h.rel (h.fit hm) h.pm.ll h.pm.fll ⟨ho.kind, ho.i, ho.n, ho.w, ho.reads.keep hkw (hg1 hks), ho.bytes⟩ hg2

end Go.Proofs.Ytnjfiaceldkfkaa
