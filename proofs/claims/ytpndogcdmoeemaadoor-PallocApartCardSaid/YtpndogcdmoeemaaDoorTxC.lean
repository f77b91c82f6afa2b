/-
  Layer 4 (tx): Put.
-/
import Derived.Test.YtpndogcdmoeemaaDoorTxB
import Derived.Deep.RegionLaw
import Derived.Deep.AppendLies
namespace Go.Proofs.YtpndogcdmoeemaaDoor
open Go.RowKit

theorem Tryd.info_put : (Tryd.prog.info? 58).map (fun i => (i.zero, i.size, i.bytes)) = some (some (.agg #[.int .i64 0, .int .u64 0]), 2, 16) := by kernel_rfl

def PutPost (w : World) (b gp : Nat) (B : List Int) (ps : List (Int × Int)) (e : Ending) (w' : World) : Prop :=
  e = .returned (.tuple #[]) ∧ ∃ gp', (gp' = gp ∨ (w.heap.size ≤ gp' ∧ gp' < w'.heap.size)) ∧ ShAt w' b gp' B ps ∧ Keeps [b, gp] w w'

/-- The puts behind one more: nothing of no place. -/
def putN (ps : List (Int × Int)) (i x : Int) : List (Int × Int) := if inB i = true then ps ++ [(i, x)] else ps

/-- The two stores of a put, behind the append. -/
theorem put_done {w w1 : World} {b gp gg2 cap2 a_n j : Nat} {B : List Int} {ps : List (Int × Int)} {x was : Int} {vp : Value} {o : Obj} (hb : Blk w b (shCells B (putAll B ps) vp) 53)
    (hg : ∀ k, vp.ownBlock = some k → k = gp) (lb : B.length = 3128) (lx : (putAll B ps).length = 3128) (hj : j < 3128)
    (he : notesN B (ps ++ [((j : Int), x)]) = notesN B ps ++ [((j : Int), was)]) (hpa : putAll B (ps ++ [((j : Int), x)]) = (putAll B ps).set j x) (hin : inP (ps ++ [((j : Int), x)]) 3128)
    (hl : (notesN B (ps ++ [((j : Int), x)])).length = a_n + 1)
    (hown : w1.ownsRow (b + 1) 58 2 (.slice (some ⟨gg2, 0, none⟩) (a_n + 1) cap2) (a_n + 1) (pcells (notesN B ps) ++ [.int .i64 (j : Int), .int .u64 was]))
    (hgrow : (w.alloc o).drew.grownBy w1 vp.ownBlock) (hat : vp.ownBlock = some gg2 ∨ gg2 = w.heap.size + 1) (hne : vp.ownBlock ≠ some b) :
    PutPost w b gp B (ps ++ [((j : Int), x)]) (.returned (.tuple #[])) ((w1.setCell ⟨b, 6256, none⟩ (.slice (some ⟨gg2, 0, none⟩) (a_n + 1) cap2)).setCell ⟨b, 3128 + j, none⟩ (.int .u64 x)) := by
  have hk1 : Keeps [gp] w w1 := ((Keeps.refl [gp] w).alloc o).drew.trans (Keeps.of_grown (l := [gp]) hgrow (by intro k hk; rw [hg k hk]; simp)) (by simp)
  have hb1 : Blk w1 b (shCells B (putAll B ps) vp) 53 := by
    have h1 : Blk (w.alloc o).drew b (shCells B (putAll B ps) vp) 53 := hb.alloc o
    have hlt := h1.lt
    unfold Blk at h1 ⊢
    rw [← h1]
    exact hgrow.block b hlt (fun e => hne e.symm)
  have hbg : b ≠ gg2 := by have := ownsRow_block hown gg2 rfl; omega
  have hk2 : ∀ (u v : Value), Keeps [b] w1 ((w1.setCell ⟨b, 6256, none⟩ u).setCell ⟨b, 3128 + j, none⟩ v) := fun u v => ((Keeps.refl [b] _).setCell (by simp) _).setCell (by simp) _
  refine ⟨rfl, gg2, ?_, ⟨⟨lb, ?_, .slice (some ⟨gg2, 0, none⟩) (a_n + 1) cap2, ?_, ?_, ?_⟩, hin⟩, ?_⟩
  · rcases hat with e | e
    · exact .inl (hg _ e)
    · refine .inr ⟨by omega, ?_⟩
      have := (hown.lt gg2 rfl).2
      simpa [World.setCell] using this
  · rw [hpa, List.length_set]; exact lx
  · have := (hb1.set 6256 (.slice (some ⟨gg2, 0, none⟩) (a_n + 1) cap2)).set (3128 + j) (.int .u64 x)
    rw [shCells_set2 _ lb lx, shCells_set1 _ lb (by omega)] at this
    rw [hpa]
    exact this
  · rw [hl, he, pcells_append]
    exact ownsRow_keep hown (hk2 _ _) (by intro k hk; cases hk; simpa using Ne.symm hbg)
  · intro k hk; cases hk; rfl
  · exact (hk1.mono (by simp)).trans (hk2 _ _) (by simp)

set_option maxHeartbeats 2000000 in
theorem txPut_at {w : World} {b gp : Nat} {B : List Int} {ps : List (Int × Int)} (h : ShAt w b gp B ps) (hn : ps.length ≤ 1000000) (i x : Int) :
    Calls Tryd.prog 22 #[.pointer (some ⟨b, 0, none⟩), .int .i64 i, .int .u64 x] w (PutPost w b gp B (putN ps i x)) := by
  have HI := Lib.hid (txIsPlace_at i w)
  unfold putN
  cases hi : inB i
  · rw [hi] at HI
    rw [if_neg (by simp)]
    have HM : Hid (PutPost w b gp B ps (.returned (.tuple #[])) w) := ⟨rfl, gp, .inl rfl, h, Keeps.refl _ _⟩
    clear hi h
    go_enter Tryd.func22, Tryd.ntmps22
    go_wp2_with (go_at_call 25; refine HI.out.mono ?_; rintro e w' ⟨rfl, rfl⟩)
    go_end0
    exact HM.out
  · rw [hi] at HI
    rw [if_pos rfl]
    obtain ⟨h0, h1⟩ := inB_iff.1 hi
    clear hi
    obtain ⟨j, rfl⟩ := Int.eq_ofNat_of_zero_le h0
    obtain ⟨⟨lb, lx, vp, hb, hr, hg⟩, inp⟩ := h
    obtain ⟨i0, hi, hz0, hz1, hz2⟩ := info_parts Tryd.info_put
    have hj : j < 3128 := by omega
    have c1 : w.cell? ⟨b, 6256, none⟩ = some vp := by rw [hb.cell, shCells_2 _ lb lx]
    have c2 : w.cell? ⟨b, 3128 + j, none⟩ = some (.int .u64 ((putAll B ps).getD j 0)) := by rw [hb.cell, shCells_1 _ lb (by omega)]
    have f1 : w.frozen? ⟨b, 6256, none⟩ = false := hb.frozen _
    have f2 : w.frozen? ⟨b, 3128 + j, none⟩ = false := hb.frozen _
    have F1 : ∀ o, (w.alloc o).drew.frozen? ⟨b, 6256, none⟩ = false := fun o => (hb.alloc o).frozen _
    have F2 : ∀ o, (w.alloc o).drew.frozen? ⟨b, 3128 + j, none⟩ = false := fun o => (hb.alloc o).frozen _
    have hbl := hb.lt
    have E2 : ∀ o, (w.alloc o).drew.cell? ⟨b, 3128 + j, none⟩ = some (.int .u64 ((putAll B ps).getD j 0)) := fun o => by rw [← c2]; exact World.cell?_of_block (w := w) (Below.heap_alloc _ _ _ hb.lt)
    have n1 : ¬ 3128 + j = 6256 := by omega
    have E1 : ∀ o, (w.alloc o).drew.cell? ⟨b, 6256, none⟩ = some vp := fun o => by rw [← c1]; exact World.cell?_of_block (w := w) (Below.heap_alloc _ _ _ hb.lt)
    have hne : vp.ownBlock ≠ some b := fun e => by have := ownsRow_block hr b e; omega
    obtain ⟨a, cap, hv, q1, q2⟩ := ownsRow_val hr
    rw [notesN_len] at hr hv q1
    have HE := Lib.hid (notesN_snoc B ps (j : Int) x)
    have HPA : Hid (putAll B (ps ++ [((j : Int), x)]) = (putAll B ps).set j x) := by show putAll B _ = _; rw [putAll_append]; rfl
    have HIN : Hid (inP (ps ++ [((j : Int), x)]) 3128) := inP_append inp (inP_one h0 h1)
    have HL : Hid ((notesN B (ps ++ [((j : Int), x)])).length = ps.length + 1) := by show List.length _ = _; rw [notesN_len]; simp
    rw [Int.toNat_natCast] at HE
    subst hv
    have HB := Lib.hid hb
    have HR := Lib.hid hr
    have HG := Lib.hid hg
    have LB := Lib.hid lb
    have LX := Lib.hid lx
    clear hb hr hg lb lx inp
    generalize (putAll B ps).getD j 0 = was at *
    generalize hps : ps.length = n at *
    have HPS := Lib.hid hps
    clear hps
    unfold maxLen at q2
    go_enter Tryd.func22, Tryd.ntmps22
    go_wp2_with fail
    refine HI.out.mono ?_; rintro e w' ⟨rfl, rfl⟩
    go_wp2_with fail
    go_region_law ((refine step_append_lies _ (by rfl) _ _ _ (by rfl) (b + 1) 58 i0 _ 2 16 Tryd.underlying51 hi hz0 hz1 hz2 rfl (by omega) (.slice a n cap) n _ (by rfl) ((HR.out.alloc _).drew) ⟨w.heap.size, 0, none⟩ 1 1 [.int .i64 (j : Int), .int .u64 was] (by rfl) (by rfl) (new_cells w [_, _] _ _ rfl) (by simp [Value.oneCell']) (by omega) (by unfold maxLen; omega) (by omega) (by simp; omega) (w.heap.size + 1) (by simp) ?_; intro gg2 cap2 w1 hown1 hgrow hat hlt; have hc1 := (hgrow.cell_far ⟨b, 6256, none⟩ (by simp; omega) (Ne.symm hne)).trans (E1 _); have hf1 := (hgrow.frozen_far ⟨b, 6256, none⟩ (by simp; omega) (Ne.symm hne)).trans (F1 _); have hc2 := (hgrow.cell_far ⟨b, 3128 + j, none⟩ (by simp; omega) (Ne.symm hne)).trans (E2 _); have hf2 := (hgrow.frozen_far ⟨b, 3128 + j, none⟩ (by simp; omega) (Ne.symm hne)).trans (F2 _)))
    all_goals
      have HM := Lib.hid (put_done HB.out HG.out LB.out LX.out hj HE.out HPA.out HIN.out HL.out hown1 hgrow hat hne)
      clear hown1 hgrow hat hlt hc1
      go_wp2_with fail
      go_end0
      exact HM.out

end Go.Proofs.YtpndogcdmoeemaaDoor
