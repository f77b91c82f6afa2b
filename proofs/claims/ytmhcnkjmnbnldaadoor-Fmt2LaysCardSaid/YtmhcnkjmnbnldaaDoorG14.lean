/-
  Layer 7 (fmt2): Read. Layer 7 (fmt2), plain: what is laid is read again. Layer 7, the laws' awake. Layer 7 (fmt2): Read, the walk. Layer 6, the reference: Few. Layer 6: the law's sames, where both are one list; the reference's list of what is free. Layer 6, the reference: Right.
-/
import Derived.Test.YtmhcnkjmnbnldaaDoorG08
import Derived.Test.YtmhcnkjmnbnldaaDoorG13
import Derived.Test.YtmhcnkjmnbnldaaDoorG09
import Derived.Test.YtmhcnkjmnbnldaaDoorG11
import Derived.Test.YtmhcnkjmnbnldaaDoorG12
import Derived.Test.YtmhcnkjmnbnldaaDoorG02
import Derived.Test.YtmhcnkjmnbnldaaDoorG05
import Derived.Test.YtmhcnkjmnbnldaaDoorG06
import Derived.Test.YtmhcnkjmnbnldaaDoorG10
import Derived.Test.YtmhcnkjmnbnldaaDoorG03
import Derived.BigQuiet
namespace Go.Proofs.YtmhcnkjmnbnldaaDoor
open Go.RowKit

/-- There is an inode, with such own blocks. -/
def ReadP (X : List Int) (i : Int) (n : Ino) (own : List Nat) : Prop :=
  (0 ≤ i ∧ i < 32) ∧ SeemsP X (inoAtX X i) n own ∧ n.F = 2 ∧ RightP n ∧ own.length = needF n ∧ IsLaidP X (inoAtX X i) n own

/-- What Read leaves. -/
def Read2Post (w : World) (X : List Int) (i : Int) (e : Ending) (w' : World) : Prop :=
  ∃ n v g own vo go ok, e = .returned (.tuple #[.agg (inoC n v), vo, .bool ok]) ∧ n.B.length = 13 ∧ EReads w' v g n.E ∧ w.heap.size ≤ g ∧ Reads w' vo go (i64s own) ∧ w.heap.size ≤ go ∧ Keeps [] w w' ∧
    (ok = true → ReadP X i n own ∧ own.length ≤ 24 ∧ (∀ c, c ∈ own → 0 < c ∧ c < 256) ∧ n.E.length ≤ 72 ∧ ∀ k, k < n.E.length → (enm n.E k).size ≤ 7) ∧ (ok = false → n = inoZ ∧ own = [] ∧ ∀ n' own', ¬ ReadP X i n' own')

theorem SeemsP.inj {X L : List Int} {n n' : Ino} {own own' : List Nat} (h : SeemsP X L n own) (h' : SeemsP X L n' own') : own' = own ∧ (n = n' ∨ (tagN L).K = 2) := by
  rcases h with ⟨h1, l, h2, rfl⟩ | ⟨h1, E, E', h2, -⟩
  · rcases h' with ⟨g1, l', g2, rfl⟩ | ⟨g1, -⟩
    · obtain ⟨rfl, rfl⟩ := h2.inj g2
      exact ⟨rfl, .inl rfl⟩
    · omega
  · rcases h' with ⟨g1, -⟩ | ⟨g1, F, F', g2, -⟩
    · omega
    · rw [h2] at g2
      cases g2
      exact ⟨rfl, .inr h1⟩

theorem sorted_eq {lt : ByteArray × Int → ByteArray × Int → Bool} : ∀ (l2 l1 : List (ByteArray × Int)), l1.Perm l2 → l1.Pairwise (fun a b => lt b a = false) → l2.Pairwise (fun a b => lt a b = true) → l1 = l2
  | [], l1, hp, _, _ => hp.eq_nil
  | b :: t2, [], hp, _, _ => by have := hp.length_eq; simp at this
  | b :: t2, a :: t1, hp, h1, h2 => by
    rw [List.pairwise_cons] at h1 h2
    by_cases e : a = b
    · subst e
      rw [sorted_eq t2 t1 (List.Perm.cons_inv hp) h1.2 h2.2]
    · exfalso
      have ha : a ∈ t2 := by
        rcases List.mem_cons.1 (hp.mem_iff.1 (List.mem_cons_self ..)) with h | h
        · exact absurd h e
        · exact h
      have hb : b ∈ t1 := by
        rcases List.mem_cons.1 (hp.mem_iff.2 (List.mem_cons_self ..)) with h | h
        · exact absurd h.symm e
        · exact h
      have e1 := h2.1 a ha
      have e2 := h1.1 b hb
      rw [e1] at e2
      cases e2

theorem getE (E : List (ByteArray × Int)) (i : Nat) (h : i < E.length) : E[i] = (enm E i, eno E i) := by
  simp [enm, eno, List.getD_eq_getElem?_getD, h]

theorem dir_sorted {n : Ino} (h : DirP n) : n.E.Pairwise (fun a b => Op.bytesLess a.1.toList b.1.toList = true) := by
  have hadj : ∀ k, k + 1 < n.E.length → Op.bytesLess (enm n.E k).toList (enm n.E (k + 1)).toList = true := fun k hk => by
    have h1 := (h.2.2.2 (k + 1) hk).2.2 (by omega)
    rw [Nat.add_sub_cancel, leB, Bool.or_eq_false_iff] at h1
    exact less_total _ _ h1.1 (fun e => by have := h1.2; rw [e] at this; simp at this)
  have hall : ∀ d i, i + 1 + d < n.E.length → Op.bytesLess (enm n.E i).toList (enm n.E (i + 1 + d)).toList = true := by
    intro d
    induction d with
    | zero => exact fun i hi => hadj i hi
    | succ d ih => exact fun i hi => less_trans _ _ _ (ih i (by omega)) (hadj (i + 1 + d) hi)
  rw [List.pairwise_iff_getElem]
  intro i j hi hj hij
  rw [getE _ i hi, getE _ j hj]
  have := hall (j - i - 1) i (by omega)
  rwa [show i + 1 + (j - i - 1) = j by omega] at this

theorem SeemsP.uniq {X L : List Int} {n n' : Ino} {own own' : List Nat} (h : SeemsP X L n own) (h' : SeemsP X L n' own') (hR : RightP n') : n' = n ∧ own' = own := by
  rcases h with ⟨h1, l, h2, rfl⟩ | ⟨h1, E, E', h2, -, h3, h4, rfl⟩
  · rcases h' with ⟨g1, l', g2, rfl⟩ | ⟨g1, -⟩
    · obtain ⟨rfl, rfl⟩ := h2.inj g2
      exact ⟨rfl, rfl⟩
    · omega
  · rcases h' with ⟨g1, -⟩ | ⟨g1, F, F', g2, -, g3, g4, rfl⟩
    · omega
    · rw [h2] at g2
      cases g2
      have hd : DirP { tagN L with E := F' } := (hR.2.2.resolve_left (fun h => by have : (tagN L).K = 1 := h.1; omega)).2
      have e : E' = F' := by
        refine sorted_eq (lt := fun a b => Op.bytesLess a.1.toList b.1.toList) F' E' (h3.trans g3.symm) ?_ (dir_sorted hd)
        rw [List.pairwise_iff_getElem]
        intro i j hi hj hij
        rw [getE _ i hi, getE _ j hj]
        exact h4 i j hij hj
      subst e
      exact ⟨rfl, rfl⟩

end Go.Proofs.YtmhcnkjmnbnldaaDoor

namespace Go.Proofs.YtmhcnkjmnbnldaaDoor
open Go.RowKit

/-- Entries all right. -/
def GoodE (E : List (ByteArray × Int)) : Prop := ∀ k, k < E.length → goodN (bl (enm E k)) = true ∧ 0 ≤ eno E k ∧ eno E k ≤ 31

theorem blk_ents {c : List (ByteArray × Int)} (h3 : c.length ≤ 3) (hg : GoodE c) (x : Int) : cntE (blkX (wordsE c) x) = c.length ∧ EntsLOk (entsOfR (blkX (wordsE c) x)) (cntE (blkX (wordsE c) x)) ∧ entsL (entsOfR (blkX (wordsE c) x)) (cntE (blkX (wordsE c) x)) = c := by
  have hcnt : cntE (blkX (wordsE c) x) = c.length := by
    refine cntE_stop h3 (fun j hj => ?_) ?_
    · rw [blkX_succ, Nat.mul_comm, (wordsE_get c j hj).1]
      have := word_big (hg j hj).1
      omega
    · rcases (show c.length = 3 ∨ c.length < 3 by omega) with h | h
      · exact .inl h
      · right
        rw [blkX_succ, List.getD_eq_getElem?_getD, List.getElem?_eq_none (by rw [wordsE_len]; omega)]
        rfl
  have hget : ∀ i, i < 2 * c.length → (entsOfR (blkX (wordsE c) x)).getD i 0 = (wordsE c).getD i 0 := fun i hi => by
    rw [← blkX_succ (wordsE c) x i, entsOfR, hcnt, List.getD_eq_getElem?_getD, List.getElem?_take, if_pos hi, List.getElem?_drop, List.getD_eq_getElem?_getD, Nat.add_comm]
  have hw : ∀ k, k < c.length → (entsOfR (blkX (wordsE c) x)).getD (k * 2) 0 = ((wordV (bl (enm c k)) : Nat) : Int) ∧ (entsOfR (blkX (wordsE c) x)).getD (k * 2 + 1) 0 = eno c k ∧ nameN (wordV (bl (enm c k))) = some (bl (enm c k)) := fun k hk => by
    rw [hget _ (by omega), hget _ (by omega)]
    obtain ⟨e1, e2⟩ := wordsE_get c k hk
    refine ⟨e1, e2, ?_⟩
    unfold wordV
    rw [if_pos (hg k hk).1]
    exact nameN_wordN (hg k hk).1 (bl_lt _)
  refine ⟨hcnt, fun k hk => ?_, ?_⟩
  · rw [hcnt] at hk
    obtain ⟨e1, e2, e3⟩ := hw k hk
    rw [e1, e2, Int.toNat_natCast, e3]
    have := (hg k hk).2
    exact ⟨rfl, by omega⟩
  · refine e_ext (by rw [entsL_len, hcnt]) fun k hk => ?_
    rw [entsL_len, hcnt] at hk
    obtain ⟨e1, e2, e3⟩ := hw k hk
    obtain ⟨g1, g2⟩ := entsL_get (entsOfR (blkX (wordsE c) x)) (cntE (blkX (wordsE c) x)) k (by rw [hcnt]; exact hk)
    rw [g1, g2, e1, e2, Int.toNat_natCast, e3]
    exact ⟨strN_bl _, rfl⟩

theorem spr_good {n : Ino} (hD : DirP n) (b : Nat) : GoodE (sprE n.E b) := fun k hk => by
  obtain ⟨j, hj, e1, e2⟩ := spr_mem hk
  rw [e1, e2]
  exact ⟨(hD.2.2.2 j hj).1, (hD.2.2.2 j hj).2.1⟩

theorem ch_good {l : List (ByteArray × Int)} (h : GoodE l) (x : Nat) : GoodE (chE l x) := fun k hk => by
  obtain ⟨h1, e1, e2⟩ := chE_get l x k hk
  rw [e1, e2]
  exact h _ h1

/-- The buckets ahead of b, one behind another. -/
def catE (E : List (ByteArray × Int)) : Nat → List (ByteArray × Int)
  | 0 => []
  | b + 1 => catE E b ++ sprE E b

theorem ch_take (l : List (ByteArray × Int)) (j : Nat) : l.take (3 * j) ++ chE l j = l.take (3 * (j + 1)) := by
  unfold chE
  rw [show 3 * (j + 1) = 3 * j + 3 by omega, List.take_add]

theorem take_snocN {l : List Nat} {j : Nat} (h : j < l.length) : l.take j ++ [l.getD j 0] = l.take (j + 1) := by
  rw [List.take_succ_eq_append_getElem h]
  simp [List.getD_eq_getElem?_getD, h]

/-- A bucket's blocks are told again, from the j-th on. -/
theorem chain_laid {X R : List Int} {n : Ino} {own : List Nat} (hK : n.K = 2) (hD : DirP n) (ho : own.length = fstN n.E 4) (h24 : own.length ≤ 24) (hm : ∀ c ∈ own, c ≠ 0 ∧ c < 256) (hL : IsLaidP X R n own) {b : Nat} (hb : b < 4) :
    ∀ d j fuel, j + d = dN n.E b → d < fuel → chainD X fuel (if j < dN n.E b then ((own.getD (fstN n.E b + j) 0 : Nat) : Int) else 0) (own.take (fstN n.E b + j)) (catE n.E b ++ (sprE n.E b).take (3 * j)) = some (own.take (fstN n.E (b + 1)), catE n.E (b + 1)) := by
  have hfm := fstN_mono n.E (show b + 1 ≤ 4 by omega)
  intro d
  induction d with
  | zero =>
    intro j fuel hj hf
    obtain ⟨f, rfl⟩ : ∃ f, fuel = f + 1 := ⟨fuel - 1, by omega⟩
    obtain rfl : j = dN n.E b := by omega
    rw [if_neg (Nat.lt_irrefl _), chainD, if_pos rfl, fstN, catE, List.take_of_length_le (l := sprE n.E b) (by unfold dN; omega)]
  | succ d ih =>
    intro j fuel hj hf
    obtain ⟨f, rfl⟩ : ∃ f, fuel = f + 1 := ⟨fuel - 1, by omega⟩
    have hjd : j < dN n.E b := by omega
    have hjo : fstN n.E b + j < own.length := by rw [ho]; rw [fstN] at hfm; omega
    have hc := hm _ (getD_mem hjo)
    have hblk := hL.1 _ hjo
    unfold blocksF at hblk
    rw [if_pos hK, dirTo_get n.E own hjd hb] at hblk
    have hlen : (own.take (fstN n.E b + j)).length = fstN n.E b + j := by rw [List.length_take]; omega
    obtain ⟨e1, e2, e3⟩ := blk_ents (c := chE (sprE n.E b) j) (by rw [chE_len]; omega) (ch_good (spr_good hD b) j) (if j + 1 < dN n.E b then ((own.getD (fstN n.E b + (j + 1)) 0 : Nat) : Int) else 0)
    have hnext : X.getD (1080 + 8 * own.getD (fstN n.E b + j) 0) 0 = if j + 1 < dN n.E b then ((own.getD (fstN n.E b + (j + 1)) 0 : Nat) : Int) else 0 := by
      have := rowL_get X (1080 + 8 * own.getD (fstN n.E b + j) 0) 0 (by omega)
      rw [← hblk] at this
      exact this.symm
    rw [if_pos hjd, chainD, if_neg (by omega), hlen, if_neg (by omega), Int.toNat_natCast]
    have hok : blkOk X (own.getD (fstN n.E b + j) 0) := by
      unfold blkOk
      rw [← hblk]
      exact e2
    have hE : blkE X (own.getD (fstN n.E b + j) 0) = chE (sprE n.E b) j := by
      unfold blkE
      rw [← hblk]
      exact e3
    rw [if_pos hok, hE, hnext, take_snocN hjo, List.append_assoc, ch_take]
    exact ih (j + 1) f (by omega) (by omega)

theorem catE_len (E : List (ByteArray × Int)) : ∀ b, (catE E b).length ≤ 3 * fstN E b
  | 0 => by simp [catE]
  | b + 1 => by
    have := catE_len E b
    rw [catE, fstN, List.length_append, dN]
    omega

theorem fst_le (E : List (ByteArray × Int)) : fstN E 4 * 3 ≤ (catE E 4).length + 8 := by
  simp only [catE, fstN, dN, List.length_append, List.nil_append]
  omega

theorem spr_perm : ∀ E : List (ByteArray × Int), E.Perm (catE E 4)
  | [] => by simp [catE, sprE]
  | p :: E => by
    have ih := spr_perm E
    have hl := bkt_lt p
    simp only [catE, List.nil_append] at ih ⊢
    have hs : ∀ b, sprE (p :: E) b = if bkt p = b then p :: sprE E b else sprE E b := fun b => by
      unfold sprE
      rw [List.filter_cons]
      simp
    rw [hs 0, hs 1, hs 2, hs 3]
    generalize sprE E 0 = A at *
    generalize sprE E 1 = B at *
    generalize sprE E 2 = C at *
    generalize sprE E 3 = D at *
    refine (List.Perm.cons p ih).trans ?_
    rcases (show bkt p = 0 ∨ bkt p = 1 ∨ bkt p = 2 ∨ bkt p = 3 by omega) with h | h | h | h
    · simp [h]
    · simp only [h]
      simp only [List.append_assoc, Nat.one_ne_zero, Nat.reduceEqDiff, ↓reduceIte]
      exact List.perm_middle.symm
    · simp only [h]
      simp only [List.append_assoc, Nat.reduceEqDiff, ↓reduceIte]
      have := (List.perm_middle (a := p) (l₁ := A ++ B) (l₂ := C ++ D)).symm
      simpa using this
    · simp only [h]
      simp only [List.append_assoc, Nat.reduceEqDiff, ↓reduceIte]
      have := (List.perm_middle (a := p) (l₁ := A ++ B ++ C) (l₂ := D)).symm
      simpa using this

theorem seemTo_laid {X : List Int} {n : Ino} {own : List Nat} (hK : n.K = 2) (hD : DirP n) (ho : own.length = fstN n.E 4) (h24 : own.length ≤ 24) (hm : ∀ c ∈ own, c ≠ 0 ∧ c < 256) (hL : IsLaidP X (rowF n own) n own) :
    ∀ b, b ≤ 4 → seemTo X (rowF n own) b = some (own.take (fstN n.E b), catE n.E b)
  | 0, _ => by simp [seemTo, fstN, catE]
  | b + 1, hb => by
    have hfm := fstN_mono n.E (show b + 1 ≤ 4 by omega)
    rw [fstN] at hfm
    rw [seemTo, seemTo_laid hK hD ho h24 hm hL b (by omega)]
    show chainD X (25 - (own.take (fstN n.E b)).length) ((rowF n own).getD (2 + b) 0) (own.take (fstN n.E b)) (catE n.E b) = _
    have := chain_laid hK hD ho h24 hm hL (show b < 4 by omega) (dN n.E b) 0 (25 - fstN n.E b) (by omega) (by omega)
    rw [Nat.add_zero, Nat.mul_zero, List.take_zero, List.append_nil] at this
    rw [(rowF_dir hK (show b < 4 by omega)).1, List.length_take, Nat.min_eq_left (by omega)]
    exact this

theorem tag_two {R : List Int} {n : Ino} (hR : RightP n) (h0 : R.getD 0 0 = tagW n) (h1 : R.getD 1 0 = n.S) : tagN R = ⟨n.F, n.K, n.L, n.S, List.replicate 13 0, []⟩ := by
  rw [← tag_laid hR [] 0]
  unfold tagN
  rw [h0, h1]
  rfl

theorem app5 {A : List Int} (h : A.length = 5) (x : Int) : (A ++ [x]).getD 5 0 = x ∧ (A ++ [x]).take 5 = A := by
  constructor
  · rw [List.getD_eq_getElem?_getD, List.getElem?_append_right (by omega), h]
    rfl
  · rw [List.take_append_of_le_length (by omega), List.take_of_length_le (by omega)]

theorem two_drop (a b : Int) (l : List Int) : (a :: b :: l).drop 2 = l ∧ (a :: b :: l).getD 7 0 = l.getD 5 0 := ⟨rfl, rfl⟩

/-- What is laid is read again. -/
theorem read2_laid {X : List Int} {i : Int} {n : Ino} {own : List Nat} (hB : n.B.length = 13) (hok : Lay2P i n) (ho : own.length = needF n) (hm : ∀ c ∈ own, c ≠ 0 ∧ c < 256) (hL : IsLaidP X (inoAtX X i) n own) : ReadP X i n own := by
  obtain ⟨hi, hF, hR⟩ := hok
  refine ⟨hi, ?_, hF, hR, ho, hL⟩
  have hrow := hL.2
  rw [← hrow] at hL ⊢
  have htag := tag_two hR (rowF_head n own).1 (rowF_head n own).2
  rcases hR.2.2 with ⟨hK, hf⟩ | ⟨hK, hD⟩
  · left
    rw [htag]
    refine ⟨hK, n.B, ?_, ?_⟩
    · have hr : rowF n own = fileRow n own := if_neg (by omega)
      have hb : blocksF n own = fileBlocks n := if_neg (by omega)
      have h13 : (runsL n.B).length ≤ 13 := runsTo_len n.B 13
      have hnum : ∀ k, k < 13 → 0 ≤ n.B.getD k 0 ∧ n.B.getD k 0 < 256 := fun k hk => (hf.2.2.2 k hk).1
      rw [need_file hf] at ho
      by_cases h6 : (runsL n.B).length ≤ 6
      · left
        have hfr : fileRow n own = tagW n :: n.S :: (runsL n.B ++ List.replicate (6 - (runsL n.B).length) 0) := if_pos h6
        rw [if_neg (by omega)] at ho
        rw [hr, hfr]
        refine ⟨?_, List.eq_nil_of_length_eq_zero ho, ?_⟩
        · rw [(two_drop _ _ _).2, List.getD_eq_getElem?_getD]
          by_cases h5 : 5 < (runsL n.B).length
          · rw [List.getElem?_append_left h5, List.getElem?_eq_getElem h5]
            exact (runs_64 (List.getElem_mem h5)).2
          · rw [List.getElem?_append_right (by omega), List.getElem?_replicate]
            split <;> simp
        · rw [(two_drop _ _ _).1]
          have := nums_again hB hnum (6 - (runsL n.B).length)
          rwa [show (runsL n.B).length + (6 - (runsL n.B).length) = 6 by omega] at this
      · right
        have hfr : fileRow n own = tagW n :: n.S :: ((runsL n.B).take 5 ++ [9223372036854775808 + ((own.getD 0 0 : Nat) : Int)]) := if_neg h6
        have hfb : fileBlocks n = [(runsL n.B).drop 5 ++ List.replicate (13 - (runsL n.B).length) 0] := if_neg h6
        rw [if_pos (by omega)] at ho
        obtain ⟨c, rfl⟩ := List.length_eq_one_iff.1 ho
        have hc := hm c (by simp)
        have hblk := hL.1 0 (by simp)
        rw [hb, hfb] at hblk
        have hblk : (runsL n.B).drop 5 ++ List.replicate (13 - (runsL n.B).length) 0 = rowL X (1080 + 8 * c) := hblk
        have ht5 : ((runsL n.B).take 5).length = 5 := by rw [List.length_take]; omega
        rw [hr, hfr]
        have hg : [c].getD 0 0 = c := rfl
        rw [hg]
        obtain ⟨a1, a2⟩ := app5 ht5 (9223372036854775808 + ((c : Nat) : Int))
        obtain ⟨d1, d2⟩ := two_drop (tagW n) n.S ((runsL n.B).take 5 ++ [9223372036854775808 + ((c : Nat) : Int)])
        refine ⟨c, ?_, by omega, hc.2, rfl, ?_⟩
        · rw [d2, a1]
        · rw [d1, a2, ← hblk, ← List.append_assoc, List.take_append_drop]
          have := nums_again hB hnum (13 - (runsL n.B).length)
          rwa [show (runsL n.B).length + (13 - (runsL n.B).length) = 13 by omega] at this
    · have hE : n.E = [] := List.eq_nil_of_length_eq_zero hf.2.1
      cases n
      simp at hE
      subst hE
      rfl
  · right
    rw [htag]
    have hfo := ho
    rw [need_dir hD] at hfo
    have hp := spr_perm n.E
    have hpl := hp.length_eq
    have hfl := fst_le n.E
    have h24 := hD.1
    have hcl := catE_len n.E 4
    have hs := seemTo_laid hK hD hfo (by omega) hm hL 4 (Nat.le_refl _)
    rw [← hfo, List.take_length] at hs
    refine ⟨hK, catE n.E 4, n.E, hs, ⟨by omega, fun c hc => ?_, by omega, fun p hp' => ?_⟩, hp, fun i j hij hj => ?_, ?_⟩
    · have := hm c hc
      omega
    · have hpe := hp.mem_iff.2 hp'
      obtain ⟨k, hk, rfl⟩ := List.getElem_of_mem hpe
      rw [getE _ k hk]
      have := (goodN_len (hD.2.2.2 k hk).1).2
      rw [bl_len] at this
      exact this
    · have hso := List.pairwise_iff_getElem.1 (dir_sorted hD) i j (by omega) hj hij
      rw [getE _ i (by omega), getE _ j hj] at hso
      cases h : Op.bytesLess (enm n.E j).toList (enm n.E i).toList
      · rfl
      · have := less_trans _ _ _ hso h
        rw [less_irrefl] at this
        cases this
    · have hb := hD.2.2.1
      cases n
      simp at hb
      subst hb
      rfl

/-- What is read has own blocks that are all others. -/
theorem read2_nodup {X : List Int} {i : Int} {n : Ino} {own : List Nat} (h : ReadP X i n own) : own.Nodup := by
  obtain ⟨hi, hs, hF, hR, ho, hL⟩ := h
  rcases hR.2.2 with ⟨hK, hf⟩ | ⟨hK, hD⟩
  · rw [need_file hf] at ho
    have : own.length ≤ 1 := by rw [ho]; split <;> omega
    match own, this with
    | [], _ => exact List.nodup_nil
    | [c], _ => simp
    | _ :: _ :: _, h => simp at h
  · rw [need_dir hD] at ho
    have hfirst : ∀ m, m < own.length → ∃ b j, b < 4 ∧ 3 * j < (sprE n.E b).length ∧ m = fstN n.E b + j ∧ X.getD (1080 + 8 * own.getD m 0 + 1) 0 = ((wordV (bl (enm (sprE n.E b) (3 * j))) : Nat) : Int) := fun m hml => by
      obtain ⟨b, j, hb, hj, rfl⟩ := fst_cover n.E (ho ▸ hml)
      have h3 : 3 * j < (sprE n.E b).length := by unfold dN at hj; omega
      refine ⟨b, j, hb, h3, rfl, ?_⟩
      have hblk := hL.1 _ hml
      unfold blocksF at hblk
      rw [if_pos hK, dirTo_get n.E own hj hb] at hblk
      have h1 := rowL_get X (1080 + 8 * own.getD (fstN n.E b + j) 0) 1 (by omega)
      rw [← hblk, blkD, blkX_succ, blk_word _ _ _ (by omega), if_pos ⟨by omega, by omega⟩, if_pos rfl] at h1
      exact h1.symm
    rw [List.nodup_iff_pairwise_ne, List.pairwise_iff_getElem]
    intro i1 i2 h1 h2 h12 he
    obtain ⟨b, j, hb, hj, e1, w1⟩ := hfirst i1 h1
    obtain ⟨b', j', hb', hj', e2, w2⟩ := hfirst i2 h2
    have hge : own.getD i1 0 = own.getD i2 0 := by simp [List.getD_eq_getElem?_getD, h1, h2, he]
    rw [hge, w2] at w1
    have hw : wordV (bl (enm (sprE n.E b') (3 * j'))) = wordV (bl (enm (sprE n.E b) (3 * j))) := by omega
    have g1 := (spr_good hD b _ hj).1
    have g2 := (spr_good hD b' _ hj').1
    unfold wordV at hw
    rw [if_pos g1, if_pos g2] at hw
    have hn1 := nameN_wordN g1 (bl_lt _)
    rw [← hw, nameN_wordN g2 (bl_lt _)] at hn1
    have hbl : bl (enm (sprE n.E b') (3 * j')) = bl (enm (sprE n.E b) (3 * j)) := Option.some.inj hn1
    have hbk : ∀ q k, k < (sprE n.E q).length → bucketN (bl (enm (sprE n.E q) k)) = q := fun q k hk => by
      have := (List.mem_filter.1 (e_mem hk)).2
      exact beq_iff_eq.1 this
    have hbb : b = b' := by rw [← hbk b _ hj, ← hbk b' _ hj', hbl]
    subst hbb
    have hnm : enm (sprE n.E b) (3 * j') = enm (sprE n.E b) (3 * j) := by rw [← strN_bl (enm (sprE n.E b) (3 * j')), hbl, strN_bl]
    have hso : (sprE n.E b).Pairwise (fun x y => Op.bytesLess x.1.toList y.1.toList = true) := (dir_sorted hD).filter _
    have hlt := List.pairwise_iff_getElem.1 hso (3 * j) (3 * j') hj hj' (by omega)
    rw [getE _ _ hj, getE _ _ hj', hnm, less_irrefl] at hlt
    cases hlt

end Go.Proofs.YtmhcnkjmnbnldaaDoor

namespace Go.Proofs.YtmhcnkjmnbnldaaDoor
open Go.RowKit

theorem runs_three : runsL [9, 10, 11, 0, 0, 0, 0, 0, 0, 0, 0, 0, 0] = [2307] := by decide +kernel

set_option maxRecDepth 100000 in
set_option maxHeartbeats 1000000 in
theorem f2Awake_core (l : List Int) (hl : l.length = 13) (hlen : (runsL l).length = 1) (h0 : (runsL l).getD 0 0 = 2307) (w : World)
    (hz : (zs l).toArray = #[.int .i64 9, .int .i64 10, .int .i64 11, .int .i64 0, .int .i64 0, .int .i64 0, .int .i64 0, .int .i64 0, .int .i64 0, .int .i64 0, .int .i64 0, .int .i64 0, .int .i64 0]) :
    Calls Tryd.prog 24 #[] w fun e w' => e = .returned (.bool true) ∧ Keeps [] w w' := by
  have HR := Lib.hid (runs_at l hl w)
  generalize runsL l = L at *
  rw [hz] at HR
  clear hl hz
  go_enter Tryd.func24, Tryd.ntmps24
  go_wp2_with fail
  refine HR.out.mono ?_; rintro e w1 ⟨v, g, rfl, hr, hg, hk⟩
  obtain ⟨a, cap, rfl, -, -, hc⟩ := u64s_cell hr
  obtain ⟨hgl, off, rfl, hc0⟩ := hc.out 0 (by omega)
  rw [h0, Nat.add_zero] at hc0
  have HK := Lib.hid hk
  clear hr hg hk hc h0
  rw [hlen]
  clear hlen
  go_wp2_with fail
  go_ret
  exact ⟨rfl, HK.out⟩

theorem f2Awake_at (w : World) : Calls Tryd.prog 24 #[] w fun e w' => e = .returned (.bool true) ∧ Keeps [] w w' :=
  f2Awake_core [9, 10, 11, 0, 0, 0, 0, 0, 0, 0, 0, 0, 0] rfl (by rw [runs_three]; rfl) (by rw [runs_three]; rfl) w rfl

end Go.Proofs.YtmhcnkjmnbnldaaDoor

namespace Go.Proofs.YtmhcnkjmnbnldaaDoor
open Go.RowKit

set_option maxRecDepth 100000 in
set_option maxHeartbeats 8000000 in
theorem read2_at {w : World} {b gp : Nat} {B : List Int} {ps : List (Int × Int)} (hSh : ShAt w b gp B ps) (hX64 : W64 (putAll B ps)) (i : Int) :
    Calls Tryd.prog 29 #[.pointer (some ⟨b, 0, none⟩), .int .i64 i] w (Read2Post w (putAll B ps) i) := by
  have hb4 := Blk.new w (inoC inoZ (.slice none 0 0)) 25
  obtain ⟨W0, hW0⟩ : ∃ W0, W0 = w.alloc (.cells (inoC inoZ (.slice none 0 0)) 25) := ⟨_, rfl⟩
  rw [← hW0] at hb4
  have hk0 : Keeps [] w W0 := by
    rw [hW0]
    exact (Keeps.refl _ _).alloc _
  have hs0 : W0.heap.size = w.heap.size + 1 := by rw [hW0]; simp
  have hzv := zero_ino
  have hz8v := zero_r8
  have HI := Lib.hid (txInode_at i)
  have HBAD : Hid (∀ wz, Keeps [] W0 wz → (∀ n' own', ¬ ReadP (putAll B ps) i n' own') → ∃ w', (storeVar 25 ⟨w.heap.size, 0, none⟩ (.agg (inoC inoZ (.slice none 0 0)))).run Tryd.prog wz = .ok () w' ∧ (loadVar 25 ⟨w.heap.size, 0, none⟩).run Tryd.prog w' = .ok (.agg (inoC inoZ (.slice none 0 0))) w' ∧ Read2Post w (putAll B ps) i (.returned (.tuple #[.agg (inoC inoZ (.slice none 0 0)), .slice none 0 0, .bool false])) w') := fun wz hk hn => by
    obtain ⟨w', q1, q2, q3⟩ := store_whole (P := Tryd.prog) (ty := 25) (cs := inoL inoZ (.slice none 0 0)) size_ino (hb4.keep hk (by simp)) rfl (inoL_one rfl)
    exact ⟨w', q1, load_ino q2 rfl, inoZ, _, w.heap.size, [], _, w.heap.size, false, rfl, rfl, EReads.nil _ _, Nat.le_refl _, i64s_nil_reads _ _, Nat.le_refl _, (hk0.trans' hk).trans q3 (by intro x hx; rw [List.mem_singleton] at hx; omega), fun h => (by cases h), fun _ => ⟨rfl, rfl, hn⟩⟩
  have HW0 := Lib.hid hW0
  have HK0 := Lib.hid hk0
  have HB4 := Lib.hid hb4
  have HSH := Lib.hid hSh
  have HX64 := Lib.hid hX64
  clear hb4 hk0 hW0 hSh hX64
  generalize hXX : putAll B ps = X at *
  have HXX := Lib.hid hXX
  clear hXX
  generalize hz0 : inoC inoZ (.slice none 0 0) = Z0 at *
  have HZ0 := Lib.hid hz0
  clear hz0
  have hz18 : Z0.size = 18 := by rw [← HZ0.out]; rfl
  by_cases hi : 0 ≤ i ∧ i < 32
  · have hin : inodeN i = ((824 + 8 * i.toNat : Nat) : Int) := by rw [inodeN, if_neg (by omega)]; omega
    rw [hin] at HI
    have hp0 : ¬ ((824 + 8 * i.toNat : Nat) : Int) < 0 := by omega
    have HROW := Lib.hid (rowAt_at (HSH.out.keep HK0.out (by simp) (by simp)) (824 + 8 * i.toNat) (by omega))
    rw [HXX.out] at HROW
    have hr8 := rowL_len X (824 + 8 * i.toNat)
    obtain ⟨r, hr⟩ : ∃ r, r = rowL X (824 + 8 * i.toNat) := ⟨_, rfl⟩
    have hrI : inoAtX X i = r := by rw [hr]; rfl
    have HR64 : Hid (W64 r) := by rw [hr]; exact W64.row HX64.out _
    rw [← hr] at HROW hr8
    have HRI := Lib.hid hrI
    clear hr hrI hin
    generalize hpi : ((824 + 8 * i.toNat : Nat) : Int) = pi at *
    clear hpi
    generalize hz8 : (u64s (List.replicate 8 0)).toArray = Z8 at *
    have HZ8 := Lib.hid hz8
    clear hz8
    go_enter Tryd.func29, Tryd.ntmps29
    go_wp2_with fail
    refine (HI.out _).mono ?_; rintro e wy ⟨rfl, rfl⟩
    go_wp2_with fail
    refine (HI.out _).mono ?_; rintro e wy ⟨rfl, rfl⟩
    go_wp2_with fail
    rw [← HW0.out]
    refine HROW.out.mono ?_; rintro e w1 ⟨rfl, hk1⟩
    obtain ⟨w2, hS1, hb7, hk2⟩ := store_whole (P := Tryd.prog) (ty := 63) (cs := u64s r) (by rw [u64s_len, hr8]; exact size_r8) (Blk.new w1 Z8 63) (by rw [← HZ8.out]; simp [u64s_len, hr8]) (u64s_one _)
    have hz1 := hk1.size
    have HK2 : Hid (Keeps [] W0 w2) := (hk1.alloc (.cells Z8 63)).trans hk2 (by intro x hx; rw [List.mem_singleton] at hx; omega)
    have HB7 := Lib.hid hb7
    have HS1 := Lib.hid hS1
    have HLR : Hid (∀ wx, Keeps [] w2 wx → (loadVar 63 ⟨w1.heap.size, 0, none⟩).run Tryd.prog wx = .ok (.agg (u64s r).toArray) wx) := fun wx hk => load_r8 (HB7.out.keep hk (by simp)) hr8
    have HKW2 := Lib.hid (HK0.out.trans' HK2.out)
    have HSE := seeming_at (HSH.out.keep HKW2.out (by simp) (by simp)) (by rw [HXX.out]; exact HX64.out) hr8 HR64.out
    rw [HXX.out] at HSE
    have HSEE := Lib.hid HSE
    clear hS1 hb7 hk2 hk1 hz1 HROW HSE
    generalize hg7 : w1.heap.size = g7 at *
    have HLR0 := Lib.hid (HLR.out w2 (Keeps.refl _ _))
    go_wp2_with (first | ((with_reducible show wpList _ _ _ (⟨_, .store 63 (.tmp 7) (.tmp 18), _, _, _, _⟩ :: _) _ _); refine wpList_store_any rfl 63 (.tmp 7) (.tmp 18) rfl _ rfl _ rfl _ HS1.out ?_) | ((with_reducible show wpList _ _ _ (⟨_, .load 63 (.tmp 7), _, _, _, _⟩ :: _) _ _); refine wpList_load_any rfl 63 (.tmp 7) rfl _ rfl _ HLR0.out ?_))
    refine HSEE.out.mono ?_
    rintro e w3 ⟨n, v, g, own, vo, go, ok, rfl, hB13, hE, hg, hO, hgo, hk3, h1, h2⟩
    obtain ⟨w4, hS4, hb8, hk4⟩ := store_whole (P := Tryd.prog) (ty := 25) (cs := inoL n v) (by rw [inoL_len, hB13]; exact size_ino) (Blk.new w3 Z0 25) (by rw [hz18, inoL_len, hB13]) (inoL_one (by obtain ⟨a, c, rfl, -⟩ := hE; rfl))
    have hz3 := hk3.size
    have HK4 : Hid (Keeps [] w2 w4) := (hk3.alloc (.cells Z0 25)).trans hk4 (by intro x hx; rw [List.mem_singleton] at hx; omega)
    have hb8' : Blk w4 w3.heap.size (inoC n v) 25 := hb8
    have cF : w4.cell? ⟨w3.heap.size, 0, none⟩ = some (.int .i64 n.F) := by rw [hb8'.cell]; exact (inoAt _ hB13).f0
    have HLN : Hid (∀ wx, Keeps [] w4 wx → (loadVar 25 ⟨w3.heap.size, 0, none⟩).run Tryd.prog wx = .ok (.agg (inoC n v)) wx) := fun wx hk => load_ino (hb8'.keep hk (by simp)) hB13
    have hk34 : Keeps [w3.heap.size] w3 w4 := ((Keeps.refl [w3.heap.size] w3).alloc (.cells Z0 25)).trans' hk4
    have hE4 : EReads w4 v g n.E := hE.keep hk34 (fun h0 => by
      have := hE.apart (l := [w3.heap.size]) (fun x hx => by rw [List.mem_singleton] at hx; omega) h0
      exact this)
    have hO4 : ∃ go', Reads w4 vo go' (i64s own) ∧ w2.heap.size ≤ go' := by
      by_cases h0 : i64s own = []
      · obtain ⟨a, c, q1, q2, q3, q4⟩ := hO
        exact ⟨go, ⟨a, c, q1, q2, q3, fun h => absurd h0 h⟩, hgo⟩
      · refine ⟨go, hO.keep hk34 ?_, hgo⟩
        obtain ⟨a, c, q1, q2, q3, q4⟩ := hO
        have := (q4 h0).1
        rw [List.mem_singleton]
        omega
    obtain ⟨go', hO4, hgo'⟩ := hO4
    have HE4 := Lib.hid hE4
    have HO4 := Lib.hid hO4
    have HS4 : Hid ((storeVar 25 ⟨w3.heap.size, 0, none⟩ (.agg (inoC n v))).run Tryd.prog (w3.alloc (.cells Z0 25)) = .ok () w4) := hS4
    have H1 := Lib.hid h1
    have H2 := Lib.hid h2
    have HBN := Lib.hid hB13
    have HG := Lib.hid hg
    have HGO := Lib.hid hgo'
    have HZ3 := Lib.hid hz3
    clear hS4 hb8 hb8' hk4 hk34 hE4 hO4 hE hO hg hgo hgo' hk3 h1 h2 hB13 hz3 HSEE
    generalize hg8 : w3.heap.size = g8 at *
    have HUN : Hid (ok = true → ∀ n' own', ReadP X i n' own' → n' = n ∧ own' = own) := fun hok n' own' h => by
      have := h.2.1
      rw [HRI.out] at this
      exact (H1.out hok).1.uniq this h.2.2.2.1
    cases ok with
    | false =>
      obtain ⟨w9, hsb, hlb, hpb⟩ := HBAD.out w4 (HK2.out.trans' HK4.out) (fun n' own' h => by have := h.2.1; rw [HRI.out] at this; exact H2.out rfl n' own' this)
      have HSB := Lib.hid hsb
      have HLB := Lib.hid hlb
      have HPB := Lib.hid hpb
      clear hsb hlb hpb HBAD H1 H2
      go_wp2_with (first | ((with_reducible show wpList _ _ _ (⟨_, .store 25 (.tmp 8) (.tmp 23), _, _, _, _⟩ :: _) _ _); refine wpList_store_any rfl 25 (.tmp 8) (.tmp 23) rfl _ rfl _ rfl _ HS4.out ?_) | ((with_reducible show wpList _ _ _ (⟨_, .store 25 (.tmp 4) (.tmp 53), _, _, _, _⟩ :: _) _ _); refine wpList_store_any rfl 25 (.tmp 4) (.tmp 53) rfl _ rfl _ rfl _ HSB.out ?_))
      exact bodyPost_ret (results_cell3 Tryd.results29 rfl HLB.out rfl rfl) rfl HPB.out
    | true =>
      by_cases hF : n.F = 2
      · rw [hF] at cF
        have HFE := Lib.hid hF
        clear hF
        have HSZN : Hid (∀ k, k < n.E.length → (enm n.E k).size ≤ 9223372036854775807) := fun k hk => by have := (H1.out rfl).2.2.2.2 k hk; omega
        have HRT : Hid (∀ wx, Keeps [] w4 wx → Calls Tryd.prog 14 #[.agg (inoC n v)] wx fun e w' => e = .returned (.bool (decide (RightP n))) ∧ Keeps [] wx w') := fun wx hk => right_at n v g HBN.out wx (HE4.out.keep hk (by simp)) HSZN.out
        have HND : Hid (∀ wx, Keeps [] w4 wx → Calls Tryd.prog 27 #[.agg (inoC n v)] wx fun e w' => e = .returned (.int .i64 ((if RightP n then needF n else 0 : Nat) : Int)) ∧ Keeps [] wx w') := fun wx hk => need2_at n v g HBN.out wx (HE4.out.keep hk (by simp)) (by have := (H1.out rfl).2.2.2.1; omega) HSZN.out
        have HIL : Hid (RightP n → own.length = needF n → ∀ wx, Keeps [] w4 wx → Calls Tryd.prog 58 #[.pointer (some ⟨b, 0, none⟩), .agg (u64s r).toArray, .agg (inoC n v), vo] wx fun e w' => ∃ t : Bool, e = .returned (.bool t) ∧ (t = true ↔ IsLaidP X r n own) ∧ Keeps [] wx w') := fun hR hN wx hk => by
          have h := isLaid_at (R := r) (((HSH.out.keep HKW2.out (by simp) (by simp)).keep HK4.out (by simp) (by simp)).keep hk (by simp) (by simp)) n v g HBN.out hR (HE4.out.keep hk (by simp)) vo go' own (HO4.out.keep hk (by simp)) hN (fun c hc => ((H1.out rfl).2.2.1 c hc).2) hr8
          rw [HXX.out] at h
          exact h
        have HZN : Hid (∀ wx, Keeps [] w4 wx → (loadVar 25 ⟨g8, 0, none⟩).run Tryd.prog wx = .ok (.agg (inoC n v)) wx) := HLN.out
        have HV1 : Hid (v.oneCell' = true) := by obtain ⟨a, c, rfl, -⟩ := HE4.out; rfl
        have HGOOD : Hid (∀ wz, Keeps [] w4 wz → ReadP X i n own → ∃ w', (storeVar 25 ⟨w.heap.size, 0, none⟩ (.agg (inoC n v))).run Tryd.prog wz = .ok () w' ∧ (loadVar 25 ⟨w.heap.size, 0, none⟩).run Tryd.prog w' = .ok (.agg (inoC n v)) w' ∧ Read2Post w X i (.returned (.tuple #[.agg (inoC n v), vo, .bool true])) w') := fun wz hk hrp => by
          obtain ⟨w', q1, q2, q3⟩ := store_whole (P := Tryd.prog) (ty := 25) (cs := inoL n v) (by rw [inoL_len, HBN.out]; exact size_ino) (((HB4.out.keep HK2.out (by simp)).keep HK4.out (by simp)).keep hk (by simp)) (by rw [hz18, inoL_len, HBN.out]) (inoL_one HV1.out)
          have hw2 := HKW2.out.size
          have hg := HG.out
          have hgo := HGO.out
          have hw0 := HK2.out.size
          refine ⟨w', q1, load_ino q2 HBN.out, n, v, g, own, vo, go', true, rfl, HBN.out, (HE4.out.keep hk (by simp)).keep q3 (fun _ => by rw [List.mem_singleton]; omega), by omega, (HO4.out.keep hk (by simp)).keep q3 (by rw [List.mem_singleton]; omega), by omega, (HKW2.out.trans' (HK4.out.trans' hk)).trans q3 (by intro x hx; rw [List.mem_singleton] at hx; omega), fun _ => ⟨hrp, (H1.out rfl).2⟩, fun h => by cases h⟩
        have HLR4 : Hid (∀ wx, Keeps [] w4 wx → (loadVar 63 ⟨g7, 0, none⟩).run Tryd.prog wx = .ok (.agg (u64s r).toArray) wx) := fun wx hk => HLR.out wx (HK4.out.trans' hk)
        obtain ⟨av, cv, hvo, -, -, -⟩ := ints_cellR HO4.out
        subst hvo
        generalize hzn : inoC n v = ZN at *
        clear hzn
        go_wp2_with (first | ((with_reducible show wpList _ _ _ (⟨_, .store 25 (.tmp 8) (.tmp 23), _, _, _, _⟩ :: _) _ _); refine wpList_store_any rfl 25 (.tmp 8) (.tmp 23) rfl _ rfl _ rfl _ HS4.out ?_) | ((with_reducible show wpList _ _ _ (⟨_, .load 25 (.tmp 8), _, _, _, _⟩ :: _) _ _); refine wpList_load_want rfl 25 (.tmp 8) rfl _ rfl _ (HLN.out _ (Keeps.refl _ _)) ?_))
        refine (HRT.out _ (Keeps.refl _ _)).mono ?_; rintro e w5 ⟨rfl, hk5⟩
        have HK5 := Lib.hid hk5
        clear hk5
        by_cases hR : RightP n
        · rw [decide_eq_true hR]
          have HRR := Lib.hid hR
          go_wp2_with (first | ((with_reducible show wpList _ _ _ (⟨_, .load 25 (.tmp 8), _, _, _, _⟩ :: _) _ _); refine wpList_load_want rfl 25 (.tmp 8) rfl _ rfl _ (HLN.out _ HK5.out) ?_))
          refine (HND.out _ HK5.out).mono ?_; rintro e w6 ⟨rfl, hk6⟩
          rw [if_pos hR]
          have HK6 := Lib.hid (HK5.out.trans' hk6)
          clear hk6 hR
          by_cases hN : own.length = needF n
          · have HNN := Lib.hid hN
            rw [← hN]
            clear hN
            go_wp2_with (first | ((with_reducible show wpList _ _ _ (⟨_, .load 25 (.tmp 8), _, _, _, _⟩ :: _) _ _); refine wpList_load_want rfl 25 (.tmp 8) rfl _ rfl _ (HLN.out _ HK6.out) ?_) | ((with_reducible show wpList _ _ _ (⟨_, .load 63 (.tmp 7), _, _, _, _⟩ :: _) _ _); refine wpList_load_want rfl 63 (.tmp 7) rfl _ rfl _ (HLR4.out _ HK6.out) ?_))
            refine (HIL.out HRR.out HNN.out _ HK6.out).mono ?_; rintro e w7 ⟨t, rfl, ht, hk7⟩
            have HK7 := Lib.hid (HK6.out.trans' hk7)
            have HT := Lib.hid ht
            clear hk7 ht
            cases t with
            | false =>
              obtain ⟨w9, hsb, hlb, hpb⟩ := HBAD.out w7 ((HK2.out.trans' HK4.out).trans' HK7.out) (fun n' own' h => by
                obtain ⟨rfl, rfl⟩ := HUN.out (by trivial) n' own' h
                have h1 := h.2.2.2.2.2
                rw [HRI.out] at h1
                have := HT.out.2 h1
                cases this)
              have HSB := Lib.hid hsb
              have HLB := Lib.hid hlb
              have HPB := Lib.hid hpb
              clear hsb hlb hpb HBAD H1 H2 HT
              go_wp2_with (first | ((with_reducible show wpList _ _ _ (⟨_, .store 25 (.tmp 4) (.tmp 53), _, _, _, _⟩ :: _) _ _); refine wpList_store_any rfl 25 (.tmp 4) (.tmp 53) rfl _ rfl _ rfl _ HSB.out ?_))
              exact bodyPost_ret (results_cell3 Tryd.results29 rfl HLB.out rfl rfl) rfl HPB.out
            | true =>
              obtain ⟨w9, hsb, hlb, hpb⟩ := HGOOD.out w7 HK7.out ⟨hi, by rw [HRI.out]; exact (H1.out (by trivial)).1, HFE.out, HRR.out, HNN.out, by rw [HRI.out]; exact HT.out.1 rfl⟩
              have HSB := Lib.hid hsb
              have HLB := Lib.hid hlb
              have HPB := Lib.hid hpb
              have HLN7 := Lib.hid (HLN.out _ HK7.out)
              clear hsb hlb hpb HBAD H1 H2 HT HGOOD
              go_wp2_with (first | ((with_reducible show wpList _ _ _ (⟨_, .load 25 (.tmp 8), _, _, _, _⟩ :: _) _ _); refine wpList_load_any rfl 25 (.tmp 8) rfl _ rfl _ HLN7.out ?_) | ((with_reducible show wpList _ _ _ (⟨_, .store 25 (.tmp 4) (.tmp 54), _, _, _, _⟩ :: _) _ _); refine wpList_store_any rfl 25 (.tmp 4) (.tmp 54) rfl _ rfl _ rfl _ HSB.out ?_))
              exact bodyPost_ret (results_cell3 Tryd.results29 rfl HLB.out rfl rfl) rfl HPB.out
          · have hN' : ((own.length : Int) == ((needF n : Nat) : Int)) = false := by simp; omega
            obtain ⟨w9, hsb, hlb, hpb⟩ := HBAD.out w6 ((HK2.out.trans' HK4.out).trans' HK6.out) (fun n' own' h => by obtain ⟨rfl, rfl⟩ := HUN.out (by trivial) n' own' h; exact hN h.2.2.2.2.1)
            have HSB := Lib.hid hsb
            have HLB := Lib.hid hlb
            have HPB := Lib.hid hpb
            clear hsb hlb hpb HBAD H1 H2
            go_wp2_with (first | ((with_reducible show wpList _ _ _ (⟨_, .store 25 (.tmp 4) (.tmp 53), _, _, _, _⟩ :: _) _ _); refine wpList_store_any rfl 25 (.tmp 4) (.tmp 53) rfl _ rfl _ rfl _ HSB.out ?_))
            exact bodyPost_ret (results_cell3 Tryd.results29 rfl HLB.out rfl rfl) rfl HPB.out
        · rw [decide_eq_false hR]
          obtain ⟨w9, hsb, hlb, hpb⟩ := HBAD.out w5 ((HK2.out.trans' HK4.out).trans' HK5.out) (fun n' own' h => by obtain ⟨rfl, rfl⟩ := HUN.out (by trivial) n' own' h; exact hR h.2.2.2.1)
          have HSB := Lib.hid hsb
          have HLB := Lib.hid hlb
          have HPB := Lib.hid hpb
          clear hsb hlb hpb HBAD H1 H2
          go_wp2_with (first | ((with_reducible show wpList _ _ _ (⟨_, .store 25 (.tmp 4) (.tmp 53), _, _, _, _⟩ :: _) _ _); refine wpList_store_any rfl 25 (.tmp 4) (.tmp 53) rfl _ rfl _ rfl _ HSB.out ?_))
          exact bodyPost_ret (results_cell3 Tryd.results29 rfl HLB.out rfl rfl) rfl HPB.out
      · have hF' : (n.F == 2) = false := by simpa using hF
        obtain ⟨w9, hsb, hlb, hpb⟩ := HBAD.out w4 (HK2.out.trans' HK4.out) (fun n' own' h => by obtain ⟨rfl, rfl⟩ := HUN.out (by trivial) n' own' h; exact hF h.2.2.1)
        have HSB := Lib.hid hsb
        have HLB := Lib.hid hlb
        have HPB := Lib.hid hpb
        clear hsb hlb hpb HBAD H1 H2
        go_wp2_with (first | ((with_reducible show wpList _ _ _ (⟨_, .store 25 (.tmp 8) (.tmp 23), _, _, _, _⟩ :: _) _ _); refine wpList_store_any rfl 25 (.tmp 8) (.tmp 23) rfl _ rfl _ rfl _ HS4.out ?_) | ((with_reducible show wpList _ _ _ (⟨_, .store 25 (.tmp 4) (.tmp 53), _, _, _, _⟩ :: _) _ _); refine wpList_store_any rfl 25 (.tmp 4) (.tmp 53) rfl _ rfl _ rfl _ HSB.out ?_))
        exact bodyPost_ret (results_cell3 Tryd.results29 rfl HLB.out rfl rfl) rfl HPB.out
  · have hin : inodeN i = -1 := by rw [inodeN, if_pos (by omega)]
    rw [hin] at HI
    obtain ⟨w9, hsb, hlb, hpb⟩ := HBAD.out W0 (Keeps.refl _ _) (fun n' own' h => hi h.1)
    rw [HW0.out] at hsb
    have HSB := Lib.hid hsb
    have HLB := Lib.hid hlb
    have HPB := Lib.hid hpb
    clear hsb hlb hpb HBAD
    go_enter Tryd.func29, Tryd.ntmps29
    go_wp2_with fail
    refine (HI.out _).mono ?_; rintro e wy ⟨rfl, rfl⟩
    go_wp2_with (first | ((with_reducible show wpList _ _ _ (⟨_, .store 25 (.tmp 4) (.tmp 14), _, _, _, _⟩ :: _) _ _); refine wpList_store_any rfl 25 (.tmp 4) (.tmp 14) rfl _ rfl _ rfl _ HSB.out ?_))
    exact bodyPost_ret (results_cell3 Tryd.results29 rfl HLB.out rfl rfl) rfl HPB.out

end Go.Proofs.YtmhcnkjmnbnldaaDoor

namespace Go.Proofs.YtmhcnkjmnbnldaaDoor
open Go.RowKit

/-- What Few leaves. -/
def FewPost (w : World) (n : Ino) (e : Ending) (w' : World) : Prop := (∃ b, e = .returned (.bool b) ∧ (b = true → n.E.length ≤ 40 ∧ ∀ k, k < n.E.length → (enm n.E k).size ≤ 50)) ∧ Keeps [] w w'

set_option maxRecDepth 100000 in
set_option maxHeartbeats 2000000 in
theorem refFew_at (n : Ino) (v : Value) (g : Nat) (hB : n.B.length = 13) (w : World) (hE : EReads w v g n.E) :
    Calls Tryd.prog 9 #[.agg (inoC n v)] w (FewPost w n) := by
  have HFP : Hid (∀ b w', (b = true → n.E.length ≤ 40 ∧ ∀ k, k < n.E.length → (enm n.E k).size ≤ 50) → Keeps [] w w' → FewPost w n (.returned (.bool b)) w') := fun b w' h hk => ⟨⟨b, rfl, h⟩, hk⟩
  obtain ⟨a, cap, rfl, hcap, hmax, HEC⟩ := hE.open
  have hat := inoAt (.slice a n.E.length cap) hB
  generalize inoC n (.slice a n.E.length cap) = Z at *
  have hb0 := Blk.new w Z 25
  have c17 : (w.alloc (.cells Z 25)).cell? ⟨w.heap.size, 17, none⟩ = some (.slice a n.E.length cap) := by rw [hb0.cell]; exact hat.f5
  have HK : Hid (Keeps [] w (w.alloc (.cells Z 25))) := (Keeps.refl [] w).alloc _
  unfold maxLen at hmax
  clear hb0 hat hB hE
  generalize hm : n.E.length = m at *
  clear hm
  go_enter Tryd.func9, Tryd.ntmps9
  go_wp2_with fail
  go_loopg [3] 50 (fun gh s3 wx => ∃ k : Nat, k + gh = 50 ∧ k ≤ m ∧ s3 = .int .i64 (k : Int) ∧ wx = w.alloc (.cells Z 25) ∧ Hid (∀ i, i < k → (enm n.E i).size ≤ 50))
  case atStart => exact ⟨0, by omega, by omega, rfl, rfl, by intro i hi; omega⟩
  case round =>
    obtain ⟨k, hk, hkm, rfl, rfl, HP⟩ := hrel
    by_cases hlt : k < m
    · have h1 : (k : Int) < (m : Int) := by omega
      cases gk with
      | zero =>
        have h50 : ¬ (k : Int) < 50 := by omega
        have h40 : ¬ (m : Int) ≤ 40 := by omega
        go_wp2_with fail
        go_ret
        exact HFP.out _ _ (fun h => (by cases h)) HK.out
      | succ gg =>
        have h50 : (k : Int) < 50 := by omega
        have hk0 : (0 : Int) ≤ (k : Int) := by omega
        obtain ⟨hg, off, rfl, e0, -⟩ := HEC.out k hlt
        have c0 : (w.alloc (.cells Z 25)).cell? ⟨g, off + k * 2, none⟩ = some (.string (enm n.E k)) := (World.cell?_of_block (w := w) (a := ⟨g, off + k * 2, none⟩) (HK.out.block g hg (by simp))).trans e0
        clear e0
        by_cases hs : 50 < (enm n.E k).size
        · have hs' : (50 : Int) < ((enm n.E k).size : Int) := by omega
          clear HEC HP
          generalize enm n.E k = nm at *
          go_wp2_with fail
          go_ret
          exact HFP.out _ _ (fun h => (by cases h)) HK.out
        · have hs' : ¬ (50 : Int) < ((enm n.E k).size : Int) := by omega
          have HP2 : Hid (∀ i, i < k + 1 → (enm n.E i).size ≤ 50) := fun i hi => by
            by_cases e : i = k
            · subst e; omega
            · exact HP.out i (by omega)
          clear HEC HP
          generalize enm n.E k = nm at *
          go_wp2_with fail
          go_roundg gg
          case measure => omega
          case rel => exact ⟨k + 1, by omega, by omega, by go_num, rfl, HP2⟩
    · have h1 : ¬ (k : Int) < (m : Int) := by omega
      obtain rfl : k = m := by omega
      have HQ := Lib.hid HP.out
      go_wp2_with fail
      go_ret
      exact HFP.out _ _ (fun h => ⟨by have := of_decide_eq_true h; omega, HQ.out⟩) HK.out

end Go.Proofs.YtmhcnkjmnbnldaaDoor

namespace Go.Proofs.YtmhcnkjmnbnldaaDoor
open Go.RowKit

set_option maxRecDepth 100000 in
set_option maxHeartbeats 4000000 in
theorem sames_at (l : List Nat) (v1 v2 : Value) (g1 g2 : Nat) (w : World) (h1 : Reads w v1 g1 (i64s l)) (h2 : Reads w v2 g2 (i64s l)) :
    Calls Tryd.prog 22 #[v1, v2] w fun e w' => e = .returned (.bool true) ∧ Keeps [] w w' := by
  obtain ⟨a1, c1, rfl, hc1, hm1, HE1⟩ := ints_cell h1
  obtain ⟨a2, c2, rfl, hc2, hm2, HE2⟩ := ints_cell h2
  unfold maxLen at hm1 hm2
  clear h1 h2
  generalize hm : l.length = m at *
  clear hm
  go_enter Tryd.func22, Tryd.ntmps22
  go_wp2_with fail
  go_loopg [5] m (fun gh s5 wx => ∃ k : Nat, k + gh = m ∧ s5 = .int .i64 (k : Int) ∧ Hid (Keeps [] w wx))
  case atStart => exact ⟨0, by omega, rfl, Keeps.refl _ _⟩
  case round =>
    obtain ⟨k, hk, rfl, HP⟩ := hrel
    cases gk with
    | zero =>
      obtain rfl : k = m := by omega
      go_wp2_with fail
      go_ret
      exact ⟨rfl, HP.out⟩
    | succ gg =>
      have hkm : k < m := by omega
      have hlt : (k : Int) < (m : Int) := by omega
      have hk0 : (0 : Int) ≤ (k : Int) := by omega
      obtain ⟨hgg1, off1, rfl, d1⟩ := HE1.out k hkm
      obtain ⟨hgg2, off2, rfl, d2⟩ := HE2.out k hkm
      have hcc : Hid (∀ wx, Keeps [] wr wx → wx.cell? ⟨g1, off1 + k, none⟩ = some (.int .i64 ((l.getD k 0 : Nat) : Int)) ∧ wx.cell? ⟨g2, off2 + k, none⟩ = some (.int .i64 ((l.getD k 0 : Nat) : Int))) := fun wx hk' =>
        ⟨(World.cell?_of_block ((HP.out.trans' hk').block g1 hgg1 (by simp))).trans d1, (World.cell?_of_block ((HP.out.trans' hk').block g2 hgg2 (by simp))).trans d2⟩
      clear d1 d2
      generalize ((l.getD k 0 : Nat) : Int) = x at *
      go_wp2_with fail
      refine wp_region_each (S := fun wx => Keeps [] wr wx) (by kernel_rfl) (by kernel_rfl) (fun d _ _ _ _ h => by cases d <;> exact h) ((Keeps.refl _ _).drew) (by kernel_rfl) ?_
      repeat (first
        | (refine EachList.cons (.int .i64 x) (EachIf.val rfl ?h) ?_; (case h => (intro wx hx; have hcq := hcc.out wx hx; have hq1 := hcq.1; have hq2 := hcq.2; clear hcq hx; go_simp; done)); simp only [Act.put, List.setIfInBounds_toArray, List.set_cons_zero, List.set_cons_succ])
        | (refine EachList.cons ?_ (EachIf.val rfl ?h) ?_; (case h => (intro wx hx; clear hx; go_simp; rfl)); simp only [Act.put, List.setIfInBounds_toArray, List.set_cons_zero, List.set_cons_succ]))
      refine EachList.done fun wx hx => ?_
      have HKX := Lib.hid (HP.out.trans' hx)
      clear hx
      go_wp2_with fail
      go_roundg gg
      case measure => omega
      case rel => exact ⟨k + 1, by omega, by go_num, HKX.out⟩

theorem freeTo_succ (X : List Int) (c : Nat) : freeTo X (c + 1) = if c ≠ 0 ∧ usedN X c = false then freeTo X c ++ [c] else freeTo X c := by
  unfold freeTo
  rw [List.range_succ, List.filter_append]
  by_cases h : c ≠ 0 ∧ usedN X c = false
  · rw [if_pos h]
    simp [h.1, h.2]
  · rw [if_neg h]
    have : (c != 0 && !usedN X c) = false := by
      cases hu : usedN X c
      · have : c = 0 := Classical.not_not.1 fun h0 => h ⟨h0, hu⟩
        simp [this]
      · simp
    simp [this]

theorem used_bits (ws : List Nat) (c : Nat) (hc : c < 256) : (bitsB ws 256).getD c false = usedN (laidX ws 4 1080) c := by
  rw [bitsB_get _ _ _ hc, if_pos hc, usedN, bw, laidX_get _ _ _ _ (by omega), if_pos (by omega), Int.toNat_natCast, Nat.add_sub_cancel_left]

/-- What Free leaves. -/
def FreePost (w : World) (l : List Nat) (e : Ending) (w' : World) : Prop :=
  ∃ v g, e = .returned v ∧ Reads w' v g (i64s l) ∧ w.heap.size ≤ g ∧ Keeps [] w w'

set_option maxRecDepth 100000 in
set_option maxHeartbeats 4000000 in
theorem refFree_at (ws : List Nat) (v : Value) (g : Nat) (w : World) (h : Owns w v g 4 1 256 (bools (bitsB ws 256))) :
    Calls Tryd.prog 17 #[v] w (FreePost w (freeL (laidX ws 4 1080))) := by
  obtain ⟨⟨cap, rfl, hcap, hmax⟩, -, -⟩ := bools_getO h (bitsB_len _ _) (j := 0) (by omega)
  have hg : g < w.heap.size := by
    obtain ⟨h1, -⟩ := h.cell (by omega)
    exact h1
  have HC : Hid (∀ wx, Keeps [] w wx → ∀ c, c < 256 → wx.cell? ⟨g, c, none⟩ = some (.bool (usedN (laidX ws 4 1080) c))) := fun wx hk c hc => by
    rw [World.cell?_of_block (hk.block g hg (by simp)), (bools_getO h (bitsB_len _ _) hc).2.1, used_bits ws c hc]
  unfold maxLen at hmax
  obtain ⟨i0, hi, hz0, hz1, hz2⟩ := info_parts Tryd.info_int
  clear h
  have HLEN : Hid (∀ c, c ≤ 256 → (freeTo (laidX ws 4 1080) c).length ≤ 256) := fun c hc => by
    have := List.length_filter_le (fun b => b != 0 && !usedN (laidX ws 4 1080) b) (List.range c)
    rw [List.length_range] at this
    unfold freeTo
    omega
  generalize laidX ws 4 1080 = X at *
  go_enter Tryd.func17, Tryd.ntmps17
  go_wp2_with fail
  go_loopg [3, 4] 255 (fun gh s3 s4 wx => ∃ c : Nat, c + gh = 256 ∧ 1 ≤ c ∧ s4 = .int .i64 (c : Int) ∧ Hid (wx.ownsRow w.heap.size 3 1 s3 (freeTo X c).length (i64s (freeTo X c)) ∧ Keeps [] w wx))
  case atStart =>
    have e : freeTo X 1 = [] := by rw [show (1 : Nat) = 0 + 1 from rfl, freeTo_succ, if_neg (by simp)]; rfl
    refine ⟨1, by omega, by omega, rfl, ?_, Keeps.refl _ _⟩
    rw [e]
    exact ⟨by simp [i64s], .inl ⟨rfl, by simp⟩⟩
  case round =>
    obtain ⟨c, hc, hc1, rfl, HP⟩ := hrel
    cases gk with
    | zero =>
      obtain rfl : c = 256 := by omega
      have HFIN : Hid (FreePost w (freeL X) (.returned u3) wr) := by
        obtain ⟨hown, hkp⟩ := HP.out
        obtain ⟨g', ho, hg'⟩ := Owns.of_row hown
        have hr := ho.reads
        by_cases h0 : (freeTo X 256).length = 0
        · obtain ⟨a, cap', e1, e2, e3, -⟩ := hr
          refine ⟨u3, w.heap.size, rfl, ⟨a, cap', e1, e2, e3, fun h => absurd ?_ h⟩, Nat.le_refl _, hkp⟩
          rw [show freeL X = [] from List.eq_nil_of_length_eq_zero h0]
          rfl
        · exact ⟨u3, g', rfl, hr, (hg' h0).1, hkp⟩
      clear HP
      go_wp2_with fail
      go_ret
      exact HFIN.out
    | succ gg =>
      have hlt : (c : Int) < 256 := by omega
      have hc0 : (0 : Int) ≤ (c : Int) := by omega
      have hcell := HC.out wr HP.out.2 c (by omega)
      have HS := Lib.hid (freeTo_succ X c)
      have hl256 := HLEN.out c (by omega)
      have hz := HP.out.2.size
      cases hu : usedN X c
      · have HS2 : Hid (freeTo X (c + 1) = freeTo X c ++ [c]) := by
          have := HS.out
          rwa [if_pos ⟨by omega, hu⟩] at this
        rw [hu] at hcell
        obtain ⟨a, cap', rfl, q1, q2⟩ := ownsRow_val HP.out.1
        have HOWN := Lib.hid HP.out.1
        have HKP := Lib.hid HP.out.2
        have HI : Hid (i64s (freeTo X (c + 1)) = i64s (freeTo X c) ++ [.int .i64 (c : Int)]) := by
          show _ = _
          rw [HS2.out, i64s_append]
          rfl
        have HLL : Hid ((freeTo X (c + 1)).length = (freeTo X c).length + 1) := by show _ = _; rw [HS2.out]; simp
        clear HP HS HS2 hu
        generalize (freeTo X c).length = q at *
        go_wp2_with (at_builtin; refine wpList_append_own _ rfl _ _ 34 rfl w.heap.size 3 i0 (.int .i64 0) 1 8 Tryd.underlying34 hi hz0 hz1 hz2 rfl (by decide) (.slice a q cap') q _ rfl (HOWN.out.alloc _) ⟨wr.heap.size, 0, none⟩ 1 1 [.int .i64 (c : Int)] rfl rfl ?c1 ?c2 (by unfold maxLen; omega) (by omega) (by simp; omega) ?_)
        case c1 => exact new_cells _ [_] _ _ rfl
        case c2 => simp [Value.oneCell']
        intro v' w1 hown1 hgrow hnil
        have HO1 := Lib.hid hown1
        have HK1 := Lib.hid ((HKP.out.alloc _).grown hgrow (ownsRow_block HOWN.out))
        clear hown1 hgrow hnil
        go_wp2_with fail
        go_roundg gg
        case measure => omega
        case rel =>
          refine ⟨c + 1, by omega, by omega, by go_num, ?_, HK1.out⟩
          rw [HLL.out, HI.out]
          exact HO1.out
      · have HS2 : Hid (freeTo X (c + 1) = freeTo X c) := by
          have := HS.out
          rwa [if_neg (by simp [hu])] at this
        rw [hu] at hcell
        clear HS hu
        go_wp2_with fail
        go_roundg gg
        case measure => omega
        case rel => exact ⟨c + 1, by omega, by omega, by go_num, by rw [HS2.out]; exact HP.out⟩

end Go.Proofs.YtmhcnkjmnbnldaaDoor

namespace Go.Proofs.YtmhcnkjmnbnldaaDoor
open Go.RowKit

/-- What the reference asks of each number. -/
def NumR (n : Ino) (k : Nat) : Prop := (0 ≤ n.B.getD k 0 ∧ n.B.getD k 0 ≤ 255) ∧ (0 < n.B.getD k 0 → n.K ≠ 2 ∧ 64 * (k : Int) < n.S ∧ ∀ j, j < k → n.B.getD j 0 ≠ n.B.getD k 0)

theorem right_num {n : Ino} (hB : n.B.length = 13) (h : RightP n) : ∀ k, k < 13 → NumR n k := by
  intro k hk
  rcases h.2.2 with ⟨hK, h1, h2, h3, h4⟩ | ⟨hK, h1, h2, h3, h4⟩
  · have h5 := h4 k hk
    refine ⟨by omega, fun h0 => ⟨by omega, ?_, fun j hj => h5.2 (by omega) j hj⟩⟩
    rcases Nat.lt_or_ge k (partsN n.S.toNat) with hp | hp
    · unfold partsN at hp; omega
    · have hp13 : partsN n.S.toNat ≤ 13 := by unfold partsN; omega
      rw [h3, uptoL_get hB hp13, if_neg (by omega)] at h0
      omega
  · have e : n.B.getD k 0 = 0 := by
      rw [h3, List.getD_eq_getElem?_getD, List.getElem?_replicate]
      split <;> rfl
    exact ⟨by omega, fun h0 => by omega⟩

theorem num_file {n : Ino} (hB : n.B.length = 13) (hF : n.F = 1 ∨ n.F = 2) (hL : 0 ≤ n.L ∧ n.L ≤ 65535) (hK : n.K = 1) (h : ∀ k, k < 13 → NumR n k) : RightP n ↔ (0 ≤ n.S ∧ n.S ≤ 832 ∧ n.E.length = 0) := by
  constructor
  · intro hr
    rcases hr.2.2 with ⟨_, h1, h2, h3, h4⟩ | ⟨hK', _⟩
    · exact ⟨h1.1, h1.2, h2⟩
    · omega
  · rintro ⟨h1, h2, h3⟩
    have hp13 : partsN n.S.toNat ≤ 13 := by unfold partsN; omega
    refine ⟨hF, hL, .inl ⟨hK, ⟨h1, h2⟩, h3, z_ext (by rw [hB, uptoL_len hB hp13]) fun k hk => ?_, fun k hk => ?_⟩⟩
    · rw [hB] at hk
      rw [uptoL_get hB hp13]
      split
      · rfl
      · rename_i hp
        have h5 := h k hk
        rcases Int.lt_or_le 0 (n.B.getD k 0) with h0 | h0
        · have := (h5.2 h0).2.1
          unfold partsN at hp
          omega
        · have := h5.1.1
          omega
    · have h5 := h k hk
      refine ⟨⟨h5.1.1, by have := h5.1.2; omega⟩, fun h0 => (h5.2 (by have := h5.1.1; omega)).2.2⟩

theorem num_dir {n : Ino} (hB : n.B.length = 13) (hF : n.F = 1 ∨ n.F = 2) (hL : 0 ≤ n.L ∧ n.L ≤ 65535) (hK : n.K = 2) (h : ∀ k, k < 13 → NumR n k) : RightP n ↔ (n.E.length ≤ 24 ∧ n.S = n.E.length) ∧ ∀ k, k < n.E.length → EntP n.E k := by
  constructor
  · intro hr
    rcases hr.2.2 with ⟨hK', _⟩ | ⟨_, h1, h2, h3, h4⟩
    · omega
    · exact ⟨⟨h1, h2⟩, h4⟩
  · rintro ⟨⟨h1, h2⟩, h3⟩
    refine ⟨hF, hL, .inr ⟨hK, h1, h2, z_ext (by rw [hB]; rfl) fun k hk => ?_, h3⟩⟩
    rw [hB] at hk
    have h5 := h k hk
    have e : (List.replicate 13 (0 : Int)).getD k 0 = 0 := by
      rw [List.getD_eq_getElem?_getD, List.getElem?_replicate]
      split <;> rfl
    rw [e]
    rcases Int.lt_or_le 0 (n.B.getD k 0) with h0 | h0
    · exact absurd hK (h5.2 h0).1
    · have := h5.1.1
      omega

set_option maxRecDepth 100000 in
set_option maxHeartbeats 8000000 in
theorem refRight_at (n : Ino) (v : Value) (g : Nat) (hB : n.B.length = 13) (w : World) (hE : EReads w v g n.E) (hN : ∀ k, k < n.E.length → (enm n.E k).size ≤ 9223372036854775807) :
    Calls Tryd.prog 15 #[.agg (inoC n v)] w fun e w' => e = .returned (.bool (decide (RightP n))) ∧ Keeps [] w w' := by
  obtain ⟨a, cap, rfl, hcap, hmax, HEC⟩ := hE.open
  have HN := Lib.hid hN
  unfold maxLen at hmax
  obtain ⟨Z, hZ⟩ : ∃ Z, Z = inoC n (.slice a n.E.length cap) := ⟨_, rfl⟩
  have hat : InoAt Z n (.slice a n.E.length cap) := by rw [hZ]; exact inoAt _ hB
  rw [← hZ]
  have hb0 := Blk.new w Z 25
  have c0 : (w.alloc (.cells Z 25)).cell? ⟨w.heap.size, 0, none⟩ = some (.int .i64 n.F) := by rw [hb0.cell]; exact hat.f0
  have c1 : (w.alloc (.cells Z 25)).cell? ⟨w.heap.size, 1, none⟩ = some (.int .i64 n.K) := by rw [hb0.cell]; exact hat.f1
  have c2 : (w.alloc (.cells Z 25)).cell? ⟨w.heap.size, 2, none⟩ = some (.int .i64 n.L) := by rw [hb0.cell]; exact hat.f2
  have c3 : (w.alloc (.cells Z 25)).cell? ⟨w.heap.size, 3, none⟩ = some (.int .i64 n.S) := by rw [hb0.cell]; exact hat.f3
  have c17 : (w.alloc (.cells Z 25)).cell? ⟨w.heap.size, 17, none⟩ = some (.slice a n.E.length cap) := by rw [hb0.cell]; exact hat.f5
  have HCB : Hid (∀ k, k < 13 → (w.alloc (.cells Z 25)).cell? ⟨w.heap.size, 4 + k, none⟩ = some (.int .i64 (n.B.getD k 0))) := fun k hk => by rw [hb0.cell]; exact hat.f4 k hk
  have HK : Hid (Keeps [] w (w.alloc (.cells Z 25))) := (Keeps.refl [] w).alloc _
  have HB0 := Lib.hid hb0
  have H3 := Lib.hid hat.f3
  have H17 := Lib.hid hat.f5
  have HR := Lib.hid (right_num hB)
  have HRP : Hid (RightP n → (n.F = 1 ∨ n.F = 2) ∧ (n.K = 1 ∨ n.K = 2) ∧ 0 ≤ n.L ∧ n.L ≤ 65535) := fun h => ⟨h.1, h.2.2.imp (·.1) (·.1), h.2.1⟩
  have HNF := Lib.hid (num_file hB)
  have HND := Lib.hid (num_dir hB)
  have HNR : Hid (∀ k, NumR n k ↔ (0 ≤ n.B.getD k 0 ∧ n.B.getD k 0 ≤ 255) ∧ (0 < n.B.getD k 0 → n.K ≠ 2 ∧ 64 * (k : Int) < n.S ∧ ∀ j, j < k → n.B.getD j 0 ≠ n.B.getD k 0)) := fun _ => Iff.rfl
  clear hb0 hat hZ hB hE hN
  generalize hfe : n.F = f at *
  generalize hke : n.K = kd at *
  generalize hle : n.L = lk at *
  generalize hse : n.S = sz at *
  generalize hme : n.E.length = m at *
  clear hfe hke hle hse hme
  by_cases f1 : f < 1
  · have HF : Hid (decide (RightP n) = false) := decide_eq_false fun h => by have := HRP.out h; omega
    clear HRP HNF HND HNR HR HEC HN HCB
    go_enter Tryd.func15, Tryd.ntmps15
    go_wp2_with fail
    go_ret
    exact ⟨by rw [HF.out]; rfl, HK.out⟩
  · skip
    by_cases f2 : 2 < f
    · have HF : Hid (decide (RightP n) = false) := decide_eq_false fun h => by have := HRP.out h; omega
      clear HRP HNF HND HNR HR HEC HN HCB
      go_enter Tryd.func15, Tryd.ntmps15
      go_wp2_with fail
      go_ret
      exact ⟨by rw [HF.out]; rfl, HK.out⟩
    · skip
      by_cases k1 : kd < 1
      · have HF : Hid (decide (RightP n) = false) := decide_eq_false fun h => by have := HRP.out h; omega
        clear HRP HNF HND HNR HR HEC HN HCB
        go_enter Tryd.func15, Tryd.ntmps15
        go_wp2_with fail
        go_ret
        exact ⟨by rw [HF.out]; rfl, HK.out⟩
      · skip
        by_cases k2 : 2 < kd
        · have HF : Hid (decide (RightP n) = false) := decide_eq_false fun h => by have := HRP.out h; omega
          clear HRP HNF HND HNR HR HEC HN HCB
          go_enter Tryd.func15, Tryd.ntmps15
          go_wp2_with fail
          go_ret
          exact ⟨by rw [HF.out]; rfl, HK.out⟩
        · skip
          by_cases l1 : lk < 0
          · have HF : Hid (decide (RightP n) = false) := decide_eq_false fun h => by have := HRP.out h; omega
            clear HRP HNF HND HNR HR HEC HN HCB
            go_enter Tryd.func15, Tryd.ntmps15
            go_wp2_with fail
            go_ret
            exact ⟨by rw [HF.out]; rfl, HK.out⟩
          · skip
            by_cases l2 : 65535 < lk
            · have HF : Hid (decide (RightP n) = false) := decide_eq_false fun h => by have := HRP.out h; omega
              clear HRP HNF HND HNR HR HEC HN HCB
              go_enter Tryd.func15, Tryd.ntmps15
              go_wp2_with fail
              go_ret
              exact ⟨by rw [HF.out]; rfl, HK.out⟩
            · skip
              have hfo : f = 1 ∨ f = 2 := by omega
              have hlo : 0 ≤ lk ∧ lk ≤ 65535 := by omega
              have HNF' : Hid (kd = 1 → (∀ k, k < 13 → NumR n k) → (RightP n ↔ (0 ≤ sz ∧ sz ≤ 832 ∧ m = 0))) := HNF.out hfo hlo
              have HND' : Hid (kd = 2 → (∀ k, k < 13 → NumR n k) → (RightP n ↔ (m ≤ 24 ∧ sz = m) ∧ ∀ k, k < m → EntP n.E k)) := HND.out hfo hlo
              have HKD : Hid (kd = 1 ∨ kd = 2) := by show _ ∨ _; omega
              clear HRP HNF HND hfo hlo
              go_enter Tryd.func15, Tryd.ntmps15
              go_wp2_with fail
              clear c0 c2 f1 f2 k1 k2 l1 l2
              go_loopg [3] 13 (fun gh s3 wx => ∃ k : Nat, k + gh = 13 ∧ s3 = .int .i64 (k : Int) ∧ wx = (w.alloc (.cells Z 25)) ∧ Hid (∀ i, i < k → NumR n i))
              case atStart => exact ⟨0, by omega, rfl, rfl, by intro i hi; omega⟩
              case round =>
                obtain ⟨k, hk, rfl, rfl, HP⟩ := hrel
                cases gk with
                | succ gg =>
                  have hk13 : k < 13 := by omega
                  have hlt : (k : Int) < 13 := by omega
                  have hk0 : (0 : Int) ≤ (k : Int) := by omega
                  have hcb := HCB.out k hk13
                  have hw64 : wrap64 (64 * (k : Int)) = 64 * (k : Int) := by unfold wrap64; omega
                  have HNO : Hid (¬ NumR n k → decide (RightP n) = false) := fun h => decide_eq_false fun hr => h (HR.out hr k hk13)
                  have HNK := Lib.hid (HNR.out k)
                  generalize hx : n.B.getD k 0 = x at *
                  by_cases x0 : x < 0
                  · have HF : Hid (decide (RightP n) = false) := HNO.out fun h => by have := HNK.out.1 h; omega
                    clear HNO HNK HNR HNF' HND' HR HEC HN HP hk
                    go_wp2_with fail
                    go_ret
                    exact ⟨by rw [HF.out]; rfl, HK.out⟩
                  · by_cases x1 : 255 < x
                    · have HF : Hid (decide (RightP n) = false) := HNO.out fun h => by have := HNK.out.1 h; omega
                      clear HNO HNK HNR HNF' HND' HR HEC HN HP hk
                      go_wp2_with fail
                      go_ret
                      exact ⟨by rw [HF.out]; rfl, HK.out⟩
                    · by_cases x2 : 0 < x
                      · by_cases x3 : kd = 2
                        · have HF : Hid (decide (RightP n) = false) := HNO.out fun h => (HNK.out.1 h).2 x2 |>.1 x3
                          subst x3
                          clear HNO HNK HNR HNF' HND' HR HEC HN HP hk
                          go_wp2_with fail
                          go_ret
                          exact ⟨by rw [HF.out]; rfl, HK.out⟩
                        · have x3' : (kd == 2) = false := by simpa using x3
                          by_cases x4 : sz ≤ 64 * (k : Int)
                          · have HF : Hid (decide (RightP n) = false) := HNO.out fun h => by have := ((HNK.out.1 h).2 x2).2.1; omega
                            clear HNO HNK HNR HNF' HND' HR HEC HN HP hk
                            go_wp2_with fail
                            go_ret
                            exact ⟨by rw [HF.out]; rfl, HK.out⟩
                          · have HSTEP : Hid ((∀ j, j < k → n.B.getD j 0 ≠ x) → ∀ i, i < k + 1 → NumR n i) := fun h i hi => by
                              by_cases e : i = k
                              · subst e; exact HNK.out.2 ⟨by omega, fun _ => ⟨x3, by omega, h⟩⟩
                              · exact HP.out i (by omega)
                            have HNE : Hid (∀ j, j < k → n.B.getD j 0 = x → decide (RightP n) = false) := fun j hj he => HNO.out fun h => ((HNK.out.1 h).2 x2).2.2 j hj he
                            clear HNO HNK HP
                            go_wp2_with fail
                            go_loopg [5] k (fun gh s5 wx => ∃ j : Nat, j + gh = k ∧ s5 = .int .i64 (j : Int) ∧ wx = (w.alloc (.cells Z 25)) ∧ Hid (∀ i, i < j → n.B.getD i 0 ≠ x))
                            case atStart => exact ⟨0, by omega, rfl, rfl, by intro i hi; omega⟩
                            case round =>
                              obtain ⟨j, hj, rfl, rfl, HQ⟩ := hrel
                              cases gk with
                              | zero =>
                                obtain rfl : j = k := by omega
                                have HNX := Lib.hid (HSTEP.out HQ.out)
                                clear HSTEP HNE HQ hj hw64 x3' x4
                                go_wp2_with fail
                                go_roundg gg
                                case measure => omega
                                case rel => exact ⟨j + 1, by omega, by go_num, rfl, HNX.out⟩
                              | succ g2 =>
                                have hjk : (j : Int) < (k : Int) := by omega
                                have hj0 : (0 : Int) ≤ (j : Int) := by omega
                                have hj13 : (j : Int) < 13 := by omega
                                have hcj := HCB.out j (by omega)
                                generalize hy : n.B.getD j 0 = y at *
                                by_cases e : y = x
                                · have HF := Lib.hid (HNE.out j (by omega) (by rw [hy, e]))
                                  subst e
                                  clear HSTEP HNE HQ HNR HNF' HND' HR HEC HN hj hk
                                  go_wp2_with fail
                                  go_ret
                                  exact ⟨by rw [HF.out]; rfl, HK.out⟩
                                · have e' : (y == x) = false := by simpa using e
                                  have HQ2 : Hid (∀ i, i < j + 1 → n.B.getD i 0 ≠ x) := fun i hi => by
                                    by_cases e2 : i = j
                                    · subst e2; rw [hy]; exact e
                                    · exact HQ.out i (by omega)
                                  clear HQ HSTEP
                                  go_wp2_with fail
                                  go_roundg g2
                                  case measure => omega
                                  case rel => exact ⟨j + 1, by omega, by go_num, rfl, HQ2.out⟩
                      · obtain rfl : x = 0 := by omega
                        have HNX : Hid (∀ i, i < k + 1 → NumR n i) := fun i hi => by
                          by_cases e : i = k
                          · subst e; exact HNK.out.2 ⟨by omega, fun h => by omega⟩
                          · exact HP.out i (by omega)
                        clear HNO HNK HP x0 x1 x2
                        go_wp2_with fail
                        go_loopg [5] k (fun gh s5 wx => ∃ j : Nat, j + gh = k ∧ s5 = .int .i64 (j : Int) ∧ wx = (w.alloc (.cells Z 25)))
                        case atStart => exact ⟨0, by omega, rfl, rfl⟩
                        case round =>
                          obtain ⟨j, hj, rfl, rfl⟩ := hrel
                          cases gk with
                          | zero =>
                            obtain rfl : j = k := by omega
                            clear hj
                            go_wp2_with fail
                            go_roundg gg
                            case measure => omega
                            case rel => exact ⟨j + 1, by omega, by go_num, rfl, HNX.out⟩
                          | succ g2 =>
                            have hjk : (j : Int) < (k : Int) := by omega
                            have hj0 : (0 : Int) ≤ (j : Int) := by omega
                            clear HNX
                            go_wp2_with fail
                            go_roundg g2
                            case measure => omega
                            case rel => exact ⟨j + 1, by omega, by go_num, rfl⟩
                | zero =>
                  obtain rfl : k = 13 := by omega
                  clear hk HR HNR HCB
                  rcases HKD.out with rfl | rfl
                  · have HD := Lib.hid (HNF'.out rfl HP.out)
                    clear HNF' HND' HP HKD HEC HN
                    by_cases s1 : sz < 0
                    · have HF : Hid (decide (RightP n) = false) := decide_eq_false fun h => by have := HD.out.1 h; omega
                      clear HD
                      go_wp2_with fail
                      go_ret
                      exact ⟨by rw [HF.out]; rfl, HK.out⟩
                    · by_cases s2 : 832 < sz
                      · have HF : Hid (decide (RightP n) = false) := decide_eq_false fun h => by have := HD.out.1 h; omega
                        clear HD
                        go_wp2_with fail
                        go_ret
                        exact ⟨by rw [HF.out]; rfl, HK.out⟩
                      · by_cases s3 : m = 0
                        · have HF : Hid (decide (RightP n) = true) := decide_eq_true (HD.out.2 ⟨by omega, by omega, s3⟩)
                          subst s3
                          clear HD
                          go_wp2_with fail
                          go_ret
                          exact ⟨by rw [HF.out]; rfl, HK.out⟩
                        · have HF : Hid (decide (RightP n) = false) := decide_eq_false fun h => by have := HD.out.1 h; omega
                          have s3' : ((m : Int) == 0) = false := by simp; omega
                          clear HD
                          go_wp2_with fail
                          go_ret
                          exact ⟨by rw [HF.out]; rfl, HK.out⟩
                  · have HD := Lib.hid (HND'.out rfl HP.out)
                    clear HNF' HND' HP HKD
                    go_wp2_with fail
                    clear c1 c3 c17
                    go_loopg [6] m (fun gh s6 wx => ∃ k : Nat, k + gh = m ∧ s6 = .int .i64 (k : Int) ∧ Hid ((∀ i, i < k → EntP n.E i) ∧ Keeps [] (w.alloc (.cells Z 25)) wx))
                    case atStart => exact ⟨0, by omega, rfl, by simp, Keeps.refl _ _⟩
                    case round =>
                      obtain ⟨k, hk, rfl, HR⟩ := hrel
                      have hbr := HB0.out.keep HR.out.2 (by simp)
                      have c17 : wr.cell? ⟨w.heap.size, 17, none⟩ = some (.slice a m cap) := by rw [hbr.cell]; exact H17.out
                      have c3 : wr.cell? ⟨w.heap.size, 3, none⟩ = some (.int .i64 sz) := by rw [hbr.cell]; exact H3.out
                      cases gk with
                      | zero =>
                        obtain rfl : k = m := by omega
                        have HKP := Lib.hid (HK.out.trans' HR.out.2)
                        have HD2 : Hid (RightP n ↔ (k ≤ 24 ∧ sz = k)) := by
                          show _ ↔ _
                          rw [HD.out]
                          exact ⟨fun h => h.1, fun h => ⟨h, HR.out.1⟩⟩
                        clear HR hk HD hbr HEC HN
                        by_cases s1 : 24 < k
                        · have HF : Hid (decide (RightP n) = false) := decide_eq_false fun h => by have := HD2.out.1 h; omega
                          clear HD2
                          go_wp2_with fail
                          go_ret
                          exact ⟨by rw [HF.out]; rfl, HKP.out⟩
                        · by_cases s2 : sz = k
                          · have HF : Hid (decide (RightP n) = true) := decide_eq_true (HD2.out.2 ⟨by omega, s2⟩)
                            have s2' : (sz == (k : Int)) = true := by simpa using s2
                            clear HD2 s2
                            go_wp2_with fail
                            go_ret
                            exact ⟨by rw [HF.out]; rfl, HKP.out⟩
                          · have HF : Hid (decide (RightP n) = false) := decide_eq_false fun h => s2 (HD2.out.1 h).2
                            have s2' : (sz == (k : Int)) = false := by simpa using s2
                            clear HD2
                            go_wp2_with fail
                            go_ret
                            exact ⟨by rw [HF.out]; rfl, HKP.out⟩
                      | succ gg =>
                        clear hbr c3
                        have hkm : k < m := by omega
                        have hlt : (k : Int) < (m : Int) := by omega
                        have hk0 : (0 : Int) ≤ (k : Int) := by omega
                        obtain ⟨hg, off, rfl, e0, e1⟩ := HEC.out k hkm
                        have hkw := HK.out.trans' HR.out.2
                        have HLE : Hid ((loadVar 57 ⟨g, off + k * 2, none⟩).run Tryd.prog wr = .ok (.agg #[.string (enm n.E k), .int .i64 (eno n.E k)]) wr) := load_entry ((World.cell?_of_block (hkw.block g hg (by simp))).trans e0) ((World.cell?_of_block (hkw.block g hg (by simp))).trans e1)
                        have HG := Lib.hid (fun wx => refGood_at (enm n.E k) (HN.out k hkm) wx)
                        have HEP : Hid (EntP n.E k ↔ goodN (bl (enm n.E k)) = true ∧ (0 ≤ eno n.E k ∧ eno n.E k ≤ 31) ∧ (0 < k → leB (enm n.E k) (enm n.E (k - 1)) = false)) := Iff.rfl
                        have HNO : Hid (¬ EntP n.E k → decide (RightP n) = false) := fun h => decide_eq_false fun hd => h ((HD.out.1 hd).2 k hkm)
                        have HKW := Lib.hid hkw
                        have HPRE := Lib.hid HR.out.1
                        have HKR := Lib.hid HR.out.2
                        have HPV : Hid (∀ q, k = q + 1 → wr.cell? ⟨g, off + q * 2, none⟩ = some (.string (enm n.E q))) := fun q hq => by
                          obtain ⟨-, off', ho', f0, -⟩ := HEC.out q (by omega)
                          cases ho'
                          exact (World.cell?_of_block (w := w) (a := ⟨g, off + q * 2, none⟩) (hkw.block g hg (by simp))).trans f0
                        have hza : ∀ w : World, (zeroValue 57).run Tryd.prog w = .ok (.agg #[.string ⟨#[]⟩, .int .i64 0]) w := fun w => by kernel_rfl
                        clear hkw e0 e1 HEC HR HD
                        generalize hnm : enm n.E k = nm at *
                        generalize eno n.E k = ino at *
                        go_wp2_with ((with_reducible show wpList _ _ _ (⟨_, .load 57 (.tmp 108), _, _, _, _⟩ :: _) _ _); refine wpList_load_any rfl 57 (.tmp 108) rfl _ rfl _ HLE.out ?_)
                        cases hgd : goodN (bl nm)
                        · have HF : Hid (decide (RightP n) = false) := HNO.out fun h => by have := (HEP.out.1 h).1; rw [hgd] at this; cases this
                          rw [hgd] at HG
                          clear HEP HNO hgd hk HPV HPRE HKR HN
                          refine wp_region_each (S := fun wx => wx = _) (by kernel_rfl) (by kernel_rfl) (fun d _ _ _ _ h => by cases d <;> exact h) rfl (by kernel_rfl) ?_
                          repeat (first
                            | (refine EachList.cons (.bool false) (EachIf.call rfl 46 #[.string nm] ?he ?h) ?_; (case he => (intro wz; go_simp)); (case h => exact fun wx hx => (HG.out wx).mono fun e w' he => ⟨he.1, he.2 ▸ hx⟩); simp only [Act.put, List.setIfInBounds_toArray, List.set_cons_zero, List.set_cons_succ])
                            | (refine EachList.cons undef (EachIf.off rfl) ?_; simp only [Act.put, List.setIfInBounds_toArray, List.set_cons_zero, List.set_cons_succ])
                            | ((with_reducible show EachList _ _ _ _ (⟨_, _, 4, _, _, _⟩ :: _) _); refine EachList.cons (.bool true) (EachIf.val rfl ?h) ?_; (case h => (intro wx hx; subst hx; first | (go_simp; done) | (go_simp; simp [*]; done))); simp only [Act.put, List.setIfInBounds_toArray, List.set_cons_zero, List.set_cons_succ])
                            | ((with_reducible show EachList _ _ _ _ (⟨_, _, 4, _, _, _⟩ :: _) _); refine EachList.cons (.bool false) (EachIf.val rfl ?h) ?_; (case h => (intro wx hx; subst hx; first | (go_simp; done) | (go_simp; simp [*]; done))); simp only [Act.put, List.setIfInBounds_toArray, List.set_cons_zero, List.set_cons_succ])
                            | (refine EachList.cons ?_ (EachIf.val rfl ?h) ?_; (case h => (intro wx hx; subst hx; go_simp; rfl)); simp only [Act.put, List.setIfInBounds_toArray, List.set_cons_zero, List.set_cons_succ]))
                          refine EachList.done fun wx hx => ?_
                          subst hx
                          go_wp2_with fail
                          go_ret
                          exact ⟨by rw [HF.out]; rfl, (HKW.out.alloc _).drew⟩
                        · rw [hgd] at HG
                          by_cases hi0 : ino < 0
                          · have HF : Hid (decide (RightP n) = false) := HNO.out fun h => by have := (HEP.out.1 h).2.1.1; omega
                            clear HEP HNO hgd hk HPV HPRE HKR HN
                            refine wp_region_each (S := fun wx => wx = _) (by kernel_rfl) (by kernel_rfl) (fun d _ _ _ _ h => by cases d <;> exact h) rfl (by kernel_rfl) ?_
                            repeat (first
                              | (refine EachList.cons (.bool true) (EachIf.call rfl 46 #[.string nm] ?he ?h) ?_; (case he => (intro wz; go_simp)); (case h => exact fun wx hx => (HG.out wx).mono fun e w' he => ⟨he.1, he.2 ▸ hx⟩); simp only [Act.put, List.setIfInBounds_toArray, List.set_cons_zero, List.set_cons_succ])
                              | (refine EachList.cons undef (EachIf.off rfl) ?_; simp only [Act.put, List.setIfInBounds_toArray, List.set_cons_zero, List.set_cons_succ])
                              | ((with_reducible show EachList _ _ _ _ (⟨_, _, 4, _, _, _⟩ :: _) _); refine EachList.cons (.bool true) (EachIf.val rfl ?h) ?_; (case h => (intro wx hx; subst hx; first | (go_simp; done) | (go_simp; simp [*]; done))); simp only [Act.put, List.setIfInBounds_toArray, List.set_cons_zero, List.set_cons_succ])
                              | ((with_reducible show EachList _ _ _ _ (⟨_, _, 4, _, _, _⟩ :: _) _); refine EachList.cons (.bool false) (EachIf.val rfl ?h) ?_; (case h => (intro wx hx; subst hx; first | (go_simp; done) | (go_simp; simp [*]; done))); simp only [Act.put, List.setIfInBounds_toArray, List.set_cons_zero, List.set_cons_succ])
                              | (refine EachList.cons ?_ (EachIf.val rfl ?h) ?_; (case h => (intro wx hx; subst hx; go_simp; rfl)); simp only [Act.put, List.setIfInBounds_toArray, List.set_cons_zero, List.set_cons_succ]))
                            refine EachList.done fun wx hx => ?_
                            subst hx
                            go_wp2_with fail
                            go_ret
                            exact ⟨by rw [HF.out]; rfl, (HKW.out.alloc _).drew⟩
                          · by_cases hi1 : 31 < ino
                            · have HF : Hid (decide (RightP n) = false) := HNO.out fun h => by have := (HEP.out.1 h).2.1.2; omega
                              clear HEP HNO hgd hk HPV HPRE HKR HN
                              refine wp_region_each (S := fun wx => wx = _) (by kernel_rfl) (by kernel_rfl) (fun d _ _ _ _ h => by cases d <;> exact h) rfl (by kernel_rfl) ?_
                              repeat (first
                                | (refine EachList.cons (.bool true) (EachIf.call rfl 46 #[.string nm] ?he ?h) ?_; (case he => (intro wz; go_simp)); (case h => exact fun wx hx => (HG.out wx).mono fun e w' he => ⟨he.1, he.2 ▸ hx⟩); simp only [Act.put, List.setIfInBounds_toArray, List.set_cons_zero, List.set_cons_succ])
                                | (refine EachList.cons undef (EachIf.off rfl) ?_; simp only [Act.put, List.setIfInBounds_toArray, List.set_cons_zero, List.set_cons_succ])
                                | ((with_reducible show EachList _ _ _ _ (⟨_, _, 4, _, _, _⟩ :: _) _); refine EachList.cons (.bool true) (EachIf.val rfl ?h) ?_; (case h => (intro wx hx; subst hx; first | (go_simp; done) | (go_simp; simp [*]; done))); simp only [Act.put, List.setIfInBounds_toArray, List.set_cons_zero, List.set_cons_succ])
                                | ((with_reducible show EachList _ _ _ _ (⟨_, _, 4, _, _, _⟩ :: _) _); refine EachList.cons (.bool false) (EachIf.val rfl ?h) ?_; (case h => (intro wx hx; subst hx; first | (go_simp; done) | (go_simp; simp [*]; done))); simp only [Act.put, List.setIfInBounds_toArray, List.set_cons_zero, List.set_cons_succ])
                                | (refine EachList.cons ?_ (EachIf.val rfl ?h) ?_; (case h => (intro wx hx; subst hx; go_simp; rfl)); simp only [Act.put, List.setIfInBounds_toArray, List.set_cons_zero, List.set_cons_succ]))
                              refine EachList.done fun wx hx => ?_
                              subst hx
                              go_wp2_with fail
                              go_ret
                              exact ⟨by rw [HF.out]; rfl, (HKW.out.alloc _).drew⟩
                            · by_cases hkz : k = 0
                              · have HPN : Hid (∀ i, i < k + 1 → EntP n.E i) := fun i hi => by
                                  obtain rfl : i = k := by omega
                                  exact HEP.out.2 ⟨hgd, ⟨by omega, by omega⟩, fun h => absurd h (by omega)⟩
                                have hkn : ¬ (0 : Int) < (k : Int) := by omega
                                have hkd : decide (0 < k) = false := decide_eq_false (by omega)
                                clear HEP HNO hgd HPV HPRE hkz HN
                                refine wp_region_each (S := fun wx => wx = _) (by kernel_rfl) (by kernel_rfl) (fun d _ _ _ _ h => by cases d <;> exact h) rfl (by kernel_rfl) ?_
                                repeat (first
                                  | (refine EachList.cons (.bool true) (EachIf.call rfl 46 #[.string nm] ?he ?h) ?_; (case he => (intro wz; go_simp)); (case h => exact fun wx hx => (HG.out wx).mono fun e w' he => ⟨he.1, he.2 ▸ hx⟩); simp only [Act.put, List.setIfInBounds_toArray, List.set_cons_zero, List.set_cons_succ])
                                  | (refine EachList.cons undef (EachIf.off rfl) ?_; simp only [Act.put, List.setIfInBounds_toArray, List.set_cons_zero, List.set_cons_succ])
                                  | ((with_reducible show EachList _ _ _ _ (⟨_, _, 4, _, _, _⟩ :: _) _); refine EachList.cons (.bool true) (EachIf.val rfl ?h) ?_; (case h => (intro wx hx; subst hx; first | (go_simp; done) | (go_simp; simp [*]; done))); simp only [Act.put, List.setIfInBounds_toArray, List.set_cons_zero, List.set_cons_succ])
                                  | ((with_reducible show EachList _ _ _ _ (⟨_, _, 4, _, _, _⟩ :: _) _); refine EachList.cons (.bool false) (EachIf.val rfl ?h) ?_; (case h => (intro wx hx; subst hx; first | (go_simp; done) | (go_simp; simp [*]; done))); simp only [Act.put, List.setIfInBounds_toArray, List.set_cons_zero, List.set_cons_succ])
                                  | (refine EachList.cons ?_ (EachIf.val rfl ?h) ?_; (case h => (intro wx hx; subst hx; go_simp; rfl)); simp only [Act.put, List.setIfInBounds_toArray, List.set_cons_zero, List.set_cons_succ]))
                                refine EachList.done fun wx hx => ?_
                                subst hx
                                go_wp2_with fail
                                go_roundg gg
                                case measure => omega
                                case rel => exact ⟨k + 1, by omega, by go_num, HPN.out, (HKR.out.alloc _).drew⟩
                              · obtain ⟨q, hq⟩ : ∃ q, k = q + 1 := ⟨k - 1, by omega⟩
                                have hpv0 := HPV.out q hq
                                have hpv : ∀ o, (wr.alloc o).cell? ⟨g, off + q * 2, none⟩ = some (.string (enm n.E q)) := fun o => by
                                  rw [World.cell?_alloc_some _ _ _ (by rw [hpv0]; rfl)]
                                  exact hpv0
                                have c17a : ∀ o, (wr.alloc o).cell? ⟨w.heap.size, 17, none⟩ = some (.slice (some ⟨g, off, none⟩) m cap) := fun o => by
                                  rw [World.cell?_alloc_some _ _ _ (by rw [c17]; rfl)]
                                  exact c17
                                clear hpv0
                                have hkp : (0 : Int) < (k : Int) := by omega
                                have hkd : decide (0 < k) = true := decide_eq_true (by omega)
                                have hkq : (k : Int) - 1 = (q : Int) := by omega
                                have hqm : (q : Int) < (m : Int) := by omega
                                have hq0 : (0 : Int) ≤ (q : Int) := by omega
                                have hwq : IntKind.i64.wrap (q : Int) = (q : Int) := IntWalk.i64_in _ (by omega)
                                have hlb : ∀ b, leB nm (enm n.E q) = b → (Op.bytesLess nm.toList (enm n.E q).toList || (nm.toList == (enm n.E q).toList)) = b := fun b h => h
                                have HEP2 : Hid (EntP n.E k ↔ leB nm (enm n.E q) = false) := by
                                  show _ ↔ _
                                  rw [HEP.out, show k - 1 = q by omega]
                                  exact ⟨fun h => h.2.2 (by omega), fun h => ⟨hgd, ⟨by omega, by omega⟩, fun _ => h⟩⟩
                                generalize enm n.E q = pm at *
                                cases hle : leB nm pm
                                · have HPN : Hid (∀ i, i < k + 1 → EntP n.E i) := fun i hi => by
                                    by_cases e : i = k
                                    · subst e; exact HEP2.out.2 hle
                                    · exact HPRE.out i (by omega)
                                  have hlb2 := hlb _ hle
                                  clear HEP HEP2 HNO hgd HPV HPRE hkz hlb hle hq HN
                                  refine wp_region_each (S := fun wx => wx = _) (by kernel_rfl) (by kernel_rfl) (fun d _ _ _ _ h => by cases d <;> exact h) rfl (by kernel_rfl) ?_
                                  repeat (first
                                    | (refine EachList.cons (.bool true) (EachIf.call rfl 46 #[.string nm] ?he ?h) ?_; (case he => (intro wz; go_simp)); (case h => exact fun wx hx => (HG.out wx).mono fun e w' he => ⟨he.1, he.2 ▸ hx⟩); simp only [Act.put, List.setIfInBounds_toArray, List.set_cons_zero, List.set_cons_succ])
                                    | (refine EachList.cons undef (EachIf.off rfl) ?_; simp only [Act.put, List.setIfInBounds_toArray, List.set_cons_zero, List.set_cons_succ])
                                    | ((with_reducible show EachList _ _ _ _ (⟨_, _, 4, _, _, _⟩ :: _) _); refine EachList.cons (.bool true) (EachIf.val rfl ?h) ?_; (case h => (intro wx hx; subst hx; first | (go_simp; done) | (go_simp; simp [*]; done))); simp only [Act.put, List.setIfInBounds_toArray, List.set_cons_zero, List.set_cons_succ])
                                    | ((with_reducible show EachList _ _ _ _ (⟨_, _, 4, _, _, _⟩ :: _) _); refine EachList.cons (.bool false) (EachIf.val rfl ?h) ?_; (case h => (intro wx hx; subst hx; first | (go_simp; done) | (go_simp; simp [*]; done))); simp only [Act.put, List.setIfInBounds_toArray, List.set_cons_zero, List.set_cons_succ])
                                    | ((with_reducible show EachList _ _ _ _ (⟨some 133, _, _, _, _, _⟩ :: _) _); refine EachList.cons (.int .i64 (q : Int)) (EachIf.val rfl ?h) ?_; (case h => (intro wx hx; subst hx; go_simp; done)); simp only [Act.put, List.setIfInBounds_toArray, List.set_cons_zero, List.set_cons_succ])
                                    | (refine EachList.cons ?_ (EachIf.val rfl ?h) ?_; (case h => (intro wx hx; subst hx; go_simp; rfl)); simp only [Act.put, List.setIfInBounds_toArray, List.set_cons_zero, List.set_cons_succ]))
                                  refine EachList.done fun wx hx => ?_
                                  subst hx
                                  go_wp2_with fail
                                  go_roundg gg
                                  case measure => omega
                                  case rel => exact ⟨k + 1, by omega, by go_num, HPN.out, (HKR.out.alloc _).drew⟩
                                · have HF : Hid (decide (RightP n) = false) := HNO.out fun h => by
                                    have := HEP2.out.1 h
                                    rw [hle] at this
                                    cases this
                                  have hlb2 := hlb _ hle
                                  clear HEP HEP2 HNO hgd HPV HPRE hkz hlb hle hq hk HKR HN
                                  refine wp_region_each (S := fun wx => wx = _) (by kernel_rfl) (by kernel_rfl) (fun d _ _ _ _ h => by cases d <;> exact h) rfl (by kernel_rfl) ?_
                                  repeat (first
                                    | (refine EachList.cons (.bool true) (EachIf.call rfl 46 #[.string nm] ?he ?h) ?_; (case he => (intro wz; go_simp)); (case h => exact fun wx hx => (HG.out wx).mono fun e w' he => ⟨he.1, he.2 ▸ hx⟩); simp only [Act.put, List.setIfInBounds_toArray, List.set_cons_zero, List.set_cons_succ])
                                    | (refine EachList.cons undef (EachIf.off rfl) ?_; simp only [Act.put, List.setIfInBounds_toArray, List.set_cons_zero, List.set_cons_succ])
                                    | ((with_reducible show EachList _ _ _ _ (⟨_, _, 4, _, _, _⟩ :: _) _); refine EachList.cons (.bool true) (EachIf.val rfl ?h) ?_; (case h => (intro wx hx; subst hx; first | (go_simp; done) | (go_simp; simp [*]; done))); simp only [Act.put, List.setIfInBounds_toArray, List.set_cons_zero, List.set_cons_succ])
                                    | ((with_reducible show EachList _ _ _ _ (⟨_, _, 4, _, _, _⟩ :: _) _); refine EachList.cons (.bool false) (EachIf.val rfl ?h) ?_; (case h => (intro wx hx; subst hx; first | (go_simp; done) | (go_simp; simp [*]; done))); simp only [Act.put, List.setIfInBounds_toArray, List.set_cons_zero, List.set_cons_succ])
                                    | ((with_reducible show EachList _ _ _ _ (⟨some 133, _, _, _, _, _⟩ :: _) _); refine EachList.cons (.int .i64 (q : Int)) (EachIf.val rfl ?h) ?_; (case h => (intro wx hx; subst hx; go_simp; done)); simp only [Act.put, List.setIfInBounds_toArray, List.set_cons_zero, List.set_cons_succ])
                                    | (refine EachList.cons ?_ (EachIf.val rfl ?h) ?_; (case h => (intro wx hx; subst hx; go_simp; rfl)); simp only [Act.put, List.setIfInBounds_toArray, List.set_cons_zero, List.set_cons_succ]))
                                  refine EachList.done fun wx hx => ?_
                                  subst hx
                                  go_wp2_with fail
                                  go_ret
                                  exact ⟨by rw [HF.out]; rfl, (HKW.out.alloc _).drew⟩

end Go.Proofs.YtmhcnkjmnbnldaaDoor
