/-
  Layer 7, the reference: Word, of directories. Layer 7, the reference: Word and Need, of all inodes that are right. Layer 7 (fmt2): Lay, where it lays. Layer 6, the reference: Same, where both are one inode; the law's sames, where both are one list; the reference's list of what is free. Layer 6 (fmt1), plain: what is laid is read again, just so; what is read is what would be laid. Layer 6 (fmt1), plain: what is read is what would be laid.
-/
import Derived.Test.YtmhcnkjmnbnldaaDoorG09
import Derived.Test.YtmhcnkjmnbnldaaDoorG10
import Derived.Laws.StructEq
namespace Go.Proofs.YtmhcnkjmnbnldaaDoor
open Go.RowKit

theorem blk_word (l : List (ByteArray × Int)) (j y : Nat) (hy : y < 7) : (wordsE (chE l j)).getD y 0 = if 3 * j + y / 2 < l.length ∧ y < 6 then (if y % 2 = 0 then ((wordV (bl (enm l (3 * j + y / 2))) : Nat) : Int) else eno l (3 * j + y / 2)) else 0 := by
  by_cases h : 3 * j + y / 2 < l.length ∧ y < 6
  · rw [if_pos h]
    have hc : y / 2 < (chE l j).length := by rw [chE_len]; omega
    obtain ⟨-, e1, e2⟩ := chE_get l j (y / 2) hc
    have hw := wordsE_get (chE l j) (y / 2) hc
    rcases (show y % 2 = 0 ∨ y % 2 = 1 by omega) with hm | hm
    · rw [if_pos hm, ← e1, ← hw.1, show y / 2 * 2 = y by omega]
    · rw [if_neg (by omega), ← e2, ← hw.2, show y / 2 * 2 + 1 = y by omega]
  · rw [if_neg h, List.getD_eq_getElem?_getD, List.getElem?_eq_none (by rw [wordsE_len, chE_len]; omega)]
    rfl

theorem rowF_dir {n : Ino} {own : List Nat} (hK : n.K = 2) {b : Nat} (hb : b < 4) : (rowF n own).getD (2 + b) 0 = hdD n.E own b ∧ (rowF n own).getD 6 0 = 0 ∧ (rowF n own).getD 7 0 = 0 := by
  unfold rowF
  rw [if_pos hK]
  refine ⟨?_, rfl, rfl⟩
  rcases (show b = 0 ∨ b = 1 ∨ b = 2 ∨ b = 3 by omega) with rfl | rfl | rfl | rfl <;> rfl

theorem wfacts (k x : Nat) (hk : k < 3128) (hx : x < 256) : ∃ a1 a2 y xi : Int, (k : Int) - 1080 = a1 ∧ wrap64 a1 = a1 ∧ (x : Int) = xi ∧ 8 * xi = a2 ∧ wrap64 a2 = a2 ∧ a1 - a2 = y ∧ wrap64 y = y ∧ Hid (y = (k : Int) - ((1080 + 8 * x : Nat) : Int)) ∧ IntKind.u64.wrap xi = xi :=
  ⟨_, _, _, _, rfl, by unfold wrap64; omega, rfl, rfl, by unfold wrap64; omega, rfl, by unfold wrap64; omega, by show _ = _; omega, wrap_nat64 (by omega) (by omega)⟩

theorem efacts (y j : Nat) (hy : y < 7) (hj : j < 1000) : ∃ yi y1 h t e : Int, ((y + 1 : Nat) : Int) = yi ∧ yi - 1 = y1 ∧ wrap64 y1 = y1 ∧ y1.tdiv 2 = h ∧ wrap64 h = h ∧ 3 * (j : Int) = t ∧ wrap64 t = t ∧ t + h = e ∧ wrap64 e = e ∧ Hid (e = ((3 * j + y / 2 : Nat) : Int)) ∧ (yi.tmod 2 = if y % 2 = 0 then 1 else 0) ∧ wrap64 (yi.tmod 2) = yi.tmod 2 := by
  have h1 : ((y + 1 : Nat) : Int) - 1 = ((y : Nat) : Int) := by omega
  have h2 : (((y + 1 : Nat) : Int) - 1).tdiv 2 = ((y / 2 : Nat) : Int) := by rw [h1, show (2 : Int) = ((2 : Nat) : Int) from rfl, Int.ofNat_tdiv]
  have h3 : ((y + 1 : Nat) : Int).tmod 2 = (((y + 1) % 2 : Nat) : Int) := by rw [show (2 : Int) = ((2 : Nat) : Int) from rfl, Int.ofNat_tmod]
  refine ⟨_, _, _, _, _, rfl, rfl, ?_, rfl, ?_, rfl, ?_, rfl, ?_, ?_, ?_, ?_⟩
  · rw [h1]; unfold wrap64; omega
  · rw [h2]; unfold wrap64; omega
  · unfold wrap64; omega
  · rw [h2]; unfold wrap64; omega
  · show _ = _
    rw [h2]; omega
  · rw [h3]
    split <;> omega
  · rw [h3]; unfold wrap64; omega

theorem efactsY (y ji : Int) (y' j : Nat) (h0 : y = ((y' + 1 : Nat) : Int)) (h1 : (j : Int) = ji) (hy : y' < 7) (hj : j < 1000) : ∃ y1 h t e : Int, y - 1 = y1 ∧ wrap64 y1 = y1 ∧ y1.tdiv 2 = h ∧ wrap64 h = h ∧ 3 * ji = t ∧ wrap64 t = t ∧ t + h = e ∧ wrap64 e = e ∧ Hid (e = ((3 * j + y' / 2 : Nat) : Int)) ∧ (y.tmod 2 = if y' % 2 = 0 then 1 else 0) ∧ wrap64 (y.tmod 2) = y.tmod 2 := by
  subst h0 h1
  obtain ⟨yi, y1, h, t, e, rfl, h2⟩ := efacts y' j hy hj
  exact ⟨y1, h, t, e, h2⟩

theorem efactsZ (ji : Int) (j : Nat) (h1 : (j : Int) = ji) (hj : j < 1000) : ∃ y1 h t e : Int, (0 : Int) - 1 = y1 ∧ wrap64 y1 = y1 ∧ y1.tdiv 2 = h ∧ wrap64 h = h ∧ 3 * ji = t ∧ wrap64 t = t ∧ t + h = e ∧ wrap64 e = e := by
  subst h1
  have h2 : ((0 : Int) - 1).tdiv 2 = 0 := by decide
  exact ⟨_, _, _, _, rfl, by unfold wrap64; omega, rfl, by rw [h2]; unfold wrap64; omega, rfl, by unfold wrap64; omega, rfl, by rw [h2]; unfold wrap64; omega⟩

set_option maxRecDepth 100000 in
set_option maxHeartbeats 8000000 in
theorem refWord_dir (n : Ino) (v : Value) (g : Nat) (own : List Nat) (vo : Value) (go p k : Nat) (hB : n.B.length = 13) (hR : RightP n) (hK : n.K = 2) (hD : DirP n) (ho : own.length = needF n) (hm : ∀ c ∈ own, c ≠ 0 ∧ c < 256) (hnd : own.Nodup) (hp : p + 8 ≤ 1080) (hk : k < 3128) (hh : ¬ (p ≤ k ∧ k < p + 2)) (w : World) (hE : EReads w v g n.E) (hO : Reads w vo go (i64s own)) :
    Calls Tryd.prog 28 #[.agg (inoC n v), .int .i64 (p : Int), vo, .int .i64 (k : Int)] w (Want2Post w n own p k) := by
  have h24 := hD.1
  have hgood : ∀ e, e < n.E.length → goodN (bl (enm n.E e)) = true ∧ wordN (bl (enm n.E e)) < 18446744073709551616 := fun e he => by
    have hg := (hD.2.2.2 e he).1
    exact ⟨hg, wordN_lt (goodN_len hg).2 (bl_lt _)⟩
  have HBK : Hid (∀ wx, Keeps [] w wx → ∀ q : Nat, q < 4 → Calls Tryd.prog 53 #[v, .int .i64 (q : Int)] wx (MadeEnts wx (sprE n.E q))) := by
    intro wx hk q hq
    have h1 := hE.keep hk (by simp)
    have h2 : n.E.length ≤ 10000 := Nat.le_trans h24 (by decide)
    exact refBucket_at h1 h2 hgood q hq
  have hb0 := Blk.new w (inoC n v) 25
  have HK0 : Hid (Keeps [] w (w.alloc (.cells (inoC n v) 25))) := (Keeps.refl [] w).alloc _
  have HC17 : Hid (∀ wx, Keeps [] (w.alloc (.cells (inoC n v) 25)) wx → wx.cell? ⟨w.heap.size, 17, none⟩ = some v) := fun wx hk => by rw [(hb0.keep hk (by simp)).cell]; exact inoC_E _ hB
  have c1 : (w.alloc (.cells (inoC n v) 25)).cell? ⟨w.heap.size, 1, none⟩ = some (.int .i64 2) := by rw [hb0.cell, ← hK]; exact (inoAt v hB).f1
  obtain ⟨ao, co, rfl, hoc, hom, HOC⟩ := ints_cellR hO
  have hfo : fstN n.E 4 = own.length := by rw [ho, need_dir hD]
  have hol : own.length ≤ 32 := by rw [ho]; exact needF_le hR
  have HLE : Hid (∀ q, (sprE n.E q).length ≤ 24) := fun q => Nat.le_trans (sprE_len _ _) h24
  have HRD : Hid (∀ b, b < 4 → (rowF n own).getD (2 + b) 0 = hdD n.E own b ∧ (rowF n own).getD 6 0 = 0 ∧ (rowF n own).getD 7 0 = 0) := fun b hb => rowF_dir hK hb
  have HBD : Hid (∀ b j, b < 4 → j < dN n.E b → fstN n.E b + j < own.length ∧ (blocksF n own).getD (fstN n.E b + j) [] = blkD n.E own b j) := fun b j hb hj => by
    have h1 := fstN_mono n.E (show b + 1 ≤ 4 by omega)
    rw [fstN] at h1
    refine ⟨by omega, ?_⟩
    unfold blocksF
    rw [if_pos hK]
    exact dirTo_get n.E own hj hb
  have HPOST : Hid (∀ x ok w', WantR (rowF n own) (blocksF n own) own p k x ok → Keeps [] w w' → Want2Post w n own p k (.returned (.tuple #[.int .u64 x, .bool ok])) w') := fun x ok w' h1 h2 => ⟨x, ok, rfl, h1, h2⟩
  have HND := Lib.hid hnd
  have HO256 : Hid (∀ m, m < own.length → own.getD m 0 < 256) := fun m hml => (hm _ (getD_mem hml)).2
  have HENT : Hid (∀ q e, e < (sprE n.E q).length → goodN (bl (enm (sprE n.E q) e)) = true ∧ 0 ≤ eno (sprE n.E q) e ∧ eno (sprE n.E q) e ≤ 31) := fun q e he => by
    obtain ⟨j, hj, e1, e2⟩ := spr_mem he
    rw [e1, e2]
    exact ⟨(hD.2.2.2 j hj).1, (hD.2.2.2 j hj).2.1⟩
  obtain ⟨ii, hii, hiw, HII⟩ : ∃ ii : Int, (k : Int) - (p : Int) = ii ∧ wrap64 ii = ii ∧ Hid (ii = (k : Int) - (p : Int)) := ⟨_, rfl, by unfold wrap64; omega, rfl⟩
  have q0 : (ii == 0) = false := beq_eq_false_iff_ne.2 (by omega)
  have q1 : (ii == 1) = false := beq_eq_false_iff_ne.2 (by omega)
  have HH := Lib.hid hh
  have HKP : Hid (k < 3128 ∧ p + 8 ≤ 1080) := ⟨hk, hp⟩
  have HFO := Lib.hid hfo
  clear hb0 hB hR hK hD hm hnd ho hgood h24 hE hO hh hk hp hfo
  generalize hki : (k : Int) = ki at *
  generalize hpi : (p : Int) = pi at *
  have HKI := Lib.hid hki
  have HPI := Lib.hid hpi
  clear hki hpi
  generalize inoC n v = Z at *
  go_enter Tryd.func28, Tryd.ntmps28
  go_wp2_with fail
  clear c1 q0 q1
  simp only [hiw]
  go_loopg [13, 14] 4 (fun gh s13 s14 wx => ∃ b : Nat, b + gh = 4 ∧ s14 = .int .i64 (b : Int) ∧ s13 = .int .i64 ((fstN n.E b : Nat) : Int) ∧ Hid (Keeps [] (w.alloc (.cells Z 25)) wx ∧ (∀ q, q < b → k ≠ p + (2 + q)) ∧ ∀ m, m < fstN n.E b → ¬ (1080 + 8 * own.getD m 0 ≤ k ∧ k < 1080 + 8 * own.getD m 0 + 8)))
  case atStart => exact ⟨0, by omega, rfl, rfl, Keeps.refl _ _, by intro q hq; omega, by intro m hm; rw [fstN] at hm; omega⟩
  case round =>
    obtain ⟨b, hb, rfl, rfl, HP⟩ := hrel
    cases gk with
    | zero =>
      obtain rfl : b = 4 := by omega
      have HKF := Lib.hid (HK0.out.trans' HP.out.1)
      have HNB : Hid (∀ m, m < own.length → ¬ (1080 + 8 * own.getD m 0 ≤ k ∧ k < 1080 + 8 * own.getD m 0 + 8)) := fun m hm => HP.out.2.2 m (by rw [HFO.out]; exact hm)
      have hwq := HP.out.2.1
      by_cases h6 : ii = 6
      · have HF := Lib.hid (HPOST.out 0 true wr (by
          have hk6 : k = p + 6 := by have := HII.out; have := HKI.out; have := HPI.out; omega
          have h := WantR.row (R := rowF n own) (Bs := blocksF n own) (own := own) (p := p) (j := 6) (by omega)
          rw [(HRD.out 0 (by omega)).2.1, ← hk6] at h
          exact h) HKF.out)
        subst h6
        clear hb HP hwq HNB hii
        go_wp2_with fail
        go_ret2
        exact HF.out
      · have q6 : (ii == 6) = false := beq_eq_false_iff_ne.2 h6
        by_cases h7 : ii = 7
        · have HF := Lib.hid (HPOST.out 0 true wr (by
            have hk6 : k = p + 7 := by have := HII.out; have := HKI.out; have := HPI.out; omega
            have h := WantR.row (R := rowF n own) (Bs := blocksF n own) (own := own) (p := p) (j := 7) (by omega)
            rw [(HRD.out 0 (by omega)).2.2, ← hk6] at h
            exact h) HKF.out)
          subst h7
          clear hb HP hwq HNB hii
          go_wp2_with fail
          go_ret2
          exact HF.out
        · have q7 : (ii == 7) = false := beq_eq_false_iff_ne.2 h7
          have HF := Lib.hid (HPOST.out 0 false wr (WantR.none (by
            have e0 := hwq 0 (by omega)
            have e1 := hwq 1 (by omega)
            have e2 := hwq 2 (by omega)
            have e3 := hwq 3 (by omega)
            have := HII.out
            have := HKI.out
            have := HPI.out
            have := HH.out
            omega) HNB.out) HKF.out)
          clear hb HP hwq HNB hii h6 h7
          go_wp2_with fail
          go_ret2
          exact HF.out
    | succ gg =>
      have hb4 : b < 4 := by omega
      have hlt : (b : Int) < 4 := by omega
      have c17 := HC17.out wr HP.out.1
      have HB := Lib.hid (HBK.out wr (HK0.out.trans' HP.out.1) b hb4)
      have HBG : Hid (b + (gg + 1) = 4) := hb
      have HB4 := Lib.hid hb4
      clear hb
      go_wp2_with fail
      refine HB.out.mono ?_; rintro e w2 ⟨vb, gb, rfl, hvb, hgb, hkb⟩
      obtain ⟨ab, cb, rfl, hcb, hmb, HEC⟩ := hvb.open
      have HK2 := Lib.hid ((HK0.out.trans' HP.out.1).trans' hkb)
      have HK02 := Lib.hid (HP.out.1.trans' hkb)
      have hlb := HLE.out b
      obtain ⟨d, hd⟩ : ∃ d, d = dN n.E b := ⟨_, rfl⟩
      have hd2 : ((sprE n.E b).length + 2) / 3 = d := by rw [hd]; rfl
      obtain ⟨l2, hl2, hl2w⟩ : ∃ l2 : Int, ((sprE n.E b).length : Int) + 2 = l2 ∧ wrap64 l2 = l2 := ⟨_, rfl, by unfold wrap64; omega⟩
      obtain ⟨di, hdd, hdw, HDI⟩ : ∃ di : Int, l2.tdiv 3 = di ∧ wrap64 di = di ∧ Hid ((d : Int) = di) := by
        have e : l2.tdiv 3 = (d : Int) := by rw [← hl2, show ((sprE n.E b).length : Int) + 2 = (((sprE n.E b).length + 2 : Nat) : Int) by omega, show (3 : Int) = ((3 : Nat) : Int) from rfl, ← Int.ofNat_tdiv, hd2]
        exact ⟨_, rfl, by rw [e]; unfold wrap64; omega, e.symm⟩
      obtain ⟨b2, hb2, hb2w, HB2⟩ : ∃ b2 : Int, 2 + (b : Int) = b2 ∧ wrap64 b2 = b2 ∧ Hid (b2 = 2 + (b : Int)) := ⟨_, rfl, by unfold wrap64; omega, rfl⟩
      have HD2 := Lib.hid hd2
      have HDN := Lib.hid hd
      have HCB := Lib.hid hcb
      clear hgb hkb c17 HB hvb hd hd2 hcb hmb
      by_cases hib : ii = b2
      · have hkb : k = p + (2 + b) := by have := HII.out; have := HKI.out; have := HPI.out; have := HB2.out; omega
        have hw := WantR.row (R := rowF n own) (Bs := blocksF n own) (own := own) (p := p) (j := 2 + b) (by omega)
        rw [(HRD.out b HB4.out).1, ← hkb, hdD, ← HDN.out] at hw
        subst hib
        by_cases hd0 : 0 < d
        · rw [if_pos hd0] at hw
          have hd0' : (0 : Int) < di := by have := HDI.out; omega
          have hfo := (HBD.out b 0 HB4.out (by rw [← HDN.out]; exact hd0)).1
          rw [Nat.add_zero] at hfo
          obtain ⟨hgo, offo, rfl, hco⟩ := HOC.out (fstN n.E b) hfo
          have c2 := (World.cell?_of_block (w := w) (w' := w2) (a := ⟨go, offo + fstN n.E b, none⟩) (HK2.out.block go hgo (by simp))).trans hco
          have hf0 : (0 : Int) ≤ ((fstN n.E b : Nat) : Int) := by omega
          have hfl : ((fstN n.E b : Nat) : Int) < (own.length : Int) := by omega
          have hx := HO256.out _ hfo
          obtain ⟨xi, hxi, hxw⟩ : ∃ xi : Int, ((own.getD (fstN n.E b) 0 : Nat) : Int) = xi ∧ IntKind.u64.wrap xi = xi := ⟨_, rfl, wrap_nat64 (by omega) (by omega)⟩
          rw [hxi] at c2 hw
          have HF := Lib.hid (HPOST.out xi true w2 hw HK2.out)
          clear hw hkb hd0 hfo hco hx hxi
          generalize fstN n.E b = fb at *
          generalize (sprE n.E b).length = len at *
          go_wp2_with fail
          go_ret2
          exact HF.out
        · rw [if_neg hd0] at hw
          have hd0' : ¬ (0 : Int) < di := by have := HDI.out; omega
          have HF := Lib.hid (HPOST.out 0 true w2 hw HK2.out)
          clear hw hkb hd0
          generalize fstN n.E b = fb at *
          generalize (sprE n.E b).length = len at *
          go_wp2_with fail
          go_ret2
          exact HF.out
      · have q2 : (ii == b2) = false := beq_eq_false_iff_ne.2 hib
        have HNE : Hid (k ≠ p + (2 + b)) := fun e => hib (by have := HII.out; have := HKI.out; have := HPI.out; have := HB2.out; omega)
        have HFB : Hid (fstN n.E (b + 1) = fstN n.E b + d) := by
          show _ = _
          rw [fstN, ← HDN.out]
        have hd32 : d ≤ 32 := by have := HD2.out; omega
        have HFL : Hid (fstN n.E b + d ≤ 32) := by
          have h1 := fstN_mono n.E (show b + 1 ≤ 4 by have := HB4.out; omega)
          rw [HFB.out, HFO.out] at h1
          exact Nat.le_trans h1 hol
        generalize hfb : fstN n.E b = fb at *
        have HFB0 : Hid (fb = fstN n.E b) := hfb.symm
        have HPB : Hid (∀ m, m < fb → ¬ (1080 + 8 * own.getD m 0 ≤ k ∧ k < 1080 + 8 * own.getD m 0 + 8)) := by
          intro m hm
          exact HP.out.2.2 m hm
        have HPQ := Lib.hid HP.out.2.1
        clear HP hfb hib
        go_wp2_with fail
        simp only [hdw]
        go_loopg [17] d (fun gh s17 wx => ∃ j : Nat, j + gh = d ∧ s17 = .int .i64 (j : Int) ∧ w2 = wx ∧ Hid (∀ m, m < fb + j → ¬ (1080 + 8 * own.getD m 0 ≤ k ∧ k < 1080 + 8 * own.getD m 0 + 8)))
        case atStart => exact ⟨0, by omega, rfl, rfl, by intro m hm; exact HPB.out m hm⟩
        case round =>
          obtain ⟨j, hj, rfl, rfl, HQ⟩ := hrel
          cases gk with
          | zero =>
            obtain rfl : j = d := by omega
            have hjd : ¬ (j : Int) < di := by have := HDI.out; omega
            obtain ⟨fn, hfn, hfnw, HFN⟩ : ∃ fn : Int, (fb : Int) + di = fn ∧ wrap64 fn = fn ∧ Hid (fn = ((fb + j : Nat) : Int)) := ⟨_, rfl, by have := HDI.out; have := HFL.out; unfold wrap64; omega, by have := HDI.out; show _ = _; omega⟩
            have HNX : Hid (Keeps [] (w.alloc (.cells Z 25)) w2 ∧ (∀ q, q < b + 1 → k ≠ p + (2 + q)) ∧ ∀ m, m < fstN n.E (b + 1) → ¬ (1080 + 8 * own.getD m 0 ≤ k ∧ k < 1080 + 8 * own.getD m 0 + 8)) := by
              refine ⟨HK02.out, fun q hq => ?_, fun m hm => ?_⟩
              · by_cases e : q = b
                · subst e; exact HNE.out
                · exact HPQ.out q (by omega)
              · rw [HFB.out] at hm
                exact HQ.out m hm
            clear hj HQ HPB HPQ hd32
            go_wp2_with fail
            go_roundg gg
            case measure => omega
            case rel => exact ⟨b + 1, by have := HBG.out; omega, by go_num, by rw [HFB.out, ← HFN.out], HNX.out⟩
          | succ gj =>
            have hjd : (j : Int) < di := by have := HDI.out; omega
            have HJD : Hid (j < d ∧ j + (gj + 1) = d) := ⟨by omega, hj⟩
            obtain ⟨hmo, hblkm⟩ := HBD.out b j HB4.out (by rw [← HDN.out]; exact HJD.out.1)
            rw [← HFB0.out] at hmo hblkm
            obtain ⟨hgo, offo, rfl, hco⟩ := HOC.out (fb + j) hmo
            have c2 := (World.cell?_of_block (w := w) (w' := w2) (a := ⟨go, offo + (fb + j), none⟩) (HK2.out.block go hgo (by simp))).trans hco
            obtain ⟨mi, hmi, hmiw, hmi0, hmil, hmit⟩ : ∃ mi : Int, (fb : Int) + (j : Int) = mi ∧ wrap64 mi = mi ∧ 0 ≤ mi ∧ mi < (own.length : Int) ∧ mi.toNat = fb + j := ⟨_, rfl, by unfold wrap64; omega, by omega, by omega, by omega⟩
            have hx256 := HO256.out _ hmo
            obtain ⟨x, hx⟩ : ∃ x, x = own.getD (fb + j) 0 := ⟨_, rfl⟩
            rw [← hx] at c2 hx256
            obtain ⟨a1, a2, y, xi, ha1, ha1w, hxi, ha2, ha2w, hy, hyw, HY, -⟩ := wfacts k x HKP.out.1 hx256
            rw [hxi] at c2
            rw [HKI.out] at ha1
            have HWO : Hid (∀ y', y' < 8 → y = ((y' : Nat) : Int) → WantR (rowF n own) (blocksF n own) own p k ((blkD n.E own b j).getD y' 0) true) := fun y' hy' e => by
              have hnp : ¬ (p ≤ k ∧ k < p + 8) := by
                have := HKP.out
                have := HY.out
                omega
              have h := WantR.own (R := rowF n own) (Bs := blocksF n own) (m := fb + j) (y := y') HND.out hnp hmo hy' (by have := HY.out; rw [← hx]; omega)
              rw [hblkm] at h
              exact h
            have HNXT : Hid ((y < 0 ∨ 7 < y) → ∀ m, m < fb + (j + 1) → ¬ (1080 + 8 * own.getD m 0 ≤ k ∧ k < 1080 + 8 * own.getD m 0 + 8)) := fun hyy m hm => by
              by_cases e : m = fb + j
              · subst e
                rw [← hx]
                have := HY.out
                omega
              · exact HQ.out m (by omega)
            have HXE := Lib.hid hx
            have HBE : Hid (∀ y', (blkD n.E own b j).getD (y' + 1) 0 = (wordsE (chE (sprE n.E b) j)).getD y' 0) := fun y' => blkX_succ _ _ _
            have HB0 : Hid ((blkD n.E own b j).getD 0 0 = if j + 1 < d then ((own.getD (fb + (j + 1)) 0 : Nat) : Int) else 0) := by
              show _ = _
              rw [HDN.out, HFB0.out]
              rfl
            obtain ⟨jn, hjn, hjnw, HJN⟩ : ∃ jn : Int, (j : Int) + 1 = jn ∧ wrap64 jn = jn ∧ Hid (jn = ((j + 1 : Nat) : Int)) := ⟨_, rfl, by unfold wrap64; omega, by show _ = _; omega⟩
            clear hj hco hx hx256 HQ HPB hxi hmo hblkm
            generalize hji : (j : Int) = ji at *
            have HJI := Lib.hid hji
            clear hji
            by_cases hy0 : y = 0
            · have hw := HWO.out 0 (by omega) hy0
              rw [HB0.out] at hw
              clear HWO HNXT HBE HB0
              by_cases hjn : j + 1 < d
              · rw [if_pos hjn] at hw
                have hjn' : jn < di := by have := HDI.out; have := HJN.out; omega
                have hmo := (HBD.out b (j + 1) HB4.out (by rw [← HDN.out]; exact hjn)).1
                rw [← HFB0.out] at hmo
                obtain ⟨_, off1, e1, hco⟩ := HOC.out (fb + (j + 1)) hmo
                obtain rfl : offo = off1 := by injection e1 with e1; injection e1
                have c3 := (World.cell?_of_block (w := w) (w' := w2) (a := ⟨go, offo + (fb + (j + 1)), none⟩) (HK2.out.block go hgo (by simp))).trans hco
                obtain ⟨mn, hmn, hmnw, hmn0, hmnl, hmnt⟩ : ∃ mn : Int, mi + 1 = mn ∧ wrap64 mn = mn ∧ 0 ≤ mn ∧ mn < (own.length : Int) ∧ mn.toNat = fb + (j + 1) := ⟨_, rfl, by unfold wrap64; omega, by omega, by omega, by omega⟩
                have hx := HO256.out _ hmo
                obtain ⟨xn, hxn, hxnw⟩ : ∃ xn : Int, ((own.getD (fb + (j + 1)) 0 : Nat) : Int) = xn ∧ IntKind.u64.wrap xn = xn := ⟨_, rfl, wrap_nat64 (by omega) (by omega)⟩
                rw [hxn] at c3 hw
                have HF := Lib.hid (HPOST.out xn true w2 hw HK2.out)
                clear hw hco hx hxn hmo hjn e1
                subst hy0
                go_wp2_with fail
                go_ret2
                exact HF.out
              · rw [if_neg hjn] at hw
                have hjn' : ¬ jn < di := by have := HDI.out; have := HJN.out; omega
                obtain ⟨y1, h, t, e, hy1, hy1w, hh, hhw, ht, htw, he, hew⟩ := efactsZ ji j HJI.out (by have := HJD.out.1; omega)
                have HF := Lib.hid (HPOST.out 0 true w2 hw HK2.out)
                clear hw hjn
                subst hy0
                go_wp2_with fail
                go_ret2
                exact HF.out
            · have qy0 : (y == 0) = false := beq_eq_false_iff_ne.2 hy0
              by_cases hyy : y < 0 ∨ 7 < y
              · have HNN := Lib.hid (HNXT.out hyy)
                clear HNXT HWO
                rcases hyy with hyy | hyy
                · clear hy0
                  go_wp2_with fail
                  go_roundg gj
                  case measure => omega
                  case rel => exact ⟨j + 1, by have := HJD.out.2; omega, by rw [HJN.out], rfl, HNN.out⟩
                · have hyy0 : ¬ y < 0 := by omega
                  clear hy0
                  go_wp2_with fail
                  go_roundg gj
                  case measure => omega
                  case rel => exact ⟨j + 1, by have := HJD.out.2; omega, by rw [HJN.out], rfl, HNN.out⟩
              · obtain ⟨y', hy'⟩ : ∃ y' : Nat, y = ((y' + 1 : Nat) : Int) := ⟨(y - 1).toNat, by omega⟩
                have hy7 : y' < 7 := by omega
                have hyn0 : ¬ y < 0 := by omega
                have hyn7 : ¬ 7 < y := by omega
                have hw := HWO.out (y' + 1) (by omega) hy'
                rw [HBE.out, blk_word _ _ _ hy7] at hw
                obtain ⟨y1, h, t, e, hy1, hy1w, hh, hhw, ht, htw, he, hew, HE3, hmod, hmodw⟩ := efactsY y ji y' j hy' HJI.out hy7 (by have := HJD.out.1; omega)
                clear HWO HNXT HBE HB0 HBD hyy
                obtain ⟨q, hq⟩ : ∃ q, q = 3 * j + y' / 2 := ⟨_, rfl⟩
                rw [← hq] at hw HE3
                by_cases hy6 : y = 7
                · have qy7 : (y == 7) = true := beq_iff_eq.2 hy6
                  rw [if_neg (by omega)] at hw
                  have HF := Lib.hid (HPOST.out 0 true w2 hw HK2.out)
                  clear hw hmod hmodw hy' hy7 hq hy6 hy0
                  go_wp2_with fail
                  go_ret2
                  exact HF.out
                · have qy7 : (y == 7) = false := beq_eq_false_iff_ne.2 hy6
                  by_cases hel : (sprE n.E b).length ≤ q
                  · have hel' : ((sprE n.E b).length : Int) ≤ e := by have := HE3.out; omega
                    rw [if_neg (by omega)] at hw
                    have HF := Lib.hid (HPOST.out 0 true w2 hw HK2.out)
                    clear hw hmod hmodw hy' hy7 hq hy6 hy0 hel
                    generalize (sprE n.E b).length = len at *
                    go_wp2_with fail
                    go_ret2
                    exact HF.out
                  · have hel' : ¬ ((sprE n.E b).length : Int) ≤ e := by have := HE3.out; omega
                    have hel2 : e < ((sprE n.E b).length : Int) := by omega
                    have he0 : 0 ≤ e := by have := HE3.out; omega
                    have het : e.toNat = q := by have := HE3.out; omega
                    rw [if_pos (by omega)] at hw
                    obtain ⟨-, off2, rfl, d1, d2⟩ := HEC.out q (by omega)
                    obtain ⟨en1, en2, en3⟩ := HENT.out b q (by omega)
                    by_cases hz2 : y' % 2 = 0
                    · rw [if_pos hz2] at hw hmod
                      rw [hmod] at hmodw
                      unfold wordV at hw
                      rw [if_pos en1] at hw
                      have HWD := Lib.hid (fun wx => refWord_at (enm (sprE n.E b) q) (by have := (goodN_len en1).2; rwa [bl_len] at this) wx)
                      have HF := Lib.hid (HPOST.out _ true w2 hw HK2.out)
                      clear hw hy' hy7 hq hy6 hy0 hel en1 hz2 d2 HENT HEC
                      generalize enm (sprE n.E b) q = nm at *
                      generalize (sprE n.E b).length = len at *
                      go_wp2_with fail
                      refine (HWD.out _).mono ?_; rintro e w' ⟨rfl, rfl⟩
                      go_wp2_with fail
                      go_ret2
                      exact HF.out
                    · rw [if_neg hz2] at hw hmod
                      rw [hmod] at hmodw
                      have hws : IntKind.u64.wrap (eno (sprE n.E b) q) = eno (sprE n.E b) q := wrap_nat64 en2 (Int.lt_of_le_of_lt en3 (by decide))
                      have HF := Lib.hid (HPOST.out _ true w2 hw HK2.out)
                      clear hw hy' hy7 hq hy6 hy0 hel en1 hz2 d1 HENT HEC
                      generalize eno (sprE n.E b) q = xx at *
                      generalize (sprE n.E b).length = len at *
                      go_wp2_with fail
                      go_ret2
                      exact HF.out

end Go.Proofs.YtmhcnkjmnbnldaaDoor

namespace Go.Proofs.YtmhcnkjmnbnldaaDoor
open Go.RowKit

theorem refWord2_at (n : Ino) (v : Value) (g : Nat) (own : List Nat) (vo : Value) (go p k : Nat) (hB : n.B.length = 13) (hR : RightP n) (ho : own.length = needF n) (hm : ∀ c ∈ own, c ≠ 0 ∧ c < 256) (hnd : own.Nodup) (hp : p + 8 ≤ 1080) (hk : k < 3128) (w : World) (hE : EReads w v g n.E) (hO : Reads w vo go (i64s own)) :
    Calls Tryd.prog 28 #[.agg (inoC n v), .int .i64 (p : Int), vo, .int .i64 (k : Int)] w (Want2Post w n own p k) := by
  by_cases hh : p ≤ k ∧ k < p + 2
  · obtain ⟨j, rfl⟩ : ∃ j, k = p + j := ⟨k - p, by omega⟩
    exact refWord_head n v own vo p j hB hR (by omega) (by omega) w
  · rcases hR.2.2 with ⟨hK, hF⟩ | ⟨hK, hD⟩
    · exact refWord_file n v own vo go p k hB hR hK hF ho hm hnd (by omega) hk hh w hO
    · exact refWord_dir n v g own vo go p k hB hR hK hD ho hm hnd hp hk hh w hE hO

theorem refNeed2_at (n : Ino) (v : Value) (g : Nat) (hB : n.B.length = 13) (hR : RightP n) (w : World) (hE : EReads w v g n.E) :
    Calls Tryd.prog 26 #[.agg (inoC n v)] w fun e w' => e = .returned (.int .i64 ((needF n : Nat) : Int)) ∧ Keeps [] w w' := by
  rcases hR.2.2 with ⟨hK, hF⟩ | ⟨hK, hD⟩
  · exact refNeed_file n v hB hK hF w
  · refine refNeed_dir n v g hB hK hD w hE fun e he => ?_
    have hg := (hD.2.2.2 e he).1
    exact ⟨hg, wordN_lt (goodN_len hg).2 (bl_lt _)⟩

end Go.Proofs.YtmhcnkjmnbnldaaDoor

namespace Go.Proofs.YtmhcnkjmnbnldaaDoor
open Go.RowKit

set_option maxRecDepth 100000 in
set_option maxHeartbeats 8000000 in
theorem lay2_ok {w : World} {b gp : Nat} {B : List Int} {ps : List (Int × Int)} (h : ShAt w b gp B ps) (h64 : In64 (putAll B ps)) (hT : TabAt w) (hgp : gp < w.heap.size) (hps : ps.length ≤ 800000) (i : Int) (n : Ino) (v : Value) (g : Nat) (hB : n.B.length = 13) (hE : EReads w v g n.E)
    (hN : ∀ k, k < n.E.length → (enm n.E k).size ≤ 9223372036854775807) (hok : Lay2P i n) (hgg : n.E.length ≠ 0 → g ≠ b ∧ g ≠ gp) (hn : needF n ≤ (freeL (putAll B ps)).length) :
    Calls Tryd.prog 25 #[.pointer (some ⟨b, 0, none⟩), .int .i64 i, .agg (inoC n v)] w fun e w' => e = .returned (.int .i64 0) ∧ Onto w b gp B (ps ++ lay2Ps (putAll B ps) i.toNat n ((freeL (putAll B ps)).take (needF n))) w' := by
  have HRT : Hid (∀ wx, Keeps [] w wx → Calls Tryd.prog 14 #[.agg (inoC n v)] wx fun e w' => e = .returned (.bool true) ∧ Keeps [] wx w') := fun wx hk => by
    have := right_at n v g hB wx (hE.keep hk (by simp)) hN
    rwa [decide_eq_true hok.2.2] at this
  have hbl := blocks_le hok.2.2
  have HNEED : Hid (∀ wx, Keeps [] w wx → Calls Tryd.prog 27 #[.agg (inoC n v)] wx fun e w' => e = .returned (.int .i64 ((needF n : Nat) : Int)) ∧ Keeps [] wx w') := fun wx hk => by
    have := need2_at n v g hB wx (hE.keep hk (by simp)) (by omega) hN
    rwa [if_pos hok.2.2] at this
  have hfl := freeL_len (putAll B ps)
  have HTK : Hid (∀ wx, Keeps [] w wx → Calls Tryd.prog 32 #[.pointer (some ⟨b, 0, none⟩), .int .i64 ((needF n : Nat) : Int)] wx (TakePost wx b gp B ps ((freeL (putAll B ps)).take (needF n)))) := fun wx hk =>
    paTake_ok (h.keep hk (by simp) (by simp)) h64 (hT.keep hk) (Nat.lt_of_lt_of_le hgp hk.size) (by omega) (needF n) hn
  have HIN : Hid (∀ c ∈ (freeL (putAll B ps)).take (needF n), c ≠ 0 ∧ c < 256) := fun c hc => by
    have := freeTo_mem.1 (List.mem_of_mem_take hc)
    exact ⟨this.2.1, this.1⟩
  have hlen : ((freeL (putAll B ps)).take (needF n)).length = needF n := by rw [List.length_take, Nat.min_eq_left hn]
  have hn32 := needF_le hok.2.2
  have hL32 : ((freeL (putAll B ps)).take (needF n)).length ≤ 32 := by omega
  have hat := inoAt v hB
  have hb0 := Blk.new w (inoC n v) 25
  have hbl0 := h.raw.lt
  have HI := Lib.hid (txInode_at i)
  have HR := Lib.hid hok.2.2
  have HB := Lib.hid hB
  have HLB : Hid (∀ wx, Blk wx w.heap.size (inoC n v) 25 → (loadVar 25 ⟨w.heap.size, 0, none⟩).run Tryd.prog wx = .ok (.agg (inoC n v)) wx) := fun wx hb => load_ino hb hB
  have HLAY : Hid (lay2Ps (putAll B ps) i.toNat n ((freeL (putAll B ps)).take (needF n)) = takePs (putAll B ps) ((freeL (putAll B ps)).take (needF n)) ++ (blkPs (blocksF n ((freeL (putAll B ps)).take (needF n))) ((freeL (putAll B ps)).take (needF n)) ((freeL (putAll B ps)).take (needF n)).length ++ rowPs (824 + 8 * i.toNat) (rowF n ((freeL (putAll B ps)).take (needF n))) 8)) := rfl
  have HTL : Hid ((takePs (putAll B ps) ((freeL (putAll B ps)).take (needF n))).length = 9 * needF n) := by
    show _ = _
    rw [takePs_len _ _ HIN.out, hlen]
  generalize hol : (freeL (putAll B ps)).take (needF n) = own at *
  have HLA : Hid (∀ wx v' go vo, EReads wx v g n.E → Reads wx vo go (i64s own) → v' = v → Calls Tryd.prog 51 #[.agg (inoC n v'), vo] wx (LaidPost wx (rowF n own) (blocksF n own))) := fun wx v' go vo he ho hv => by
    subst hv
    exact laid_at n v' g hB hok.2.2 he vo go own ho hlen fun c hc => (HIN.out c hc).2
  have hblen := blocksF_len hok.2.2 hlen
  have HB8 : Hid (∀ k, k < own.length → ((blocksF n own).getD k []).length = 8) := fun k hk => blocksF_len8 (by omega)
  have hrl := rowF_len n own
  generalize lay2Ps (putAll B ps) i.toNat n own = lps at *
  generalize htps : takePs (putAll B ps) own = tps at *
  have HTPS := Lib.hid htps
  clear htps
  have hgI : inodeN i = ((824 + 8 * i.toNat : Nat) : Int) := by unfold inodeN; rw [if_neg (by have := hok.1; omega)]; have := hok.1; omega
  rw [hgI] at HI
  have hi32 : i.toNat < 32 := by have := hok.1; omega
  have c0 : (w.alloc (.cells (inoC n v) 25)).cell? ⟨w.heap.size, 0, none⟩ = some (.int .i64 2) := by rw [hb0.cell, ← hok.2.1]; exact hat.f0
  generalize hRW : rowF n own = RW at *
  generalize hBW : blocksF n own = BW at *
  have HLV : Hid (∀ wx go vo, EReads wx v g n.E → Reads wx vo go (i64s own) → Calls Tryd.prog 51 #[.agg (inoC n v), vo] wx (LaidPost wx RW BW)) := fun wx go vo he ho => HLA.out wx v go vo he ho rfl
  generalize hZ : inoC n v = Z at *
  have HK : Hid (Keeps [] w (w.alloc (.cells Z 25))) := (Keeps.refl [] w).alloc _
  have HB0 := Lib.hid hb0
  have HE := Lib.hid hE
  have HS := Lib.hid h
  have HPS := Lib.hid hps
  have HL0 := Lib.hid (HLB.out _ hb0)
  generalize hq : 824 + 8 * i.toNat = q at *
  have hq3 : q + 8 ≤ 3128 := by omega
  clear hq hi32 hRW hBW hZ HLA
  have hp0 : (0 : Int) ≤ (q : Int) := by omega
  have HLEN := Lib.hid hlen
  clear hb0 hat hE hN hB hgI h h64 hT hfl hn hol hps hlen hok
  have hzv := zero_r8
  generalize hz8 : (u64s (List.replicate 8 0)).toArray = Z8 at *
  have HZ8 := Lib.hid hz8
  clear hz8
  go_enter Tryd.func25, Tryd.ntmps25
  go_wp2_with fail
  refine (HI.out _).mono ?_; rintro e w' ⟨rfl, rfl⟩
  go_wp2_with ((with_reducible show wpList _ _ _ (⟨_, .load 25 (.tmp 5), _, _, _, _⟩ :: _) _ _); refine wpList_load_want (by simp [Region.wanted, yielded, hp0]) 25 (.tmp 5) rfl _ rfl _ HL0.out ?_)
  refine (HRT.out _ HK.out).mono ?_; rintro e w1 ⟨rfl, hk1⟩
  have HK1 := Lib.hid (HK.out.trans' hk1)
  have HB1 := Lib.hid (HB0.out.keep hk1 (by simp))
  have HL1 := Lib.hid (HLB.out _ HB1.out)
  clear hk1 HL0 HB0 HK
  go_wp2_with ((with_reducible show wpList _ _ _ (⟨_, .load 25 (.tmp 5), _, _, _, _⟩ :: _) _ _); refine wpList_load_any rfl 25 (.tmp 5) rfl _ rfl _ HL1.out ?_)
  refine (HNEED.out _ HK1.out).mono ?_; rintro e w2 ⟨rfl, hk2⟩
  have HK2 := Lib.hid (HK1.out.trans' hk2)
  have HB2 := Lib.hid (HB1.out.keep hk2 (by simp))
  clear hk2 HK1 HB1 HL1 HNEED HRT
  go_wp2_with fail
  refine (HTK.out _ HK2.out).mono ?_; rintro e w3 ⟨vo, go, rfl, hro, hgo1, hgo2, gp1, hgp1, hne1, hs3, hk3⟩
  rw [HTPS.out] at hs3
  have hz2 := HK2.out.size
  have hb2 := HB2.out.lt
  have HB3 := Lib.hid (HB2.out.keep hk3 (by simp only [List.mem_cons, List.not_mem_nil, or_false]; omega))
  have HE3 : Hid (EReads w3 v g n.E) := (HE.out.keep HK2.out (by simp)).keep hk3 (fun hne => by have := hgg hne; simp only [List.mem_cons, List.not_mem_nil, or_false]; omega)
  have HK3 : Hid (Keeps [b, gp] w w3) := (HK2.out.mono (by simp)).trans' hk3
  have HS3 := Lib.hid hs3
  have HRO := Lib.hid hro
  have HL3 := Lib.hid (HLB.out _ HB3.out)
  have hz3 := hk3.size
  obtain ⟨ao, co, rfl, hoc, hom, HOC⟩ := ints_cellR hro
  clear HTK HK2 HB2 HE HS hk3 hs3 hro
  go_wp2_with ((with_reducible show wpList _ _ _ (⟨_, .load 25 (.tmp 5), _, _, _, _⟩ :: _) _ _); refine wpList_load_any rfl 25 (.tmp 5) rfl _ rfl _ HL3.out ?_)
  refine (HLV.out _ go _ HE3.out HRO.out).mono ?_; rintro e w4 ⟨vb, gb, rfl, hb, hgb, hk4⟩
  obtain ⟨w5, hS1, hb9, hk5⟩ := store_whole (P := Tryd.prog) (ty := 63) (cs := u64s RW) (by rw [u64s_len, hrl]; exact size_r8) (Blk.new w4 Z8 63) (by rw [← HZ8.out]; simp [u64s_len, hrl]) (u64s_one _)
  have hz4 := hk4.size
  have hk45 : Keeps [] w4 w5 := ((Keeps.refl [] w4).alloc (.cells Z8 63)).trans hk5 (by intro x hx; rw [List.mem_singleton] at hx; omega)
  have hk35 : Keeps [] w3 w5 := hk4.trans' hk45
  have HS1 := Lib.hid hS1
  have HB9 := Lib.hid hb9
  have HBW : Hid (BReads w5 vb gb BW) := hb.keep hk45 (by simp)
  have HS5 := Lib.hid (HS3.out.keep hk35 (by simp) (by simp))
  have HK5 : Hid (Keeps [b, gp] w w5) := HK3.out.trans' (hk35.mono (by simp))
  have HGB : Hid (own.length ≠ 0 → gb ≠ b ∧ gb ≠ gp1 ∧ gb ≠ w4.heap.size) := fun h0 => by
    obtain ⟨a, cap, q1, q2, q3, q4⟩ := hb
    have := (q4 (by omega)).1
    omega
  have hgo3 : go < w3.heap.size := hgo2
  have HC5 : Hid (∀ k, k < own.length → ∀ wx, Keeps [b, gp1] w5 wx → go < w3.heap.size ∧ ∃ off, ao = some ⟨go, off, none⟩ ∧ wx.cell? ⟨go, off + k, none⟩ = some (.int .i64 ((own.getD k 0 : Nat) : Int))) := fun k hk wx hkx => by
    obtain ⟨h1, off, h2, h3⟩ := HOC.out k hk
    refine ⟨h1, off, h2, ?_⟩
    have e1 : wx.heap[go]? = w5.heap[go]? := hkx.block go (Nat.lt_of_lt_of_le h1 hk35.size) (by simp only [List.mem_cons, List.not_mem_nil, or_false]; omega)
    have e2 : w5.heap[go]? = w3.heap[go]? := hk35.block go h1 (by simp)
    exact (World.cell?_of_block (w := w3) (w' := wx) (a := ⟨go, off + k, none⟩) (e1.trans e2)).trans h3
  have hb5 : w4.heap.size < w5.heap.size := hb9.lt
  have hz5 := hk35.size
  have hgp5 : gp1 < w3.heap.size := by
    rcases hgp1 with h | h
    · omega
    · omega
  have HON0 : Hid (Onto w5 b gp1 B (ps ++ (tps ++ blkPs BW own 0)) w5) := by
    refine Onto.refl ?_
    have := HS5.out
    simpa [blkPs] using this
  clear hS1 hb9 hk5 hk45 hk35 hk4 hb HL3 HS3 HE3 HB3 HRO HK3 HLV HOC
  generalize hg9 : w4.heap.size = g9 at *
  go_wp2_with ((with_reducible show wpList _ _ _ (⟨_, .store 63 (.tmp 9) (.tmp 40), _, _, _, _⟩ :: _) _ _); refine wpList_store_any rfl 63 (.tmp 9) (.tmp 40) rfl _ rfl _ rfl _ HS1.out ?_)
  go_loopg [44] own.length (fun gh s44 wx => ∃ k : Nat, k + gh = own.length ∧ s44 = .int .i64 (k : Int) ∧ Hid (Onto w5 b gp1 B (ps ++ (tps ++ blkPs BW own k)) wx))
  case atStart => exact ⟨0, by omega, rfl, HON0.out⟩
  case round =>
    clear HON0
    obtain ⟨k, hk, rfl, HP⟩ := hrel
    obtain ⟨gp2, hgp2, hs2, hk2⟩ := HP.out
    have HLR : Hid (∀ wx, Keeps [] wr wx → (loadVar 63 ⟨g9, 0, none⟩).run Tryd.prog wx = .ok (.agg (u64s RW).toArray) wx) := fun wx hkx => load_r8 ((HB9.out.keep hk2 (by simp only [List.mem_cons, List.not_mem_nil, or_false]; omega)).keep hkx (by simp)) hrl
    have hTL := HTL.out
    have hPS := HPS.out
    have hzr := hk2.size
    cases gk with
    | zero =>
      obtain rfl : k = own.length := by omega
      have HIQ : Hid (∀ wx, Calls Tryd.prog 31 #[.int .i64 i] wx fun e w' => e = .returned (.int .i64 ((q : Nat) : Int)) ∧ wx = w') := fun wx => HI.out wx
      have HPR : Hid (∀ wx, Keeps [] wr wx → Calls Tryd.prog 35 #[.pointer (some ⟨b, 0, none⟩), .int .i64 ((q : Nat) : Int), .agg (u64s RW).toArray] wx fun e w' => e = .returned (.tuple #[]) ∧ Hid (Onto w b gp B (ps ++ lps) w')) := fun wx hk' => by
        have h1 := putRow_at (hs2.keep hk' (by simp) (by simp)) (by simp only [List.length_append, blkPs_len, hTL]; omega) q hq3 RW hrl
        refine h1.mono ?_
        rintro e w' ⟨he, h2⟩
        refine ⟨he, ?_⟩
        rw [List.append_assoc, List.append_assoc, ← HLAY.out] at h2
        have h3 := Onto.trans hgp2 hk2 (Onto.mono hk' (by omega) h2)
        refine Onto.trans ?_ HK5.out h3
        rcases hgp1 with h | h
        · exact .inl h
        · exact .inr ⟨by omega, by omega⟩
      clear HP hs2 HC5 HLAY
      generalize (u64s RW).toArray = ZW at *
      generalize ((q : Nat) : Int) = qi at *
      go_wp2_with fail
      refine wp_region_last (l := [_, _, _, _]) (o := _) (S := fun wx => Keeps [] wr wx) (by kernel_rfl) rfl (by kernel_rfl) (fun d _ _ _ _ h => by cases d <;> exact h) ((Keeps.refl _ _).drew) (by kernel_rfl) (by kernel_rfl) ?_
      repeat (first
        | (refine EachList.cons (.agg ZW) (EachIf.load rfl 63 (.tmp 9) rfl _ rfl fun wx hx => HLR.out wx hx) ?_; simp only [Act.put, List.setIfInBounds_toArray, List.set_cons_zero, List.set_cons_succ])
        | (refine EachList.cons (.int .i64 qi) (EachIf.call rfl 31 #[.int .i64 i] ?he ?h) ?_; (case he => (intro wz; go_simp)); (case h => exact fun wx hx => (HIQ.out wx).mono fun e w' he => ⟨he.1, he.2 ▸ hx⟩); simp only [Act.put, List.setIfInBounds_toArray, List.set_cons_zero, List.set_cons_succ])
        | (refine EachList.cons ?_ (EachIf.val rfl ?h) ?_; (case h => (intro wx hx; clear hx; go_simp; rfl)); simp only [Act.put, List.setIfInBounds_toArray, List.set_cons_zero, List.set_cons_succ]))
      refine EachList.done fun wx hx => ?_
      have HKX := Lib.hid hx
      clear hx
      go_wp2_with fail
      refine (HPR.out _ HKX.out).mono ?_; rintro e w' ⟨rfl, hon⟩
      go_wp2_with fail
      go_ret
      exact ⟨rfl, hon.out⟩
    | succ gg =>
      have hkn : k < own.length := by omega
      have hlt : (k : Int) < (own.length : Int) := by omega
      have hk0 : (0 : Int) ≤ (k : Int) := by omega
      obtain ⟨hgo4, off, rfl, c1⟩ := HC5.out k hkn wr hk2
      obtain ⟨offb, cap, rfl, hgb2, hld⟩ := breads_load HBW.out (k := k) (by omega) (HB8.out k hkn)
      have hgb3 := HGB.out (by omega)
      have HLD : Hid (∀ wx, Keeps [] wr wx → (loadVar 63 ⟨gb, offb + k * 8, none⟩).run Tryd.prog wx = .ok (.agg (u64s (BW.getD k [])).toArray) wx) := fun wx hkx => hld wx ((hkx.block gb (Nat.lt_of_lt_of_le hgb2 hk2.size) (by simp)).trans (hk2.block gb hgb2 (by simp only [List.mem_cons, List.not_mem_nil, or_false]; omega)))
      have hx256 : own.getD k 0 < 256 := (HIN.out _ (by rw [List.getD_eq_getElem?_getD, List.getElem?_eq_getElem hkn]; exact List.getElem_mem hkn)).2
      have HBK : Hid (∀ wx, Calls Tryd.prog 36 #[.int .i64 ((own.getD k 0 : Nat) : Int)] wx fun e w' => e = .returned (.int .i64 ((1080 + 8 * own.getD k 0 : Nat) : Int)) ∧ wx = w') := fun wx => by
        have := txBlock_at ((own.getD k 0 : Nat) : Int) wx
        rwa [blockN, if_neg (by omega), show 1080 + ((own.getD k 0 : Nat) : Int) * 8 = ((1080 + 8 * own.getD k 0 : Nat) : Int) by omega] at this
      have HPR : Hid (∀ wx, Keeps [] wr wx → Calls Tryd.prog 35 #[.pointer (some ⟨b, 0, none⟩), .int .i64 ((1080 + 8 * own.getD k 0 : Nat) : Int), .agg (u64s (BW.getD k [])).toArray] wx fun e w' => e = .returned (.tuple #[]) ∧ Hid (Onto w5 b gp1 B (ps ++ (tps ++ blkPs BW own (k + 1))) w')) := fun wx hk' => by
        have h1 := putRow_at (hs2.keep hk' (by simp) (by simp)) (by simp only [List.length_append, blkPs_len, hTL]; omega) (1080 + 8 * own.getD k 0) (by omega) (BW.getD k []) (HB8.out k hkn)
        refine h1.mono ?_
        rintro e w' ⟨he, h2⟩
        refine ⟨he, ?_⟩
        rw [List.append_assoc, List.append_assoc, ← blkPs_succ] at h2
        exact Onto.trans hgp2 hk2 (Onto.mono hk' (by omega) h2)
      rw [hblen] at *
      clear HP hs2 HLR hx256 hld hgb2 hgb3 HBW HC5 HLAY
      generalize ((1080 + 8 * own.getD k 0 : Nat) : Int) = bk at *
      generalize ((own.getD k 0 : Nat) : Int) = x at *
      generalize (u64s (BW.getD k [])).toArray = RK at *
      go_wp2_with fail
      refine wp_region_last (l := [_, _, _, _, _, _, _]) (o := _) (S := fun wx => Keeps [] wr wx) (by kernel_rfl) rfl (by kernel_rfl) (fun d _ _ _ _ h => by cases d <;> exact h) ((Keeps.refl _ _).drew) (by kernel_rfl) (by kernel_rfl) ?_
      repeat (first
        | (refine EachList.cons (.agg RK) (EachIf.load rfl 63 (.tmp 54) rfl _ rfl fun wx hx => HLD.out wx hx) ?_; simp only [Act.put, List.setIfInBounds_toArray, List.set_cons_zero, List.set_cons_succ])
        | (refine EachList.cons (.int .i64 bk) (EachIf.call rfl 36 #[.int .i64 x] ?he ?h) ?_; (case he => (intro wz; go_simp)); (case h => exact fun wx hx => (HBK.out wx).mono fun e w' he => ⟨he.1, he.2 ▸ hx⟩); simp only [Act.put, List.setIfInBounds_toArray, List.set_cons_zero, List.set_cons_succ])
        | (refine EachList.cons ?_ (EachIf.val rfl ?h) ?_; (case h => (intro wx hx; clear hx; go_simp; rfl)); simp only [Act.put, List.setIfInBounds_toArray, List.set_cons_zero, List.set_cons_succ]))
      refine EachList.done fun wx hx => ?_
      have HKX := Lib.hid hx
      clear hx
      go_wp2_with fail
      refine (HPR.out _ HKX.out).mono ?_; rintro e w' ⟨rfl, hon⟩
      go_wp2_with fail
      go_roundg gg
      case measure => omega
      case rel => exact ⟨k + 1, by omega, by go_num, hon.out⟩

end Go.Proofs.YtmhcnkjmnbnldaaDoor

namespace Go.Proofs.YtmhcnkjmnbnldaaDoor
open Go.RowKit

theorem eq_entry (s : ByteArray) (x : Int) (w : World) : (Op.equalIn 10000 57 (.agg #[.string s, .int .i64 x]) (.agg #[.string s, .int .i64 x])).run Tryd.prog w = .ok true w := by
  rw [run_equalIn_struct w 9999 57 _ _ (by kernel_rfl) (by kernel_rfl)]
  go_simp

theorem guard_entry : Tryd.prog.eqGuardType Tryd.prog.depth 57 = false := by kernel_rfl

theorem load_entry {w : World} {g off : Nat} {s : ByteArray} {x : Int} (h0 : w.cell? ⟨g, off, none⟩ = some (.string s)) (h1 : w.cell? ⟨g, off + 1, none⟩ = some (.int .i64 x)) :
    (loadVar 57 ⟨g, off, none⟩).run Tryd.prog w = .ok (.agg #[.string s, .int .i64 x]) w :=
  run_loadVar_cells g off [.string s, .int .i64 x] Tryd.underlying57 rfl size_entry fun j hj => by
    rcases (show j = 0 ∨ j = 1 by have : j < 2 := hj; omega) with rfl | rfl
    · exact h0
    · exact h1

set_option maxRecDepth 100000 in
set_option maxHeartbeats 4000000 in
theorem refSame_at (n : Ino) (v1 v2 : Value) (g1 g2 : Nat) (hB : n.B.length = 13) (w : World) (h1 : EReads w v1 g1 n.E) (h2 : EReads w v2 g2 n.E) :
    Calls Tryd.prog 13 #[.agg (inoC n v1), .agg (inoC n v2)] w fun e w' => e = .returned (.bool true) ∧ Keeps [] w w' := by
  obtain ⟨a1, c1, rfl, hc1, hm1, HE1⟩ := h1.open
  obtain ⟨a2, c2, rfl, hc2, hm2, HE2⟩ := h2.open
  have hat1 := inoAt (.slice a1 n.E.length c1) hB
  have hat2 := inoAt (.slice a2 n.E.length c2) hB
  generalize inoC n (.slice a1 n.E.length c1) = Z1 at *
  generalize inoC n (.slice a2 n.E.length c2) = Z2 at *
  have hb1 := (Blk.new w Z1 25).alloc (.cells Z2 25)
  have hb2 := Blk.new (w.alloc (.cells Z1 25)) Z2 25
  rw [show (w.alloc (.cells Z1 25)).heap.size = w.heap.size + 1 by simp] at hb2
  have p0 : ((w.alloc (.cells Z1 25)).alloc (.cells Z2 25)).cell? ⟨w.heap.size, 0, none⟩ = some (.int .i64 n.F) := by rw [hb1.cell]; exact hat1.f0
  have q0 : ((w.alloc (.cells Z1 25)).alloc (.cells Z2 25)).cell? ⟨w.heap.size + 1, 0, none⟩ = some (.int .i64 n.F) := by rw [hb2.cell]; exact hat2.f0
  have p1 : ((w.alloc (.cells Z1 25)).alloc (.cells Z2 25)).cell? ⟨w.heap.size, 1, none⟩ = some (.int .i64 n.K) := by rw [hb1.cell]; exact hat1.f1
  have q1 : ((w.alloc (.cells Z1 25)).alloc (.cells Z2 25)).cell? ⟨w.heap.size + 1, 1, none⟩ = some (.int .i64 n.K) := by rw [hb2.cell]; exact hat2.f1
  have p2 : ((w.alloc (.cells Z1 25)).alloc (.cells Z2 25)).cell? ⟨w.heap.size, 2, none⟩ = some (.int .i64 n.L) := by rw [hb1.cell]; exact hat1.f2
  have q2 : ((w.alloc (.cells Z1 25)).alloc (.cells Z2 25)).cell? ⟨w.heap.size + 1, 2, none⟩ = some (.int .i64 n.L) := by rw [hb2.cell]; exact hat2.f2
  have p3 : ((w.alloc (.cells Z1 25)).alloc (.cells Z2 25)).cell? ⟨w.heap.size, 3, none⟩ = some (.int .i64 n.S) := by rw [hb1.cell]; exact hat1.f3
  have q3 : ((w.alloc (.cells Z1 25)).alloc (.cells Z2 25)).cell? ⟨w.heap.size + 1, 3, none⟩ = some (.int .i64 n.S) := by rw [hb2.cell]; exact hat2.f3
  have p17 : ((w.alloc (.cells Z1 25)).alloc (.cells Z2 25)).cell? ⟨w.heap.size, 17, none⟩ = some (.slice a1 n.E.length c1) := by rw [hb1.cell]; exact hat1.f5
  have q17 : ((w.alloc (.cells Z1 25)).alloc (.cells Z2 25)).cell? ⟨w.heap.size + 1, 17, none⟩ = some (.slice a2 n.E.length c2) := by rw [hb2.cell]; exact hat2.f5
  have HL1 : Hid ((loadVar 22 ⟨w.heap.size, 4, none⟩).run Tryd.prog ((w.alloc (.cells Z1 25)).alloc (.cells Z2 25)) = .ok (.agg (zs n.B).toArray) ((w.alloc (.cells Z1 25)).alloc (.cells Z2 25))) := load_n13 (off := 4) hb1 hB hat1.f4
  have HL2 : Hid ((loadVar 22 ⟨w.heap.size + 1, 4, none⟩).run Tryd.prog ((w.alloc (.cells Z1 25)).alloc (.cells Z2 25)) = .ok (.agg (zs n.B).toArray) ((w.alloc (.cells Z1 25)).alloc (.cells Z2 25))) := load_n13 (off := 4) hb2 hB hat2.f4
  have heq := fun wx => eq_n13 (a := n.B) (b := n.B) hB hB wx
  rw [decide_eq_true (rfl : n.B = n.B)] at heq
  have hg13 := guard_n13
  have HB1 := Lib.hid hb1
  have HB2 := Lib.hid hb2
  have H5 := Lib.hid hat1.f5
  have H6 := Lib.hid hat2.f5
  have hes := eq_entry
  have hge := guard_entry
  have HK0 : Hid (Keeps [] w ((w.alloc (.cells Z1 25)).alloc (.cells Z2 25))) := ((Keeps.refl [] w).alloc _).alloc _
  unfold maxLen at hm1 hm2
  clear hb1 hb2 hat1 hat2 h1 h2 hB
  generalize (zs n.B).toArray = ZB at *
  generalize hm : n.E.length = m at *
  clear hm
  go_enter Tryd.func13, Tryd.ntmps13
  go_wp2_with (first | ((with_reducible show wpList _ _ _ (⟨_, .load 22 (.tmp 33), _, _, _, _⟩ :: _) _ _); refine wpList_load_want (by simp [Region.wanted, yielded]) 22 (.tmp 33) rfl _ rfl _ HL1.out ?_) | ((with_reducible show wpList _ _ _ (⟨_, .load 22 (.tmp 35), _, _, _, _⟩ :: _) _ _); refine wpList_load_want (by simp [Region.wanted, yielded]) 22 (.tmp 35) rfl _ rfl _ HL2.out ?_))
  clear p0 p1 p2 p3 p17 q0 q1 q2 q3 q17 heq
  go_loopg [5] m (fun gh s5 wx => ∃ k : Nat, k + gh = m ∧ s5 = .int .i64 (k : Int) ∧ Hid (Keeps [] ((w.alloc (.cells Z1 25)).alloc (.cells Z2 25)) wx))
  case atStart => exact ⟨0, by omega, rfl, Keeps.refl _ _⟩
  case round =>
    obtain ⟨k, hk, rfl, HP⟩ := hrel
    have hb1 := HB1.out.keep HP.out (by simp)
    have hb2 := HB2.out.keep HP.out (by simp)
    have p17 : wr.cell? ⟨w.heap.size, 17, none⟩ = some (.slice a1 m c1) := by rw [hb1.cell]; exact H5.out
    cases gk with
    | zero =>
      obtain rfl : k = m := by omega
      have HKR := Lib.hid (HK0.out.trans' HP.out)
      clear hb1 hb2 HP
      go_wp2_with fail
      go_ret
      exact ⟨rfl, HKR.out⟩
    | succ gg =>
      have hkm : k < m := by omega
      have hlt : (k : Int) < (m : Int) := by omega
      have hk0 : (0 : Int) ≤ (k : Int) := by omega
      obtain ⟨hgg1, off1, rfl, d1, d2⟩ := HE1.out k hkm
      obtain ⟨hgg2, off2, rfl, d3, d4⟩ := HE2.out k hkm
      have HKw := HK0.out.trans' HP.out
      have hz := HKw.size
      have hcc : ∀ wx, Keeps [] wr wx → ∀ g off, g < w.heap.size → wx.cell? ⟨g, off, none⟩ = w.cell? ⟨g, off, none⟩ := fun wx hk' g off hg => World.cell?_of_block ((HKw.trans' hk').block g hg (by simp))
      have HS1 : Hid (∀ wx, Keeps [] wr wx → (loadVar 23 ⟨w.heap.size, 17, none⟩).run Tryd.prog wx = .ok (.slice (some ⟨g1, off1, none⟩) m c1) wx) := fun wx hk' => load_sl Tryd.underlying23 (hb1.keep hk' (by simp)) H5.out
      have HS2 : Hid (∀ wx, Keeps [] wr wx → (loadVar 23 ⟨w.heap.size + 1, 17, none⟩).run Tryd.prog wx = .ok (.slice (some ⟨g2, off2, none⟩) m c2) wx) := fun wx hk' => load_sl Tryd.underlying23 (hb2.keep hk' (by simp)) H6.out
      have HN1 : Hid (∀ wx, Keeps [] wr wx → (loadVar 57 ⟨g1, off1 + k * 2, none⟩).run Tryd.prog wx = .ok (.agg #[.string (enm n.E k), .int .i64 (eno n.E k)]) wx) := fun wx hk' => load_entry ((hcc wx hk' _ _ hgg1).trans d1) ((hcc wx hk' _ _ hgg1).trans d2)
      have HN2 : Hid (∀ wx, Keeps [] wr wx → (loadVar 57 ⟨g2, off2 + k * 2, none⟩).run Tryd.prog wx = .ok (.agg #[.string (enm n.E k), .int .i64 (eno n.E k)]) wx) := fun wx hk' => load_entry ((hcc wx hk' _ _ hgg2).trans d3) ((hcc wx hk' _ _ hgg2).trans d4)
      clear hcc d1 d2 d3 d4 hb1 hb2
      generalize enm n.E k = s at *
      generalize eno n.E k = x at *
      go_wp2_with fail
      refine wp_region_each (S := fun wx => Keeps [] wr wx) (by kernel_rfl) (by kernel_rfl) (fun d _ _ _ _ h => by cases d <;> exact h) ((Keeps.refl _ _).drew) (by kernel_rfl) ?_
      repeat (first
        | (refine EachList.cons (.slice (some ⟨g1, off1, none⟩) m c1) (EachIf.load rfl 23 (.tmp 55) rfl _ rfl fun wx hx => HS1.out wx hx) ?_; simp only [Act.put, List.setIfInBounds_toArray, List.set_cons_zero, List.set_cons_succ])
        | (refine EachList.cons (.slice (some ⟨g2, off2, none⟩) m c2) (EachIf.load rfl 23 (.tmp 60) rfl _ rfl fun wx hx => HS2.out wx hx) ?_; simp only [Act.put, List.setIfInBounds_toArray, List.set_cons_zero, List.set_cons_succ])
        | (refine EachList.cons (.agg #[.string s, .int .i64 x]) (EachIf.load rfl 57 (.tmp 58) rfl _ rfl fun wx hx => HN1.out wx hx) ?_; simp only [Act.put, List.setIfInBounds_toArray, List.set_cons_zero, List.set_cons_succ])
        | (refine EachList.cons (.agg #[.string s, .int .i64 x]) (EachIf.load rfl 57 (.tmp 63) rfl _ rfl fun wx hx => HN2.out wx hx) ?_; simp only [Act.put, List.setIfInBounds_toArray, List.set_cons_zero, List.set_cons_succ])
        | (refine EachList.cons ?_ (EachIf.val rfl ?h) ?_; (case h => (intro wx hx; clear hx; go_simp; rfl)); simp only [Act.put, List.setIfInBounds_toArray, List.set_cons_zero, List.set_cons_succ]))
      refine EachList.done fun wx hx => ?_
      have HKX := Lib.hid (HP.out.trans' hx)
      clear hx
      go_wp2_with fail
      go_roundg gg
      case measure => omega
      case rel => exact ⟨k + 1, by omega, by go_num, HKX.out⟩

end Go.Proofs.YtmhcnkjmnbnldaaDoor

namespace Go.Proofs.YtmhcnkjmnbnldaaDoor
open Go.RowKit

theorem tag_laid {n : Ino} (hR : RightP n) (l : List Int) (x : Int) : tagN (inoRow n l x) = ⟨n.F, n.K, n.L, n.S, List.replicate 13 0, []⟩ := by
  obtain ⟨hF, hL, hK⟩ := hR
  have hK2 : n.K = 1 ∨ n.K = 2 := hK.imp (·.1) (·.1)
  have hS : 0 ≤ n.S ∧ n.S ≤ 832 := by
    rcases hK with ⟨_, h⟩ | ⟨_, h⟩
    · exact h.1
    · have h1 := h.1
      have h2 := h.2.1
      omega
  have e0 : (inoRow n l x).getD 0 0 = n.F + 256 * n.K + 65536 * n.L := rfl
  have e1 : (inoRow n l x).getD 1 0 = n.S := rfl
  unfold tagN
  rw [e0, e1, show (n.F + 256 * n.K + 65536 * n.L) % 256 = n.F by omega, show (n.F + 256 * n.K + 65536 * n.L) / 256 % 256 = n.K by omega, show (n.F + 256 * n.K + 65536 * n.L) / 65536 % 65536 = n.L by omega, show wrap64 n.S = n.S by unfold wrap64; omega]

theorem inoRow_7 {n : Ino} {l : List Int} (hl : l.length = 13) (x : Int) : (inoRow n l x).getD 7 0 = x := by
  show (l.take 5 ++ [x]).getD 5 0 = x
  rw [List.getD_eq_getElem?_getD, List.getElem?_append_right (by rw [List.length_take, hl]; omega), List.length_take, hl]
  rfl

theorem inoRow_5 {n : Ino} {l : List Int} (hl : l.length = 13) (x : Int) : ((inoRow n l x).drop 2).take 5 = l.take 5 := by
  show (l.take 5 ++ [x]).take 5 = _
  rw [List.take_append_of_le_length (by rw [List.length_take, hl]; omega), List.take_take]
  rfl

theorem need_le (n : Ino) : blocksN n.E.length ≤ needN n ∧ needN n ≤ blocksN n.E.length + 1 := by unfold needN; split <;> omega

theorem own_parts {own : List Nat} {c : Nat} (h1 : c ≤ own.length) (h2 : own.length ≤ c + 1) : own.take c ++ (if c < own.length then [own.getD c 0] else []) = own := by
  split
  · rename_i h
    have : own.drop c = [own.getD c 0] := by
      rw [List.drop_eq_getElem_cons h, List.drop_of_length_le (by omega), List.getD_eq_getElem?_getD, List.getElem?_eq_getElem h]
      rfl
    rw [← this, List.take_append_drop]
  · rw [List.append_nil, List.take_of_length_le (by omega)]

theorem take_laid {n : Ino} {own : List Nat} (ho : blocksN n.E.length ≤ own.length) : ((laidL n own).take (blocksN n.E.length)).map Int.toNat = own.take (blocksN n.E.length) := by
  unfold laidL
  rw [List.take_append_of_le_length (by rw [List.length_map, List.length_take]; omega), List.take_of_length_le (by rw [List.length_map, List.length_take]; omega), List.map_map]
  conv => rhs; rw [← List.map_id (List.take (blocksN n.E.length) own)]
  exact List.map_congr_left fun a _ => Int.toNat_natCast a

/-- What is laid is read again. -/
theorem read_laid {X : List Int} {q : Nat} {n : Ino} {own : List Nat} (hB : n.B.length = 13) (hR : RightP n) (hF : n.F = 1) (ho : own.length = needN n) (hm : ∀ c ∈ own, c ≠ 0 ∧ c < 256) (h : LaidAt X q n own) :
    ReadOk X (rowL X q) ∧ readI X (rowL X q) = n ∧ ownI X (rowL X q) = own := by
  have hbl := blocks_le hR
  have hcn := need_le n
  have hoc : blocksN n.E.length ≤ own.length := by omega
  have hll := laidL_len (own := own) hB (by omega) hoc
  have h256 := laidL_256 hR hB hoc hm
  have htag := tag_laid hR (laidL n own) ((listI n own : Nat) : Int)
  have g1 : (inoRow n (laidL n own) ((listI n own : Nat) : Int)).getD 1 0 = n.S := rfl
  have g7 := inoRow_7 (n := n) hll ((listI n own : Nat) : Int)
  have g5 := inoRow_5 (n := n) hll ((listI n own : Nat) : Int)
  have hK : n.K = 1 ∨ n.K = 2 := hR.2.2.imp (·.1) (·.1)
  have hfile : n.K = 1 → n.E = [] ∧ blocksN n.E.length = 0 := fun hk => by
    rcases hR.2.2 with h | h
    · have := h.2.2.1
      exact ⟨List.length_eq_zero_iff.1 this, by unfold blocksN; omega⟩
    · have := h.1; omega
  have hdir : n.K = 2 → DirP n := fun hk => by
    rcases hR.2.2 with h | h
    · have := h.1; omega
    · exact h.2
  have hlt256 : listI n own < 256 := by
    unfold listI
    split
    · exact (hm _ (getD_mem (by assumption))).2
    · omega
  -- the list, or none
  have hlist : (blocksN n.E.length < own.length ∧ listI n own = own.getD (blocksN n.E.length) 0 ∧ listI n own ≠ 0 ∧ (laidL n own).drop 5 ≠ List.replicate 8 0) ∨ (blocksN n.E.length = own.length ∧ listI n own = 0 ∧ (laidL n own).drop 5 = List.replicate 8 0) := by
    by_cases hc : blocksN n.E.length < own.length
    · left
      have hli : listI n own = own.getD (blocksN n.E.length) 0 := by unfold listI; rw [if_pos hc]
      refine ⟨hc, hli, by rw [hli]; exact (hm _ (getD_mem hc)).1, fun hz => ?_⟩
      have h5 : 5 < blocksN n.E.length ∨ n.B.drop 5 ≠ List.replicate 8 0 := by
        rcases Classical.em (5 < blocksN n.E.length ∨ n.B.drop 5 ≠ List.replicate 8 0) with h | h
        · exact h
        · have : needN n = blocksN n.E.length := by unfold needN; rw [if_neg h]
          omega
      by_cases h6 : 5 < blocksN n.E.length
      · have e := laidL_own hoc h6
        have e2 : ((laidL n own).drop 5).getD 0 0 = (0 : Int) := by rw [hz]; rfl
        rw [List.getD_eq_getElem?_getD, List.getElem?_drop, ← List.getD_eq_getElem?_getD, e] at e2
        have := (hm _ (getD_mem (show 5 < own.length by omega))).1
        omega
      · have h7 := h5.resolve_left h6
        rcases hK with hk | hk
        · have hb0 := (hfile hk).2
          apply h7
          rw [← hz]
          unfold laidL
          rw [hb0]
          rfl
        · apply h7
          rw [(hdir hk).2.2.1]
          rfl
    · right
      have hce : blocksN n.E.length = own.length := by omega
      have hli : listI n own = 0 := by unfold listI; rw [if_neg hc]
      have h5 : ¬ (5 < blocksN n.E.length ∨ n.B.drop 5 ≠ List.replicate 8 0) := fun h => by
        have : needN n = blocksN n.E.length + 1 := by unfold needN; rw [if_pos h]
        omega
      have h6 : n.B.drop 5 = List.replicate 8 0 := Classical.not_not.1 fun h => h5 (.inr h)
      refine ⟨hce, hli, z_ext (by rw [List.length_drop, hll]; rfl) fun k hk => ?_⟩
      rw [← h6, List.getD_eq_getElem?_getD, List.getElem?_drop, ← List.getD_eq_getElem?_getD, laidL_get hoc, if_neg (by omega), List.getD_eq_getElem?_getD, List.getD_eq_getElem?_getD, List.getElem?_drop]
  have hnum : numAll X (inoRow n (laidL n own) ((listI n own : Nat) : Int)) = laidL n own := by
    unfold numAll
    rw [g5, g7]
    conv => rhs; rw [← List.take_append_drop 5 (laidL n own)]
    congr 1
    rcases hlist with ⟨hc, hli, h0, -⟩ | ⟨hc, hli, h0⟩
    · rw [if_neg (by omega), Int.toNat_natCast, hli, h.own _ hc, ownRow, if_neg (Nat.lt_irrefl _)]
    · rw [if_pos (by omega), h0]
  have hents : n.K = 2 → n.S.toNat = n.E.length ∧ EntsOk X (laidL n own) n.E.length ∧ entsE X (laidL n own) n.E.length = n.E := fun hk => by
    have hd := hdir hk
    have hent : ∀ e, e < n.E.length → X.getD (entAt (laidL n own) e) 0 = ((wordV (bl (enm n.E e)) : Nat) : Int) ∧ X.getD (entAt (laidL n own) e + 1) 0 = eno n.E e ∧ nameN (wordV (bl (enm n.E e))) = some (bl (enm n.E e)) := fun e he => by
      have hk4 : e / 4 < blocksN n.E.length := by unfold blocksN; omega
      have hrow := h.own (e / 4) (by omega)
      rw [ownRow, if_pos hk4] at hrow
      have hat : entAt (laidL n own) e = 1080 + 8 * own.getD (e / 4) 0 + 2 * (e % 4) := by unfold entAt; rw [laidL_own hoc hk4, Int.toNat_natCast]
      have r0 : (rowL X (1080 + 8 * own.getD (e / 4) 0)).getD (2 * (e % 4)) 0 = (entRow n.E (e / 4)).getD (2 * (e % 4)) 0 := by rw [hrow]
      have r1 : (rowL X (1080 + 8 * own.getD (e / 4) 0)).getD (2 * (e % 4) + 1) 0 = (entRow n.E (e / 4)).getD (2 * (e % 4) + 1) 0 := by rw [hrow]
      rw [rowL_get _ _ _ (by omega)] at r0 r1
      unfold entRow at r0 r1
      rw [entTo_get _ _ _ _ (by omega), if_pos (by omega), entX, if_pos (by omega), show 4 * (e / 4) + 2 * (e % 4) / 2 = e by omega] at r0
      rw [entTo_get _ _ _ _ (by omega), if_pos (by omega), entX, if_neg (by omega), show 4 * (e / 4) + (2 * (e % 4) + 1) / 2 = e by omega] at r1
      have hg := (hd.2.2.2 e he).1
      refine ⟨by rw [hat, r0], by rw [hat, Nat.add_assoc, r1], ?_⟩
      unfold wordV
      rw [if_pos hg]
      exact nameN_wordN hg (bl_lt _)
    have hE : entsE X (laidL n own) n.E.length = n.E := e_ext (entsE_len _ _ _) fun e he => by
      rw [entsE_len] at he
      obtain ⟨h1, h2, h3⟩ := hent e he
      obtain ⟨e1, e2⟩ := entsE_get X (laidL n own) n.E.length e he
      rw [e1, e2]
      unfold entW entI
      rw [h1, h2, Int.toNat_natCast, h3]
      exact ⟨strN_bl _, rfl⟩
    refine ⟨by rw [hd.2.1, Int.toNat_natCast], ⟨hd.1, ?_, fun k hk => ?_⟩, hE⟩
    · refine z_ext (by rw [hll, uptoL_len hll (by omega)]) fun k _ => ?_
      rw [uptoL_get hll (by omega)]
      split
      · rfl
      · rw [laidL_get hoc, if_neg (by assumption), hd.2.2.1, List.getD_eq_getElem?_getD, List.getElem?_replicate]
        split <;> rfl
    · have hko : k < own.length := by omega
      have hkm := hm _ (getD_mem hko)
      refine ⟨by rw [laidL_own hoc hk]; omega, fun j hj => ?_, ?_⟩
      · obtain ⟨h1, h2, h3⟩ := hent (4 * k + j) (by omega)
        unfold entW entI
        rw [h1, h2, Int.toNat_natCast, h3]
        have := (hd.2.2.2 (4 * k + j) (by omega)).2.1
        exact ⟨rfl, by omega⟩
      · rw [hE, laidL_own hoc hk, Int.toNat_natCast]
        have := h.own k hko
        rw [ownRow, if_pos hk] at this
        exact this.symm
  rw [h.row]
  have hread : readI X (inoRow n (laidL n own) ((listI n own : Nat) : Int)) = n := by
    unfold readI
    rw [hnum, htag, g1]
    obtain ⟨F, K, L, S, B, E⟩ := n
    rcases hK with hk | hk
    · have hb := hfile hk
      rw [if_neg (show ¬ K = 2 by have : K = 1 := hk; omega)]
      show Ino.mk F K L S _ [] = Ino.mk F K L S B E
      have he : E = [] := hb.1
      have hb0 : blocksN E.length = 0 := hb.2
      rw [he]
      congr 1
      unfold laidL
      have hz0 : blocksN ([] : List (ByteArray × Int)).length = 0 := by decide
      show (own.take (blocksN ([] : List (ByteArray × Int)).length)).map _ ++ B.drop (blocksN ([] : List (ByteArray × Int)).length) = B
      rw [hz0]
      rfl
    · obtain ⟨e1, e2, e3⟩ := hents hk
      have e1' : S.toNat = E.length := e1
      rw [if_pos (show K = 2 from hk)]
      show Ino.mk F K L S (List.replicate 13 0) (entsE X _ S.toNat) = Ino.mk F K L S B E
      have hb : B = List.replicate 13 0 := (hdir hk).2.2.1
      rw [e1', hb]
      congr 1
      rw [← hb]
      exact e3
  refine ⟨⟨⟨by rw [g7]; omega, fun k _ => by rw [hnum]; exact (h256 k).2, ?_⟩, ?_, fun hk => ?_, by rw [htag]; exact hF, by rw [hread]; exact hR, by rw [hread, hnum, g7]⟩, hread, ?_⟩
  · rw [g7, hnum]
    rcases hlist with ⟨_, _, _, h0⟩ | ⟨_, h0, _⟩
    · exact .inr h0
    · exact .inl (by omega)
  · rw [g1]
    rcases hK with hk | hk
    · rcases hR.2.2 with h | h
      · exact h.2.1.2
      · have := h.1; omega
    · have := (hdir hk).2.1; omega
  · rw [htag] at hk
    obtain ⟨e1, e2, e3⟩ := hents hk
    rw [hnum, g1, e1]
    exact e2
  · unfold ownI
    rw [hnum, htag, g1, g7]
    have hl2 : (if ((listI n own : Nat) : Int) = 0 then [] else [((listI n own : Nat) : Int).toNat]) = if blocksN n.E.length < own.length then [own.getD (blocksN n.E.length) 0] else [] := by
      rcases hlist with ⟨hc, hli, h0, -⟩ | ⟨hc, hli, -⟩
      · rw [if_neg (by omega), if_pos hc, Int.toNat_natCast, hli]
      · rw [if_pos (by omega), if_neg (by omega)]
    rw [hl2]
    have h1 : (if (Ino.mk n.F n.K n.L n.S (List.replicate 13 0) []).K = 2 then ((laidL n own).take (blocksN n.S.toNat)).map Int.toNat else []) = own.take (blocksN n.E.length) := by
      rcases hK with hk | hk
      · rw [if_neg (show ¬ n.K = 2 by omega), (hfile hk).2]
        rfl
      · rw [if_pos (show n.K = 2 from hk), (hents hk).1, take_laid hoc]
    rw [h1]
    exact own_parts hoc (by omega)

end Go.Proofs.YtmhcnkjmnbnldaaDoor

namespace Go.Proofs.YtmhcnkjmnbnldaaDoor
open Go.RowKit

theorem less_irrefl : ∀ a : List UInt8, Op.bytesLess a a = false
  | [] => rfl
  | a :: x => by
    have h : ¬ a < a := by rw [UInt8.lt_iff_toNat_lt]; omega
    simp [Op.bytesLess, less_irrefl x, h]

theorem less_total : ∀ a b : List UInt8, Op.bytesLess a b = false → a ≠ b → Op.bytesLess b a = true
  | [], [], _, h => absurd rfl h
  | _ :: _, [], _, _ => rfl
  | [], _ :: _, h, _ => by simp [Op.bytesLess] at h
  | a :: x, b :: y, h, hne => by
    simp only [Op.bytesLess, Bool.or_eq_false_iff, Bool.and_eq_false_iff, decide_eq_false_iff_not, beq_eq_false_iff_ne] at h
    simp only [Op.bytesLess, Bool.or_eq_true, Bool.and_eq_true, decide_eq_true_eq, beq_iff_eq]
    by_cases e : a = b
    · subst e
      refine .inr ⟨rfl, less_total x y ?_ (fun hxy => hne (by rw [hxy]))⟩
      exact h.2.resolve_left fun h' => h' rfl
    · left
      have h1 := h.1
      rw [UInt8.lt_iff_toNat_lt] at h1 ⊢
      have : a.toNat ≠ b.toNat := fun h => e (UInt8.toNat_inj.1 h)
      omega

theorem less_trans : ∀ a b c : List UInt8, Op.bytesLess a b = true → Op.bytesLess b c = true → Op.bytesLess a c = true
  | _, _, [], _, h => by simp [Op.bytesLess] at h
  | [], _, _ :: _, _, _ => rfl
  | _ :: _, [], _ :: _, h, _ => by simp [Op.bytesLess] at h
  | a :: x, b :: y, c :: z, h1, h2 => by
    simp only [Op.bytesLess, Bool.or_eq_true, Bool.and_eq_true, decide_eq_true_eq, beq_iff_eq] at h1 h2 ⊢
    rw [UInt8.lt_iff_toNat_lt] at *
    rcases h1 with h1 | ⟨rfl, h1⟩
    · rcases h2 with h2 | ⟨rfl, h2⟩
      · left; omega
      · left; exact h1
    · rcases h2 with h2 | ⟨rfl, h2⟩
      · left; exact h2
      · exact .inr ⟨rfl, less_trans x y z h1 h2⟩

/-- Names rise. -/
theorem names_rise {E : List (ByteArray × Int)} (h : ∀ k, k < E.length → 0 < k → leB (enm E k) (enm E (k - 1)) = false) : ∀ k j, j < k → k < E.length → Op.bytesLess (enm E j).toList (enm E k).toList = true := by
  intro k
  induction k with
  | zero => intro j hj; omega
  | succ k ih =>
    intro j hj hk
    have h1 := h (k + 1) hk (by omega)
    unfold leB at h1
    rw [Bool.or_eq_false_iff, Nat.add_sub_cancel] at h1
    have h2 : Op.bytesLess (enm E k).toList (enm E (k + 1)).toList = true := less_total _ _ h1.1 (by simpa using h1.2)
    by_cases e : j = k
    · subst e; exact h2
    · exact less_trans _ _ _ (ih j (by omega) (by omega)) h2

theorem names_apart {E : List (ByteArray × Int)} (h : ∀ k, k < E.length → 0 < k → leB (enm E k) (enm E (k - 1)) = false) {j k : Nat} (hj : j < k) (hk : k < E.length) : enm E j ≠ enm E k := fun e => by
  have := names_rise h k j hj hk
  rw [e, less_irrefl] at this
  cases this

theorem word_big {l : List Nat} (h : goodN l = true) : 72057594037927936 ≤ wordV l := by
  unfold wordV
  rw [if_pos h, wordN]
  have := (goodN_len h).1
  omega

theorem drop5_get {l : List Int} (k : Nat) : (l.drop 5).getD k 0 = l.getD (5 + k) 0 := by
  rw [List.getD_eq_getElem?_getD, List.getElem?_drop, List.getD_eq_getElem?_getD]

/-- The own blocks' numbers. -/
theorem take_toNat {l : List Int} {c k : Nat} (hk : k < c) (hc : c ≤ l.length) : ((l.take c).map Int.toNat).getD k 0 = (l.getD k 0).toNat := by
  rw [List.getD_eq_getElem?_getD, List.getElem?_map, List.getElem?_take, if_pos hk, List.getD_eq_getElem?_getD, List.getElem?_eq_getElem (by omega)]
  rfl

theorem laid_read {X : List Int} (h64 : In64 X) {q : Nat} (h : ReadOk X (rowL X q)) :
    RightP (readI X (rowL X q)) ∧ (readI X (rowL X q)).F = 1 ∧ (readI X (rowL X q)).B.length = 13 ∧ (ownI X (rowL X q)).length = needN (readI X (rowL X q)) ∧ (∀ c ∈ ownI X (rowL X q), c ≠ 0 ∧ c < 256) ∧ (ownI X (rowL X q)).Nodup ∧ LaidAt X q (readI X (rowL X q)) (ownI X (rowL X q)) := by
  obtain ⟨hno, hS, hen, hF, hR, hrow⟩ := h
  have hr8 := rowL_len X q
  have hr64 : In64 (rowL X q) := fun j => by
    by_cases hj : j < 8
    · rw [rowL_get _ _ _ hj]; exact h64 _
    · rw [List.getD_eq_getElem?_getD, List.getElem?_eq_none (by rw [hr8]; omega)]
      simp
  have h256 := numAll_256 h64 hr64 hr8 hno
  have hll := numAll_len (X := X) hr8
  have hdl : numAll X (rowL X q) = ((rowL X q).drop 2).take 5 ++ (if (rowL X q).getD 7 0 = 0 then List.replicate 8 0 else rowL X (1080 + 8 * ((rowL X q).getD 7 0).toNat)) := rfl
  have hd5 : (numAll X (rowL X q)).drop 5 = if (rowL X q).getD 7 0 = 0 then List.replicate 8 0 else rowL X (1080 + 8 * ((rowL X q).getD 7 0).toNat) := by
    rw [hdl, List.drop_append_of_le_length (by simp [hr8]), List.drop_of_length_le (by simp [hr8])]
    rfl
  have hl7 := hno.1
  have hl70 := (hr64 7).1
  have hl3 := hno.2.2
  clear hdl hno
  have hrd : readI X (rowL X q) = if (tagN (rowL X q)).K = 2 then { tagN (rowL X q) with E := entsE X (numAll X (rowL X q)) ((rowL X q).getD 1 0).toNat } else { tagN (rowL X q) with B := numAll X (rowL X q) } := rfl
  have how : ownI X (rowL X q) = (if (tagN (rowL X q)).K = 2 then ((numAll X (rowL X q)).take (blocksN ((rowL X q).getD 1 0).toNat)).map Int.toNat else []) ++ (if (rowL X q).getD 7 0 = 0 then [] else [((rowL X q).getD 7 0).toNat]) := rfl
  have htB : (tagN (rowL X q)).B = List.replicate 13 0 := rfl
  have htE : (tagN (rowL X q)).E = [] := rfl
  generalize hn : readI X (rowL X q) = n at *
  generalize hoo : ownI X (rowL X q) = own at *
  generalize hlg : numAll X (rowL X q) = l at *
  generalize hlig : (rowL X q).getD 7 0 = li at *
  generalize hmg : ((rowL X q).getD 1 0).toNat = m at *
  generalize hrg : rowL X q = r at *
  have hz0 : blocksN ([] : List (ByteArray × Int)).length = 0 := by decide
  by_cases hK : (tagN r).K = 2
  · -- a directory
    rw [if_pos hK] at hrd how
    obtain ⟨hm24, hlu, hbk⟩ := hen hK
    have hnE : n.E = entsE X l m := by rw [hrd]
    have hnEl : n.E.length = m := by rw [hnE, entsE_len]
    have hnB : n.B = List.replicate 13 0 := by rw [hrd]; exact htB
    have hnK : n.K = 2 := by rw [hrd]; exact hK
    have hc6 : blocksN m ≤ 6 := by unfold blocksN; omega
    have hlz : ∀ k, blocksN m ≤ k → l.getD k 0 = 0 := fun k hk => by
      rw [hlu, uptoL_get hll (by omega), if_neg (by omega)]
    have hdir : DirP n := by
      rcases hR.2.2 with h | h
      · have := h.1; omega
      · exact h.2
    have hlo : ((l.take (blocksN m)).map Int.toNat).length = blocksN m := by rw [List.length_map, List.length_take, hll]; omega
    have hol : own.length = blocksN m + (if li = 0 then 0 else 1) := by
      rw [how, List.length_append, hlo]
      split <;> rfl
    have hget : ∀ k, k < blocksN m → own.getD k 0 = (l.getD k 0).toNat := fun k hk => by
      rw [how, List.getD_eq_getElem?_getD, List.getElem?_append_left (by rw [hlo]; exact hk), ← List.getD_eq_getElem?_getD, take_toNat hk (by rw [hll]; omega)]
    have hgetl : li ≠ 0 → own.getD (blocksN m) 0 = li.toNat := fun h0 => by
      rw [how, List.getD_eq_getElem?_getD, List.getElem?_append_right (by rw [hlo]; omega), hlo, Nat.sub_self, if_neg h0]
      rfl
    have hli : listI n own = li.toNat := by
      unfold listI
      rw [hnEl]
      by_cases h0 : li = 0
      · rw [if_neg (by rw [hol, if_pos h0]; omega), h0]; rfl
      · rw [if_pos (by rw [hol, if_neg h0]; omega), hgetl h0]
    have hlaid : laidL n own = l := by
      have hoc : blocksN n.E.length ≤ own.length := by rw [hnEl, hol]; omega
      refine z_ext (by rw [laidL_len (by rw [hnB]; rfl) (by rw [hnEl]; omega) hoc, hll]) fun k _ => ?_
      rw [laidL_get hoc, hnEl]
      split
      · rename_i hk
        rw [hget k hk, Int.toNat_of_nonneg (h256 k).1]
      · rename_i hk
        rw [hlz k (by omega), hnB, List.getD_eq_getElem?_getD, List.getElem?_replicate]
        split <;> rfl
    have hli6 : li ≠ 0 ↔ 5 < blocksN m := by
      constructor
      · intro h0
        have h1 := hl3.resolve_left h0
        rcases Nat.lt_or_ge 5 (blocksN m) with h | h
        · exact h
        · refine absurd (z_ext (by rw [List.length_drop, hll]; rfl) fun k _ => ?_) h1
          rw [drop5_get, hlz _ (by omega), List.getD_eq_getElem?_getD, List.getElem?_replicate]
          split <;> rfl
      · intro h5 h0
        rw [if_pos h0] at hd5
        have h1 := (hbk 5 h5).1
        have h2 : (l.drop 5).getD 0 0 = 0 := by rw [hd5]; rfl
        rw [drop5_get] at h2
        exact h1 h2
    have hneed : needN n = own.length := by
      unfold needN
      rw [hnEl, hol]
      by_cases h0 : li = 0
      · rw [if_neg, if_pos h0]
        · rfl
        · intro h
          rcases h with h | h
          · exact hli6.2 h h0
          · exact h (by rw [hnB]; rfl)
      · rw [if_pos (.inl (hli6.1 h0)), if_neg h0]
    have hmem : ∀ c ∈ own, c ≠ 0 ∧ c < 256 := fun c hc => by
      obtain ⟨k, hk, rfl⟩ := List.getElem_of_mem hc
      have e : own[k] = own.getD k 0 := by rw [List.getD_eq_getElem?_getD, List.getElem?_eq_getElem hk]; rfl
      rw [e]
      by_cases hkc : k < blocksN m
      · rw [hget k hkc]
        have := (hbk k hkc).1
        have := h256 k
        omega
      · rw [hol] at hk
        split at hk
        · omega
        · rename_i h0
          rw [show k = blocksN m by omega, hgetl h0]
          omega
    have hblk : ∀ k, k < blocksN m → rowL X (1080 + 8 * own.getD k 0) = entRow n.E k := fun k hk => by
      rw [hget k hk, hnE]
      exact (hbk k hk).2.2.symm
    have hlrow : li ≠ 0 → rowL X (1080 + 8 * li.toNat) = l.drop 5 := fun h0 => by rw [hd5, if_neg h0]
    have hfirst : ∀ k, k < blocksN m → (entRow n.E k).getD 0 0 = ((wordV (bl (enm n.E (4 * k))) : Nat) : Int) ∧ 4 * k < n.E.length := fun k hk => by
      have hk4 : 4 * k < m := by unfold blocksN at hk; omega
      refine ⟨?_, by omega⟩
      unfold entRow
      rw [entTo_get _ _ _ _ (by omega), if_pos (by omega), entX, if_pos (by omega)]
      rfl
    have hrise := fun k hk (h0 : 0 < k) => (hdir.2.2.2 k hk).2.2 h0
    refine ⟨hR, by rw [hrd]; exact hF, by rw [hnB]; rfl, hneed.symm, hmem, ?_, ?_⟩
    · rw [List.nodup_iff_pairwise_ne, List.pairwise_iff_getElem]
      intro i j hi hj hij e
      have ei : own[i] = own.getD i 0 := by rw [List.getD_eq_getElem?_getD, List.getElem?_eq_getElem hi]; rfl
      have ej : own[j] = own.getD j 0 := by rw [List.getD_eq_getElem?_getD, List.getElem?_eq_getElem hj]; rfl
      rw [ei, ej] at e
      have hic : i < blocksN m := by rw [hol] at hj; split at hj <;> omega
      obtain ⟨f1, f2⟩ := hfirst i hic
      have b1 := hblk i hic
      have g1 := (hdir.2.2.2 (4 * i) f2).1
      by_cases hjc : j < blocksN m
      · obtain ⟨f3, f4⟩ := hfirst j hjc
        have b2 := hblk j hjc
        rw [e, b2] at b1
        rw [b1, f1] at f3
        have g2 := (hdir.2.2.2 (4 * j) f4).1
        have hw : wordV (bl (enm n.E (4 * i))) = wordV (bl (enm n.E (4 * j))) := by omega
        unfold wordV at hw
        rw [if_pos g1, if_pos g2] at hw
        have n1 := nameN_wordN g1 (bl_lt _)
        have n2 := nameN_wordN g2 (bl_lt _)
        rw [hw, n2] at n1
        exact names_apart hrise (show 4 * i < 4 * j by omega) f4 (bl_inj (Option.some.inj n1)).symm
      · have h0 : li ≠ 0 := fun h0 => by rw [hol, if_pos h0] at hj; omega
        have hje : j = blocksN m := by rw [hol, if_neg h0] at hj; omega
        rw [hje, hgetl h0] at e
        rw [e, hlrow h0] at b1
        have := word_big g1
        rw [← b1, drop5_get] at f1
        have := h256 (5 + 0)
        omega
    · refine ⟨by rw [hlaid, hli, Int.toNat_of_nonneg hl70, hrow, hrg], fun k hk => ?_⟩
      unfold ownRow
      rw [hnEl, hlaid]
      split
      · rename_i hkc
        exact hblk k hkc
      · rename_i hkc
        have h0 : li ≠ 0 := fun h0 => by rw [hol, if_pos h0] at hk; omega
        have hke : k = blocksN m := by rw [hol, if_neg h0] at hk; omega
        rw [hke, hgetl h0, hlrow h0]
  · -- a file
    rw [if_neg hK] at hrd how
    have hnE : n.E = [] := by rw [hrd]; exact htE
    have hnEl : blocksN n.E.length = 0 := by rw [hnE]; exact hz0
    have hnB : n.B = l := by rw [hrd]
    have hol : own = if li = 0 then [] else [li.toNat] := by rw [how, List.nil_append]
    have hlaid : laidL n own = l := by
      unfold laidL
      rw [hnEl, hnB]
      rfl
    have hli : listI n own = li.toNat := by
      unfold listI
      rw [hnEl]
      by_cases h0 : li = 0
      · rw [hol, if_pos h0, if_neg (by simp), h0]; rfl
      · rw [hol, if_neg h0, if_pos (by simp)]; rfl
    refine ⟨hR, by rw [hrd]; exact hF, by rw [hnB, hll], ?_, ?_, ?_, ?_⟩
    · unfold needN
      rw [hnEl, hnB]
      by_cases h0 : li = 0
      · rw [if_pos h0] at hd5
        rw [hol, if_pos h0, if_neg]
        · rfl
        · intro h
          rcases h with h | h
          · omega
          · exact h hd5
      · rw [hol, if_neg h0, if_pos (.inr (hl3.resolve_left h0))]
        rfl
    · rw [hol]
      split
      · simp
      · rename_i h0
        intro c hc
        rw [List.mem_singleton] at hc
        omega
    · rw [hol]
      split <;> simp
    · refine ⟨by rw [hlaid, hli, Int.toNat_of_nonneg hl70, hrow, hrg], fun k hk => ?_⟩
      unfold ownRow
      rw [hnEl, hlaid, if_neg (by omega)]
      have h0 : li ≠ 0 := fun h0 => by rw [hol, if_pos h0] at hk; simp at hk
      rw [hol, if_neg h0] at hk ⊢
      obtain rfl : k = 0 := by simpa using hk
      show rowL X (1080 + 8 * li.toNat) = _
      rw [hd5, if_neg h0]

end Go.Proofs.YtmhcnkjmnbnldaaDoor
