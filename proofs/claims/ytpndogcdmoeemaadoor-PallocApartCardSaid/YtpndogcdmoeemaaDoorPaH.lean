/-
  Layer 5: the reference's Bits.
-/
import Derived.Test.YtpndogcdmoeemaaDoorPaG
namespace Go.Proofs.YtpndogcdmoeemaaDoor
open Go.RowKit

/-- The bits of four words, block by block, the first n of them. -/
def bitsB (ws : List Nat) (n : Nat) : List Bool := (List.range 256).map fun c => if c < n then (ws.getD (c / 64) 0).testBit (c % 64) else false

theorem bitsB_len (ws : List Nat) (n : Nat) : (bitsB ws n).length = 256 := by simp [bitsB]

theorem bitsB_get (ws : List Nat) (n c : Nat) (hc : c < 256) : (bitsB ws n).getD c false = if c < n then (ws.getD (c / 64) 0).testBit (c % 64) else false := by
  rw [bitsB, List.getD_eq_getElem?_getD, List.getElem?_map, List.getElem?_range hc]
  rfl

theorem ext_getB {l m : List Bool} (hl : l.length = 256) (hm : m.length = 256) (h : ∀ j, j < 256 → l.getD j false = m.getD j false) : l = m := by
  apply List.ext_getElem (by rw [hl, hm])
  intro j h1 h2
  have := h j (by omega)
  simpa [List.getD_eq_getElem?_getD, h1, h2] using this

theorem getD_setB (l : List Bool) (i j : Nat) (x : Bool) (hi : i < l.length) : (l.set i x).getD j false = if i = j then x else l.getD j false := by
  rw [List.getD_eq_getElem?_getD, List.getElem?_set]
  by_cases e : i = j
  · subst e; simp [hi]
  · rw [if_neg e, if_neg e, List.getD_eq_getElem?_getD]

theorem bitsB_zero (ws : List Nat) : List.replicate 256 false = bitsB ws 0 := by
  refine ext_getB List.length_replicate (bitsB_len _ _) fun j hj => ?_
  rw [bitsB_get _ _ _ hj, if_neg (by omega), List.getD_eq_getElem?_getD, List.getElem?_replicate, if_pos hj]
  rfl

theorem bitsB_succ (ws : List Nat) (k j : Nat) (hk : k < 4) (hj : j < 64) : (bitsB ws (64 * k + j)).set (64 * k + j) ((ws.getD k 0).testBit j) = bitsB ws (64 * k + j + 1) := by
  refine ext_getB (by rw [List.length_set, bitsB_len]) (bitsB_len _ _) fun c hc => ?_
  rw [getD_setB _ _ _ _ (by rw [bitsB_len]; omega), bitsB_get _ _ _ hc, bitsB_get _ _ _ hc]
  by_cases e : 64 * k + j = c
  · rw [if_pos e, if_pos (by omega), show c / 64 = k by omega, show c % 64 = j by omega]
  · rw [if_neg e]
    by_cases e2 : c < 64 * k + j
    · rw [if_pos e2, if_pos (by omega)]
    · rw [if_neg e2, if_neg (by omega)]

theorem Tryd.info_bool : (Tryd.prog.info? 4).map (fun i => (i.zero, i.size, i.bytes)) = some (some (.bool false), 1, 1) := by kernel_rfl

theorem make_bools (w : World) (n : Nat) (hn : n ≤ 100000) : (Instr.makeSlice 33 (.int .i64 (n : Int)) (.int .i64 (n : Int))).run Tryd.prog w = .ok (.slice (some ⟨w.heap.size, 0, none⟩) n n) (w.alloc (.cells (madeCells #[.bool false] n) 4)) := by
  obtain ⟨i0, hi, hz0, hz1, hz2⟩ := info_parts Tryd.info_bool
  have := run_make (P := Tryd.prog) w 33 4 i0 _ Tryd.underlying33 hi hz0 .i64 .i64 (n : Int) (n : Int) (by omega) (by omega) (by rw [hz2]; omega) (by omega)
  rw [hz1, Int.toNat_natCast, Nat.mul_one] at this
  exact this

theorem owns_bools (w : World) (n : Nat) (hn : n ≤ 100000) : Owns (w.alloc (.cells (madeCells #[.bool false] n) 4)) (.slice (some ⟨w.heap.size, 0, none⟩) n n) w.heap.size 4 1 n (bools (List.replicate n false)) := by
  refine ⟨by simp [bools], _, n, rfl, Nat.le_refl _, by unfold maxLen; omega, fun _ => ⟨rfl, _, Blk.new _ _ _, by simp [size_madeCells], ?_⟩⟩
  rw [toList_madeCells_one, List.take_of_length_le (by simp)]
  simp [bools]

theorem make_bits (w : World) : ∃ mc, (Instr.makeSlice 33 (.int .i64 256) (.int .i64 256)).run Tryd.prog w = .ok (.slice (some ⟨w.heap.size, 0, none⟩) 256 256) (w.alloc (.cells mc 4)) ∧
    Owns (w.alloc (.cells mc 4)) (.slice (some ⟨w.heap.size, 0, none⟩) 256 256) w.heap.size 4 1 256 (bools (List.replicate 256 false)) :=
  ⟨_, make_bools w 256 (by omega), owns_bools w 256 (by omega)⟩

theorem bools_getO {w : World} {v : Value} {g T n : Nat} {xs : List Bool} (h : Owns w v g T 1 n (bools xs)) (hn : xs.length = n) {j : Nat} (hj : j < n) :
    (∃ cap, v = .slice (some ⟨g, 0, none⟩) n cap ∧ n ≤ cap ∧ cap ≤ maxLen) ∧ w.cell? ⟨g, j, none⟩ = some (.bool (xs.getD j false)) ∧ w.frozen? ⟨g, j, none⟩ = false := by
  obtain ⟨-, h1, h2, h3⟩ := h.cell (by omega)
  exact ⟨h1, (h2 j (by omega)).trans (bools_get (by omega)), h3 j⟩

theorem Owns.setB {w : World} {v : Value} {g T n : Nat} {xs : List Bool} (h : Owns w v g T 1 n (bools xs)) (j : Nat) (x : Bool) : Owns (w.setCell ⟨g, j, none⟩ (.bool x)) v g T 1 n (bools (xs.set j x)) := by
  have := h.set j (.bool x)
  rwa [bools_set] at this

/-- What Bits leaves. -/
def MadeBits (w : World) (bl : List Bool) (e : Ending) (w' : World) : Prop :=
  ∃ g, e = .returned (.slice (some ⟨g, 0, none⟩) 256 256) ∧ Owns w' (.slice (some ⟨g, 0, none⟩) 256 256) g 4 1 256 (bools bl) ∧ w.heap.size ≤ g ∧ Keeps [] w w'

set_option maxRecDepth 100000 in
set_option maxHeartbeats 4000000 in
theorem bits_at (ws : List Nat) (hws : ∀ i, ws.getD i 0 < 18446744073709551616) (w : World) : Calls Tryd.prog 9 #[.agg (w4 ws)] w (MadeBits w (bitsB ws 256)) := by
  have hcell := fun k hk => w4_get ws k hk
  have HC := Lib.hid hcell
  have HWS := Lib.hid hws
  clear hcell hws
  generalize w4 ws = Z at *
  obtain ⟨mc, hmk, hoz⟩ := make_bits (w.alloc (.cells Z 23))
  have hz : (w.alloc (.cells Z 23)).heap.size = w.heap.size + 1 := by simp
  rw [hz] at hmk hoz
  rw [bitsB_zero ws] at hoz
  have HO := Lib.hid hoz
  have HB : Hid (Blk ((w.alloc (.cells Z 23)).alloc (.cells mc 4)) w.heap.size Z 23) := (Blk.new w Z _).alloc _
  have HK : Hid (Keeps [] w ((w.alloc (.cells Z 23)).alloc (.cells mc 4))) := ((Keeps.refl [] w).alloc _).alloc _
  clear hoz hz
  go_enter Tryd.func9, Tryd.ntmps9
  go_wp2_with fail
  clear hmk
  go_loopg [4] 4 (fun gh s4 wx => ∃ k : Nat, k + gh = 4 ∧ s4 = .int .i64 (k : Int) ∧ Hid (Owns wx (.slice (some ⟨w.heap.size + 1, 0, none⟩) 256 256) (w.heap.size + 1) 4 1 256 (bools (bitsB ws (64 * k))) ∧ Blk wx w.heap.size Z 23 ∧ Keeps [] w wx))
  case atStart => exact ⟨0, by omega, rfl, HO.out, HB.out, HK.out⟩
  case round =>
    clear HO HB HK
    obtain ⟨k, hk, rfl, HR⟩ := hrel
    cases gk with
    | zero =>
      obtain rfl : k = 4 := by omega
      clear hk
      have HM : Hid (MadeBits w (bitsB ws 256) (.returned (.slice (some ⟨w.heap.size + 1, 0, none⟩) 256 256)) wr) := ⟨_, rfl, HR.out.1, by omega, HR.out.2.2⟩
      clear HR
      go_wp2_with fail
      go_ret
      exact HM.out
    | succ gg =>
      have hk4 : k < 4 := by omega
      have hlt : (k : Int) < 4 := by omega
      have hk0 : (0 : Int) ≤ (k : Int) := by omega
      have c0 : wr.cell? ⟨w.heap.size, k, none⟩ = some (.int .u64 ((ws.getD k 0 : Nat) : Int)) := by rw [HR.out.2.1.cell, HC.out k hk4]
      have HSU := Lib.hid (fun j hj => bitsB_succ ws k j hk4 hj)
      have HTB : Hid (∀ j, (ws.getD k 0).testBit j = decide (ws.getD k 0 / 2 ^ j % 2 = 1)) := fun j => Nat.testBit_eq_decide_div_mod_eq
      have HXL := Lib.hid (HWS.out k)
      generalize ws.getD k 0 = x at *
      go_wp2_with fail
      clear c0
      go_loopg [5, 6] 64 (fun gh s5 s6 wx => ∃ j : Nat, j + gh = 64 ∧ s6 = .int .i64 (j : Int) ∧ s5 = .int .u64 ((x / 2 ^ j : Nat) : Int) ∧ Hid (Owns wx (.slice (some ⟨w.heap.size + 1, 0, none⟩) 256 256) (w.heap.size + 1) 4 1 256 (bools (bitsB ws (64 * k + j))) ∧ Blk wx w.heap.size Z 23 ∧ Keeps [] w wx))
      case atStart => exact ⟨0, by omega, rfl, by simp, HR.out⟩
      case round =>
        clear HR
        obtain ⟨j, hj, rfl, rfl, HR⟩ := hrel
        cases gk with
        | zero =>
          obtain rfl : j = 64 := by omega
          clear hj
          go_wp2_with fail
          go_roundg gg
          case measure => omega
          case rel => exact ⟨k + 1, by omega, by go_num, HR.out⟩
        | succ g2 =>
          have hj6 : j < 64 := by omega
          have hltj : (j : Int) < 64 := by omega
          have hj0 : (0 : Int) ≤ (j : Int) := by omega
          obtain ⟨ho, hb, hkp⟩ := HR.out
          obtain ⟨-, hc, hf⟩ := bools_getO ho (bitsB_len _ _) (show 64 * k + j < 256 by omega)
          have htb := HTB.out j
          have HS : Hid (Owns (wr.setCell ⟨w.heap.size + 1, 64 * k + j, none⟩ (.bool (x.testBit j))) (.slice (some ⟨w.heap.size + 1, 0, none⟩) 256 256) (w.heap.size + 1) 4 1 256 (bools (bitsB ws (64 * k + j + 1)))) := by
            show Owns _ _ _ _ _ _ _
            rw [← HSU.out j hj6]
            exact ho.setB _ _
          have HBN : Hid (Blk (wr.setCell ⟨w.heap.size + 1, 64 * k + j, none⟩ (.bool (x.testBit j))) w.heap.size Z 23) := hb.other (by simp) _
          have HKP := Lib.hid hkp
          have HX : Hid (((x / 2 ^ j : Nat) : Int) / 2 = ((x / 2 ^ (j + 1) : Nat) : Int)) := by
            show _ = _
            rw [Nat.pow_succ, ← Nat.div_div_eq_div_mul]
            omega
          have HXW := Lib.hid (wrapU (x / 2 ^ (j + 1)) (Nat.lt_of_le_of_lt (Nat.div_le_self _ _) HXL.out))
          clear ho hb hkp HR
          generalize hm : x / 2 ^ j = m at *
          have e1 : ((m : Int) % 2 == 1) = x.testBit j := by rw [htb, Bool.eq_iff_iff]; simp; omega
          have hm0 : (0 : Int) ≤ (m : Int) := by omega
          clear htb hm
          generalize x.testBit j = t at *
          generalize (bitsB ws (64 * k + j)).getD (64 * k + j) false = old at *
          go_wp2_with fail
          go_roundg g2
          case measure => omega
          case rel => exact ⟨j + 1, by omega, by go_num, by rw [HX.out, HXW.out], HS.out, HBN.out, HKP.out.setCell (by simp) _⟩

end Go.Proofs.YtpndogcdmoeemaaDoor
