/-
  Layer 5 (palloc): firstFree.
-/
import Derived.Test.YtpndogcdmoeemaaDoorPaD
import Derived.WalkMore
namespace Go.Proofs.YtpndogcdmoeemaaDoor
open Go.RowKit

def i64s (l : List Nat) : List Value := l.map fun x : Nat => Value.int .i64 (x : Int)

theorem i64s_len (l : List Nat) : (i64s l).length = l.length := by simp [i64s]
theorem i64s_get {l : List Nat} {j : Nat} (h : j < l.length) : (i64s l)[j]? = some (.int .i64 ((l.getD j 0 : Nat) : Int)) := by simp [i64s, h]
theorem i64s_append (l m : List Nat) : i64s (l ++ m) = i64s l ++ i64s m := by simp [i64s]

theorem Tryd.info_int : (Tryd.prog.info? 3).map (fun i => (i.zero, i.size, i.bytes)) = some (some (.int .i64 0), 1, 8) := by kernel_rfl

theorem make_ints (n : Nat) (hn : n ≤ 100000) (w : World) : (Instr.makeSlice 28 (.int .i64 0) (.int .i64 (n : Int))).run Tryd.prog w =
    .ok (.slice (some ⟨w.heap.size, 0, none⟩) 0 n) (w.alloc (.cells (madeCells #[.int .i64 0] n) 3)) := by
  obtain ⟨i0, hi, hz0, hz1, hz2⟩ := info_parts Tryd.info_int
  have := run_make (P := Tryd.prog) w 28 3 i0 _ Tryd.underlying28 hi hz0 .i64 .i64 0 (n : Int) (by omega) (by omega) (by rw [hz2]; omega) (by omega)
  rw [hz1, Int.toNat_natCast, Nat.mul_one] at this
  exact this

theorem freeTo_prefix (X : List Int) (k m : Nat) (h : k ≤ m) : ∃ r, freeTo X m = freeTo X k ++ r := by
  obtain ⟨d, rfl⟩ : ∃ d, m = k + d := ⟨m - k, by omega⟩
  exact ⟨_, filter_range_add _ k d⟩

theorem bitL_none {y : Nat} (hy : y < 18446744073709551616) (h : bitL y = []) : y = 0 := by
  by_cases h0 : y = 0
  · exact h0
  · have := (bitL_next y h0 hy).2
    rw [h] at this
    cases this

/-- What a call leaves that makes a list of numbers. -/
def MadeInts (w : World) (l : List Nat) (e : Ending) (w' : World) : Prop :=
  ∃ v g, e = .returned v ∧ Reads w' v g (i64s l) ∧ w.heap.size ≤ g ∧ g < w'.heap.size ∧ Keeps [] w w'

/-- The list as it grows. -/
def Grows (w : World) (n : Nat) (l : List Nat) (v : Value) (wx : World) : Prop :=
  wx.ownsRow w.heap.size 3 1 v l.length (i64s l) ∧ Keeps [] w wx ∧ l.length ≤ n ∧ v ≠ .slice none 0 0

theorem Grows.made {w wx : World} {n : Nat} {l : List Nat} {v : Value} (h : Grows w n l v wx) : MadeInts w l (.returned v) wx := by
  obtain ⟨h1, h2, h3, h4⟩ := h
  obtain ⟨h5, h6⟩ := h1
  rcases h6 with ⟨rfl, -⟩ | ⟨g, cap, cur, rfl, hg, hh, h7, h8, h9, h10⟩
  · exact absurd rfl h4
  · have hlt : g < wx.heap.size := (Array.getElem?_eq_some_iff.1 hh).1
    exact ⟨_, g, rfl, Owns.reads ⟨h5, _, cap, rfl, h7, h8, fun _ => ⟨rfl, cur, hh, h9, h10⟩⟩, hg, hlt, h2⟩

theorem TabAt.keep {w w' : World} (h : TabAt w) (hk : Keeps [] w w') : TabAt w' := fun j hj => by
  have h1 := h j hj
  rw [World.cell?_of_block (w := w) (hk.block _ (lt_of_cell h1) (by simp))]
  exact h1

theorem low_step (y : Nat) (hy : y < 18446744073709551616) (h0 : y ≠ 0) : bits .and .u64 (y : Int) (IntKind.u64.wrap ((y : Int) - 1)) = ((y &&& (y - 1) : Nat) : Int) ∧ y &&& (y - 1) < 18446744073709551616 := by
  have e : IntKind.u64.wrap ((y : Int) - 1) = ((y - 1 : Nat) : Int) := by rw [IntKind.wrap_u64]; omega
  rw [e]
  exact ⟨u64_and_nat y (y - 1) hy (by omega), Nat.lt_of_le_of_lt Nat.and_le_left hy⟩

set_option maxRecDepth 100000 in
set_option maxHeartbeats 4000000 in
theorem paFirstFree_at {w : World} {b gp : Nat} {B : List Int} {ps : List (Int × Int)} (h : ShAt w b gp B ps) (h64 : In64 (putAll B ps)) (hT : TabAt w) (n : Nat) (hn : n ≤ 100000) :
    Calls Tryd.prog 16 #[.pointer (some ⟨b, 0, none⟩), .int .i64 (n : Int)] w (MadeInts w ((freeL (putAll B ps)).take n)) := by
  obtain ⟨i0, hi, hz0, hz1, hz2⟩ := info_parts Tryd.info_int
  have HS := Lib.hid h
  have H64 := Lib.hid h64
  have HT := Lib.hid hT
  clear h h64 hT
  have hmk := make_ints n hn w
  have HG0 : Hid (Grows w n [] (.slice (some ⟨w.heap.size, 0, none⟩) 0 n) (w.alloc (.cells (madeCells #[.int .i64 0] n) 3))) := by
    refine ⟨⟨rfl, .inr ⟨w.heap.size, n, madeCells #[.int .i64 0] n, rfl, Nat.le_refl _, Blk.new _ _ _, by simp, by unfold maxLen; omega, by simp [madeCells], by simp [i64s]⟩⟩, (Keeps.refl _ _).alloc _, by simp, by simp⟩
  go_enter Tryd.func16, Tryd.ntmps16
  go_wp2_with fail
  go_step3
  go_wp2_with fail
  go_step3
  go_wp2_with fail
  clear hmk
  go_loopg [5, 10] 4 (fun gh s5 s10 wx => ∃ k : Nat, k + gh = 4 ∧ s10 = .int .i64 (k : Int) ∧ Hid (Grows w n (freeTo (putAll B ps) (64 * k)) s5 wx))
  case atStart => exact ⟨0, by omega, rfl, HG0.out⟩
  case round =>
    obtain ⟨k, hk, rfl, HR⟩ := hrel
    cases gk with
    | zero =>
      obtain rfl : k = 4 := by omega
      clear hk
      have HM : Hid (MadeInts w ((freeL (putAll B ps)).take n) (.returned u5) wr) := by
        show MadeInts _ _ _ _
        have e : freeL (putAll B ps) = freeTo (putAll B ps) (64 * 4) := rfl
        rw [e, List.take_of_length_le HR.out.2.2.1]
        exact HR.out.made
      go_wp2_with fail
      rw [Exit.noGoto_ret]
      go_ret
      exact HM.out
    | succ gg =>
      have hk4 : k < 4 := by omega
      have hlt : (k : Int) < 4 := by omega
      have hk0 : (0 : Int) ≤ (k : Int) := by omega
      have HF := Lib.hid (paFreeIn_at (HS.out.keep HR.out.2.1 (by simp) (by simp)) H64.out k hk4)
      have HY := Lib.hid (frW_lt (putAll B ps) k)
      go_wp2_with fail
      refine HF.out.mono ?_; rintro e w' ⟨rfl, rfl⟩
      clear HF
      go_wp2_with fail
      clear hk0 hlt
      go_loopg [5, 7] (bitL (frW (putAll B ps) k)).length (fun gh s5 s7 wx => ∃ (y : Nat) (pre : List Nat), gh = (bitL y).length ∧ s7 = .int .u64 (y : Int) ∧
        Hid (y < 18446744073709551616 ∧ bitL (frW (putAll B ps) k) = pre ++ bitL y ∧ Grows w n (freeTo (putAll B ps) (64 * k) ++ pre.map (64 * k + ·)) s5 wx))
      case atStart => exact ⟨_, [], rfl, rfl, HY.out, rfl, by rw [List.map_nil, List.append_nil]; exact HR.out⟩
      case round =>
        clear HR HY
        obtain ⟨y, pre, hgh, rfl, HR⟩ := hrel
        cases gk with
        | zero =>
          have hy : y = 0 := bitL_none HR.out.1 (List.eq_nil_of_length_eq_zero hgh.symm)
          subst hy
          have HR2 : Hid (Grows w n (freeTo (putAll B ps) (64 * (k + 1))) u5 wr) := by
            show Grows _ _ _ _ _
            obtain ⟨-, h2, h3⟩ := HR.out
            rw [freeTo_word H64.out, h2, bitL_zero, List.append_nil]
            exact h3
          clear HR hgh
          have hlt : (k : Int) < 4 := by omega
          have hk0 : (0 : Int) ≤ (k : Int) := by omega
          go_wp2_with fail
          go_roundg gg
          case measure => omega
          case rel => exact ⟨k + 1, by omega, by go_num, HR2⟩
        | succ g2 =>
          have hy0 : y ≠ 0 := by
            intro e
            subst e
            rw [bitL_zero] at hgh
            cases hgh
          obtain ⟨hc, hb⟩ := bitL_next y hy0 HR.out.1
          have e0 : ((y : Int) == 0) = false := by simp; omega
          have e1 : ((y : Int) != 0) = true := by simp; omega
          by_cases hfull : (freeTo (putAll B ps) (64 * k) ++ pre.map (64 * k + ·)).length = n
          · have HM : Hid (MadeInts w ((freeL (putAll B ps)).take n) (.returned u5) wr) := by
              show MadeInts _ _ _ _
              obtain ⟨-, h2, h3⟩ := HR.out
              obtain ⟨r, hr⟩ := freeTo_prefix (putAll B ps) (64 * (k + 1)) 256 (by omega)
              have e : freeL (putAll B ps) = freeTo (putAll B ps) 256 := rfl
              rw [freeTo_word H64.out, h2, List.map_append] at hr
              rw [e, hr, ← List.append_assoc (freeTo (putAll B ps) (64 * k)), List.append_assoc, List.take_left' hfull]
              exact h3.made
            obtain ⟨a, cap, rfl, q1, q2⟩ := ownsRow_val HR.out.2.2.1
            rw [hfull] at HM ⊢
            clear HR hgh hb hc hy0
            go_wp2_with fail
            rw [Exit.noGoto_ret]
            go_ret
            exact HM.out
          · obtain ⟨f1, f2, ⟨f3, f4, f5, f6⟩⟩ := HR.out
            have HTZ := Lib.hid (tz_at y f1 hy0 wr (HT.out.keep f4))
            obtain ⟨hlow, hlow2⟩ := low_step y f1 hy0
            have HLT := Lib.hid hlow2
            have hlen : (freeTo (putAll B ps) (64 * k) ++ pre.map (64 * k + ·)).length + 1 ≤ n := by omega
            have HPRE : Hid (bitL (frW (putAll B ps) k) = (pre ++ [Lib.ctz 64 y]) ++ bitL (y &&& (y - 1))) := by
              show _ = _
              rw [f2, hb, List.append_assoc]
              rfl
            have HMEAS : Hid (g2 = (bitL (y &&& (y - 1))).length) := by
              show _ = _
              rw [hb, List.length_cons] at hgh
              omega
            have HLST : Hid (freeTo (putAll B ps) (64 * k) ++ (pre ++ [Lib.ctz 64 y]).map (64 * k + ·) = (freeTo (putAll B ps) (64 * k) ++ pre.map (64 * k + ·)) ++ [64 * k + Lib.ctz 64 y]) := by
              show _ = _
              rw [List.map_append, List.append_assoc]
              rfl
            obtain ⟨a, cap, rfl, q1, q2⟩ := ownsRow_val f3
            have HOWN := Lib.hid f3
            have HKP := Lib.hid f4
            have hws := f4.size
            clear f1 f2 f3 f4 f5 f6 HR hgh hb hlow2
            generalize freeTo (putAll B ps) (64 * k) ++ pre.map (64 * k + ·) = L at *
            generalize y &&& (y - 1) = z at *
            generalize Lib.ctz 64 y = c at *
            have HI : Hid (i64s (L ++ [64 * k + c]) = i64s L ++ [.int .i64 ((k : Int) * 64 + (c : Int))]) := by
              show _ = _
              rw [i64s_append]
              have : ((64 * k + c : Nat) : Int) = (k : Int) * 64 + (c : Int) := by omega
              simp only [i64s, List.map_cons, List.map_nil, this]
            have HLL : Hid ((L ++ [64 * k + c]).length = L.length + 1) := by show _ = _; simp
            have hlt : (k : Int) < 4 := by omega
            have hk0 : (0 : Int) ≤ (k : Int) := by omega
            have hc0 : (0 : Int) ≤ (c : Int) := by omega
            have hc1 : (c : Int) < 64 := by omega
            generalize L.length = q at *
            have e2 : (q == n) = false := by simpa using hfull
            have e3 : ((q : Int) == (n : Int)) = false := by simp; omega
            go_wp2_with fail
            refine HTZ.out.mono ?_; rintro e w' ⟨rfl, rfl⟩
            go_wp2_with (at_builtin; refine wpList_append_own _ rfl _ _ 28 rfl w.heap.size 3 i0 (.int .i64 0) 1 8 Tryd.underlying28 hi hz0 hz1 hz2 rfl (by decide) (.slice a q cap) q _ rfl (HOWN.out.alloc _) ⟨wr.heap.size, 0, none⟩ 1 1 [.int .i64 ((k : Int) * 64 + (c : Int))] rfl rfl ?c1 ?c2 (by unfold maxLen; omega) (by omega) (by simp; omega) ?_)
            case c1 => exact new_cells _ [_] _ _ rfl
            case c2 => simp [Value.oneCell']
            intro v' w1 hown1 hgrow hnil
            have HO1 := Lib.hid hown1
            have HK1 := Lib.hid ((HKP.out.alloc _).grown hgrow (ownsRow_block HOWN.out))
            have HNIL : Hid (v' ≠ .slice none 0 0) := hnil
            clear hown1 hgrow hnil
            go_wp2_with fail
            go_roundg g2
            case measure => omega
            case rel =>
              refine ⟨z, pre ++ [c], HMEAS.out, rfl, HLT.out, HPRE.out, ?_⟩
              rw [HLST.out]
              refine ⟨?_, HK1.out, by rw [HLL.out]; exact hlen, HNIL.out⟩
              rw [HI.out, HLL.out]
              exact HO1.out

end Go.Proofs.YtpndogcdmoeemaaDoor
