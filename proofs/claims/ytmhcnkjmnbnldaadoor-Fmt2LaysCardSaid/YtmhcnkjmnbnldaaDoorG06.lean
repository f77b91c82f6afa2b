/-
  Layer 5 (palloc): what puts leave (Onto), empty, Free. Layer 5 (palloc): firstFree. Layer 7 (fmt2): laidFile. Layer 7 (fmt2), plain: the words of a directory, bucket by bucket. A region that draws its order, with one operation F that may come up when what it waits for has, and what is free of it in whatever order; then last operations, one behind the other. Nothing of the program is named here. A region that draws its order, whose loads and moves may all be taken first (what they read is kept by all), then its last operations one behind the other. In a round of a range over a function too. Nothing of the program is named here.
-/
import Derived.Test.YtmhcnkjmnbnldaaDoorG05
import Derived.BigRegion
import Derived.Deep.LoopGhost
import Derived.WalkMore
import Derived.Test.YtmhcnkjmnbnldaaDoorG04
import Derived.Deep.RegionWith
import Derived.Test.YtmhcnkjmnbnldaaDoorG02
import Derived.Test.YtmhcnkjmnbnldaaDoorG00
import Derived.OrdersHeld
namespace Go.Proofs.YtmhcnkjmnbnldaaDoor
open Go.RowKit

/-- The sheet has these puts now; its notes may lie elsewhere. -/
def Onto (w : World) (b gp : Nat) (B : List Int) (ps : List (Int × Int)) (w' : World) : Prop :=
  ∃ gp', (gp' = gp ∨ (w.heap.size ≤ gp' ∧ gp' < w'.heap.size)) ∧ ShAt w' b gp' B ps ∧ Keeps [b, gp] w w'

theorem Onto.refl {w : World} {b gp : Nat} {B : List Int} {ps : List (Int × Int)} (h : ShAt w b gp B ps) : Onto w b gp B ps w := ⟨gp, .inl rfl, h, Keeps.refl _ _⟩

theorem Onto.post {w w' : World} {b gp : Nat} {B : List Int} {ps : List (Int × Int)} (h : Onto w b gp B ps w') : PutPost w b gp B ps (.returned (.tuple #[])) w' := ⟨rfl, h⟩

/-- Further puts. -/
theorem Onto.trans {w w1 w2 : World} {b gp gp1 : Nat} {B : List Int} {qs : List (Int × Int)} (hg : gp1 = gp ∨ (w.heap.size ≤ gp1 ∧ gp1 < w1.heap.size)) (hk : Keeps [b, gp] w w1) (h : Onto w1 b gp1 B qs w2) : Onto w b gp B qs w2 := by
  obtain ⟨gp2, h1, h2, h3⟩ := h
  have z1 := hk.size
  have z2 := h3.size
  refine ⟨gp2, by omega, h2, hk.trans h3 fun x hx => ?_⟩
  simp only [List.mem_cons, List.not_mem_nil, or_false] at hx ⊢
  omega

theorem Onto.mono {w w1 w2 : World} {b gp : Nat} {B : List Int} {qs : List (Int × Int)} (hk : Keeps [] w w1) (hgp : gp < w.heap.size) (h : Onto w1 b gp B qs w2) : Onto w b gp B qs w2 := by
  obtain ⟨gp2, h1, h2, h3⟩ := h
  have z1 := hk.size
  exact ⟨gp2, by omega, h2, (hk.mono (by simp)).trans h3 fun x hx => .inl hx⟩

theorem emptyPut (ps : List (Int × Int)) (c k : Nat) (hc : c < 256) (hk : k < 8) : putN (ps ++ emptyTo c k) ((1080 + c * 8 + k : Nat) : Int) 0 = ps ++ emptyTo c (k + 1) := by
  unfold putN
  rw [if_pos (inB_iff.2 ⟨by omega, by omega⟩), emptyTo_succ, List.append_assoc]

set_option maxHeartbeats 1000000 in
theorem paEmpty_at {w : World} {b gp : Nat} {B : List Int} {ps : List (Int × Int)} (h : ShAt w b gp B ps) (hn : ps.length ≤ 999000) (c : Nat) (hc : c < 256) :
    Calls Tryd.prog 62 #[.pointer (some ⟨b, 0, none⟩), .int .i64 (c : Int)] w (PutPost w b gp B (ps ++ emptyPs c)) := by
  have HS := Lib.hid h
  have HN := Lib.hid hn
  have HBL : ∀ w', Hid (Calls Tryd.prog 36 #[.int .i64 (c : Int)] w' fun e w'' => e = .returned (.int .i64 ((1080 + c * 8 : Nat) : Int)) ∧ w' = w'') := fun w' => by
    have := txBlock_at (c : Int) w'
    rw [show blockN (c : Int) = ((1080 + c * 8 : Nat) : Int) by unfold blockN; rw [if_neg (by omega)]; omega] at this
    exact this
  clear h hn
  go_enter Tryd.func62, Tryd.ntmps62
  go_wp2_with fail
  go_loopg [5] 8 (fun gh s5 wx => ∃ k : Nat, k + gh = 8 ∧ s5 = .int .i64 (k : Int) ∧ Hid (Onto w b gp B (ps ++ emptyTo c k) wx))
  case atStart => exact ⟨0, by omega, rfl, by show Onto _ _ _ _ _ _; rw [show emptyTo c 0 = [] from rfl, List.append_nil]; exact Onto.refl HS.out⟩
  case round =>
    obtain ⟨k, hk, rfl, HR⟩ := hrel
    cases gk with
    | zero =>
      obtain rfl : k = 8 := by omega
      clear hk
      go_wp2_with fail
      go_end0
      exact Onto.post HR.out
    | succ gg =>
      have hk8 : k < 8 := by omega
      have hlt : (k : Int) < 8 := by omega
      have hk0 : (0 : Int) ≤ (k : Int) := by omega
      have HP : Hid (∀ x : Int, x = ((1080 + c * 8 + k : Nat) : Int) → Calls Tryd.prog 23 #[.pointer (some ⟨b, 0, none⟩), .int .i64 x, .int .u64 0] wr fun e w' => e = .returned (.tuple #[]) ∧ Hid (Onto w b gp B (ps ++ emptyTo c (k + 1)) w')) := by
        intro x hx
        subst hx
        obtain ⟨gp1, h1, h2, h3⟩ := HR.out
        refine (txPut_at h2 (by rw [List.length_append, emptyTo_len]; have := HN.out; omega) _ 0).mono ?_
        rintro e w' ⟨rfl, h4⟩
        rw [emptyPut ps c k hc hk8] at h4
        exact ⟨rfl, Onto.trans h1 h3 h4⟩
      have HB := HBL wr
      clear HR HBL
      go_wp2_with fail
      refine HB.out.mono ?_; rintro e w' ⟨rfl, rfl⟩
      go_wp2_with fail
      refine (HP.out _ (by omega)).mono ?_; rintro e w' ⟨rfl, HQ⟩
      go_wp2_with fail
      go_roundg gg
      case measure => omega
      case rel => exact ⟨k + 1, by omega, by go_num, HQ⟩

theorem freeTo_le (X : List Int) (n : Nat) : (freeTo X n).length ≤ n := by
  unfold freeTo
  have := List.length_filter_le (fun b => b != 0 && !usedN X b) (List.range n)
  simpa using this

set_option maxHeartbeats 1000000 in
theorem paFree_at {w : World} {b gp : Nat} {B : List Int} {ps : List (Int × Int)} (h : ShAt w b gp B ps) (h64 : In64 (putAll B ps)) :
    Calls Tryd.prog 59 #[.pointer (some ⟨b, 0, none⟩)] w fun e w' => e = .returned (.int .i64 (((freeL (putAll B ps)).length : Nat) : Int)) ∧ w = w' := by
  have HS := Lib.hid h
  have H64 := Lib.hid h64
  clear h h64
  go_enter Tryd.func59, Tryd.ntmps59
  go_wp2_with fail
  go_loop [3, 5] (fun s3 s5 => ∃ k : Nat, k ≤ 4 ∧ s5 = .int .i64 (k : Int) ∧ s3 = .int .i64 (((freeTo (putAll B ps) (64 * k)).length : Nat) : Int)) (fun _ s5 => 4 - (intOf s5).toNat)
  case atStart => exact ⟨0, by omega, rfl, rfl⟩
  case round =>
    obtain ⟨k, hk, rfl, rfl⟩ := hrel
    by_cases hlt : k < 4
    · have hlt' : (k : Int) < 4 := by omega
      have hk0 : (0 : Int) ≤ (k : Int) := by omega
      have HL := Lib.hid (freeTo_len H64.out k)
      have hle := freeTo_le (putAll B ps) (64 * k)
      have hle2 := freeTo_le (putAll B ps) (64 * (k + 1))
      have e := HL.out
      have HI := Lib.hid (paFreeIn_at HS.out H64.out k hlt)
      have HO := Lib.hid (ones_at (frW (putAll B ps) k) (frW_lt (putAll B ps) k) w)
      have ho : ones 64 (frW (putAll B ps) k) ≤ 256 := by omega
      rw [e] at hle2
      clear e hle2
      generalize ones 64 (frW (putAll B ps) k) = o at *
      generalize hf : frW (putAll B ps) k = f at *
      clear hf
      generalize hq : (freeTo (putAll B ps) (64 * k)).length = q at *
      clear hq
      go_wp2_with fail
      refine HI.out.mono ?_; rintro e w' ⟨rfl, rfl⟩
      go_wp2_with fail
      refine HO.out.mono ?_; rintro e w' ⟨rfl, rfl⟩
      go_wp2_with fail
      go_round
      case rel => exact ⟨k + 1, by omega, by go_num, by rw [HL.out]; go_num⟩
      case measure => simp [intOf]; omega
    · obtain rfl : k = 4 := by omega
      go_wp2_with fail
      go_ret
      exact ⟨rfl, rfl⟩

end Go.Proofs.YtmhcnkjmnbnldaaDoor

namespace Go.Proofs.YtmhcnkjmnbnldaaDoor
open Go.RowKit

def i64s (l : List Nat) : List Value := l.map fun x : Nat => Value.int .i64 (x : Int)

theorem i64s_len (l : List Nat) : (i64s l).length = l.length := by simp [i64s]
theorem i64s_get {l : List Nat} {j : Nat} (h : j < l.length) : (i64s l)[j]? = some (.int .i64 ((l.getD j 0 : Nat) : Int)) := by simp [i64s, h]
theorem i64s_append (l m : List Nat) : i64s (l ++ m) = i64s l ++ i64s m := by simp [i64s]

theorem Tryd.info_int : (Tryd.prog.info? 3).map (fun i => (i.zero, i.size, i.bytes)) = some (some (.int .i64 0), 1, 8) := by kernel_rfl

theorem make_ints (n : Nat) (hn : n ≤ 100000) (w : World) : (Instr.makeSlice 34 (.int .i64 0) (.int .i64 (n : Int))).run Tryd.prog w =
    .ok (.slice (some ⟨w.heap.size, 0, none⟩) 0 n) (w.alloc (.cells (madeCells #[.int .i64 0] n) 3)) := by
  obtain ⟨i0, hi, hz0, hz1, hz2⟩ := info_parts Tryd.info_int
  have := run_make (P := Tryd.prog) w 34 3 i0 _ Tryd.underlying34 hi hz0 .i64 .i64 0 (n : Int) (by omega) (by omega) (by rw [hz2]; omega) (by omega)
  rw [hz1, Int.toNat_natCast, Nat.mul_one] at this
  exact this

theorem freeTo_prefix (X : List Int) (k m : Nat) (h : k ≤ m) : ∃ r, freeTo X m = freeTo X k ++ r := by
  obtain ⟨d, rfl⟩ : ∃ d, m = k + d := ⟨m - k, by omega⟩
  exact ⟨_, filter_range_add _ k d⟩

theorem bitL_none {y : Nat} (hy : y < 18446744073709551616) (h : bitL y = []) : y = 0 := by
  by_cases h0 : y = 0
  · exact h0
  · have := (bitL_next y h0 hy).2
    rw [h] at this
    cases this

/-- What a call leaves that makes a list of numbers. -/
def MadeInts (w : World) (l : List Nat) (e : Ending) (w' : World) : Prop :=
  ∃ v g, e = .returned v ∧ Reads w' v g (i64s l) ∧ w.heap.size ≤ g ∧ g < w'.heap.size ∧ Keeps [] w w'

/-- The list as it grows. -/
def Grows (w : World) (n : Nat) (l : List Nat) (v : Value) (wx : World) : Prop :=
  wx.ownsRow w.heap.size 3 1 v l.length (i64s l) ∧ Keeps [] w wx ∧ l.length ≤ n ∧ v ≠ .slice none 0 0

theorem Grows.made {w wx : World} {n : Nat} {l : List Nat} {v : Value} (h : Grows w n l v wx) : MadeInts w l (.returned v) wx := by
  obtain ⟨h1, h2, h3, h4⟩ := h
  obtain ⟨h5, h6⟩ := h1
  rcases h6 with ⟨rfl, -⟩ | ⟨g, cap, cur, rfl, hg, hh, h7, h8, h9, h10⟩
  · exact absurd rfl h4
  · have hlt : g < wx.heap.size := (Array.getElem?_eq_some_iff.1 hh).1
    exact ⟨_, g, rfl, Owns.reads ⟨h5, _, cap, rfl, h7, h8, fun _ => ⟨rfl, cur, hh, h9, h10⟩⟩, hg, hlt, h2⟩

theorem TabAt.keep {w w' : World} (h : TabAt w) (hk : Keeps [] w w') : TabAt w' := fun j hj => by
  have h1 := h j hj
  rw [World.cell?_of_block (w := w) (hk.block _ (lt_of_cell h1) (by simp))]
  exact h1

theorem low_step (y : Nat) (hy : y < 18446744073709551616) (h0 : y ≠ 0) : bits .and .u64 (y : Int) (IntKind.u64.wrap ((y : Int) - 1)) = ((y &&& (y - 1) : Nat) : Int) ∧ y &&& (y - 1) < 18446744073709551616 := by
  have e : IntKind.u64.wrap ((y : Int) - 1) = ((y - 1 : Nat) : Int) := by rw [IntKind.wrap_u64]; omega
  rw [e]
  exact ⟨u64_and_nat y (y - 1) hy (by omega), Nat.lt_of_le_of_lt Nat.and_le_left hy⟩

set_option maxRecDepth 100000 in
set_option maxHeartbeats 4000000 in
theorem paFirstFree_at {w : World} {b gp : Nat} {B : List Int} {ps : List (Int × Int)} (h : ShAt w b gp B ps) (h64 : In64 (putAll B ps)) (hT : TabAt w) (n : Nat) (hn : n ≤ 100000) :
    Calls Tryd.prog 60 #[.pointer (some ⟨b, 0, none⟩), .int .i64 (n : Int)] w (MadeInts w ((freeL (putAll B ps)).take n)) := by
  obtain ⟨i0, hi, hz0, hz1, hz2⟩ := info_parts Tryd.info_int
  have HS := Lib.hid h
  have H64 := Lib.hid h64
  have HT := Lib.hid hT
  clear h h64 hT
  have hmk := make_ints n hn w
  have HG0 : Hid (Grows w n [] (.slice (some ⟨w.heap.size, 0, none⟩) 0 n) (w.alloc (.cells (madeCells #[.int .i64 0] n) 3))) := by
    refine ⟨⟨rfl, .inr ⟨w.heap.size, n, madeCells #[.int .i64 0] n, rfl, Nat.le_refl _, Blk.new _ _ _, by simp, by unfold maxLen; omega, by simp [madeCells], by simp [i64s]⟩⟩, (Keeps.refl _ _).alloc _, by simp, by simp⟩
  go_enter Tryd.func60, Tryd.ntmps60
  go_wp2_with fail
  go_step3
  go_wp2_with fail
  go_step3
  go_wp2_with fail
  clear hmk
  go_loopg [5, 10] 4 (fun gh s5 s10 wx => ∃ k : Nat, k + gh = 4 ∧ s10 = .int .i64 (k : Int) ∧ Hid (Grows w n (freeTo (putAll B ps) (64 * k)) s5 wx))
  case atStart => exact ⟨0, by omega, rfl, HG0.out⟩
  case round =>
    obtain ⟨k, hk, rfl, HR⟩ := hrel
    cases gk with
    | zero =>
      obtain rfl : k = 4 := by omega
      clear hk
      have HM : Hid (MadeInts w ((freeL (putAll B ps)).take n) (.returned u5) wr) := by
        show MadeInts _ _ _ _
        have e : freeL (putAll B ps) = freeTo (putAll B ps) (64 * 4) := rfl
        rw [e, List.take_of_length_le HR.out.2.2.1]
        exact HR.out.made
      go_wp2_with fail
      rw [Exit.noGoto_ret]
      go_ret
      exact HM.out
    | succ gg =>
      have hk4 : k < 4 := by omega
      have hlt : (k : Int) < 4 := by omega
      have hk0 : (0 : Int) ≤ (k : Int) := by omega
      have HF := Lib.hid (paFreeIn_at (HS.out.keep HR.out.2.1 (by simp) (by simp)) H64.out k hk4)
      have HY := Lib.hid (frW_lt (putAll B ps) k)
      go_wp2_with fail
      refine HF.out.mono ?_; rintro e w' ⟨rfl, rfl⟩
      clear HF
      go_wp2_with fail
      clear hk0 hlt
      go_loopg [5, 7] (bitL (frW (putAll B ps) k)).length (fun gh s5 s7 wx => ∃ (y : Nat) (pre : List Nat), gh = (bitL y).length ∧ s7 = .int .u64 (y : Int) ∧
        Hid (y < 18446744073709551616 ∧ bitL (frW (putAll B ps) k) = pre ++ bitL y ∧ Grows w n (freeTo (putAll B ps) (64 * k) ++ pre.map (64 * k + ·)) s5 wx))
      case atStart => exact ⟨_, [], rfl, rfl, HY.out, rfl, by rw [List.map_nil, List.append_nil]; exact HR.out⟩
      case round =>
        clear HR HY
        obtain ⟨y, pre, hgh, rfl, HR⟩ := hrel
        cases gk with
        | zero =>
          have hy : y = 0 := bitL_none HR.out.1 (List.eq_nil_of_length_eq_zero hgh.symm)
          subst hy
          have HR2 : Hid (Grows w n (freeTo (putAll B ps) (64 * (k + 1))) u5 wr) := by
            show Grows _ _ _ _ _
            obtain ⟨-, h2, h3⟩ := HR.out
            rw [freeTo_word H64.out, h2, bitL_zero, List.append_nil]
            exact h3
          clear HR hgh
          have hlt : (k : Int) < 4 := by omega
          have hk0 : (0 : Int) ≤ (k : Int) := by omega
          go_wp2_with fail
          go_roundg gg
          case measure => omega
          case rel => exact ⟨k + 1, by omega, by go_num, HR2⟩
        | succ g2 =>
          have hy0 : y ≠ 0 := by
            intro e
            subst e
            rw [bitL_zero] at hgh
            cases hgh
          obtain ⟨hc, hb⟩ := bitL_next y hy0 HR.out.1
          have e0 : ((y : Int) == 0) = false := by simp; omega
          have e1 : ((y : Int) != 0) = true := by simp; omega
          by_cases hfull : (freeTo (putAll B ps) (64 * k) ++ pre.map (64 * k + ·)).length = n
          · have HM : Hid (MadeInts w ((freeL (putAll B ps)).take n) (.returned u5) wr) := by
              show MadeInts _ _ _ _
              obtain ⟨-, h2, h3⟩ := HR.out
              obtain ⟨r, hr⟩ := freeTo_prefix (putAll B ps) (64 * (k + 1)) 256 (by omega)
              have e : freeL (putAll B ps) = freeTo (putAll B ps) 256 := rfl
              rw [freeTo_word H64.out, h2, List.map_append] at hr
              rw [e, hr, ← List.append_assoc (freeTo (putAll B ps) (64 * k)), List.append_assoc, List.take_left' hfull]
              exact h3.made
            obtain ⟨a, cap, rfl, q1, q2⟩ := ownsRow_val HR.out.2.2.1
            rw [hfull] at HM ⊢
            clear HR hgh hb hc hy0
            go_wp2_with fail
            rw [Exit.noGoto_ret]
            go_ret
            exact HM.out
          · obtain ⟨f1, f2, ⟨f3, f4, f5, f6⟩⟩ := HR.out
            have HTZ := Lib.hid (tz_at y f1 hy0 wr (HT.out.keep f4))
            obtain ⟨hlow, hlow2⟩ := low_step y f1 hy0
            have HLT := Lib.hid hlow2
            have hlen : (freeTo (putAll B ps) (64 * k) ++ pre.map (64 * k + ·)).length + 1 ≤ n := by omega
            have HPRE : Hid (bitL (frW (putAll B ps) k) = (pre ++ [Lib.ctz 64 y]) ++ bitL (y &&& (y - 1))) := by
              show _ = _
              rw [f2, hb, List.append_assoc]
              rfl
            have HMEAS : Hid (g2 = (bitL (y &&& (y - 1))).length) := by
              show _ = _
              rw [hb, List.length_cons] at hgh
              omega
            have HLST : Hid (freeTo (putAll B ps) (64 * k) ++ (pre ++ [Lib.ctz 64 y]).map (64 * k + ·) = (freeTo (putAll B ps) (64 * k) ++ pre.map (64 * k + ·)) ++ [64 * k + Lib.ctz 64 y]) := by
              show _ = _
              rw [List.map_append, List.append_assoc]
              rfl
            obtain ⟨a, cap, rfl, q1, q2⟩ := ownsRow_val f3
            have HOWN := Lib.hid f3
            have HKP := Lib.hid f4
            have hws := f4.size
            clear f1 f2 f3 f4 f5 f6 HR hgh hb hlow2
            generalize freeTo (putAll B ps) (64 * k) ++ pre.map (64 * k + ·) = L at *
            generalize y &&& (y - 1) = z at *
            generalize Lib.ctz 64 y = c at *
            have HI : Hid (i64s (L ++ [64 * k + c]) = i64s L ++ [.int .i64 ((k : Int) * 64 + (c : Int))]) := by
              show _ = _
              rw [i64s_append]
              have : ((64 * k + c : Nat) : Int) = (k : Int) * 64 + (c : Int) := by omega
              simp only [i64s, List.map_cons, List.map_nil, this]
            have HLL : Hid ((L ++ [64 * k + c]).length = L.length + 1) := by show _ = _; simp
            have hlt : (k : Int) < 4 := by omega
            have hk0 : (0 : Int) ≤ (k : Int) := by omega
            have hc0 : (0 : Int) ≤ (c : Int) := by omega
            have hc1 : (c : Int) < 64 := by omega
            generalize L.length = q at *
            have e2 : (q == n) = false := by simpa using hfull
            have e3 : ((q : Int) == (n : Int)) = false := by simp; omega
            go_wp2_with fail
            refine HTZ.out.mono ?_; rintro e w' ⟨rfl, rfl⟩
            go_wp2_with (at_builtin; refine wpList_append_own _ rfl _ _ 34 rfl w.heap.size 3 i0 (.int .i64 0) 1 8 Tryd.underlying34 hi hz0 hz1 hz2 rfl (by decide) (.slice a q cap) q _ rfl (HOWN.out.alloc _) ⟨wr.heap.size, 0, none⟩ 1 1 [.int .i64 ((k : Int) * 64 + (c : Int))] rfl rfl ?c1 ?c2 (by unfold maxLen; omega) (by omega) (by simp; omega) ?_)
            case c1 => exact new_cells _ [_] _ _ rfl
            case c2 => simp [Value.oneCell']
            intro v' w1 hown1 hgrow hnil
            have HO1 := Lib.hid hown1
            have HK1 := Lib.hid ((HKP.out.alloc _).grown hgrow (ownsRow_block HOWN.out))
            have HNIL : Hid (v' ≠ .slice none 0 0) := hnil
            clear hown1 hgrow hnil
            go_wp2_with fail
            go_roundg g2
            case measure => omega
            case rel =>
              refine ⟨z, pre ++ [c], HMEAS.out, rfl, HLT.out, HPRE.out, ?_⟩
              rw [HLST.out]
              refine ⟨?_, HK1.out, by rw [HLL.out]; exact hlen, HNIL.out⟩
              rw [HI.out, HLL.out]
              exact HO1.out

end Go.Proofs.YtmhcnkjmnbnldaaDoor

namespace Go.Proofs.YtmhcnkjmnbnldaaDoor
open Go.RowKit

/-- The slice value v reads as these rows of eight words, which lie in block g (whatever g, if there are none). -/
def BReads (w : World) (v : Value) (g : Nat) (Ls : List (List Int)) : Prop :=
  ∃ a cap, v = .slice a Ls.length cap ∧ Ls.length ≤ cap ∧ cap ≤ maxLen ∧ (Ls.length ≠ 0 → g < w.heap.size ∧ ∃ off, a = some ⟨g, off, none⟩ ∧ ∀ k, k < Ls.length → ∀ j, j < 8 → w.cell? ⟨g, off + k * 8 + j, none⟩ = some (.int .u64 ((Ls.getD k []).getD j 0)))

theorem BReads.keep {w w' : World} {v : Value} {g : Nat} {Ls : List (List Int)} (h : BReads w v g Ls) {l : List Nat} (hk : Keeps l w w') (hg : Ls.length ≠ 0 → g ∉ l) : BReads w' v g Ls := by
  obtain ⟨a, cap, h1, h2, h3, h4⟩ := h
  refine ⟨a, cap, h1, h2, h3, fun hx => ?_⟩
  obtain ⟨hlt, off, h5, h6⟩ := h4 hx
  refine ⟨Nat.lt_of_lt_of_le hlt hk.size, off, h5, fun k hk2 j hj => ?_⟩
  exact (World.cell?_of_block (w := w) (w' := w') (a := ⟨g, off + k * 8 + j, none⟩) (hk.block g hlt (hg hx))).trans (h6 k hk2 j hj)

theorem BReads.nil (w : World) (g : Nat) : BReads w (.slice none 0 0) g [] := ⟨none, 0, rfl, by simp, by simp [maxLen], fun h => absurd rfl h⟩

theorem BReads.anyG {w : World} {v : Value} {g : Nat} {Ls : List (List Int)} (h : BReads w v g Ls) (he : Ls.length = 0) (g' : Nat) : BReads w v g' Ls := by
  obtain ⟨a, cap, h1, h2, h3, h4⟩ := h
  exact ⟨a, cap, h1, h2, h3, fun h => absurd he h⟩

/-- An inode's words, where it is a file's. -/
def fileRow (n : Ino) (own : List Nat) : List Int :=
  if (runsL n.B).length ≤ 6 then tagW n :: n.S :: (runsL n.B ++ List.replicate (6 - (runsL n.B).length) 0) else tagW n :: n.S :: ((runsL n.B).take 5 ++ [9223372036854775808 + ((own.getD 0 0 : Nat) : Int)])

/-- The words of its block. -/
def fileBlocks (n : Ino) : List (List Int) :=
  if (runsL n.B).length ≤ 6 then [] else [(runsL n.B).drop 5 ++ List.replicate (13 - (runsL n.B).length) 0]

/-- What laid and its parts leave. -/
def LaidPost (w : World) (R : List Int) (Bs : List (List Int)) (e : Ending) (w' : World) : Prop :=
  ∃ vb gb, e = .returned (.tuple #[.agg (u64s R).toArray, vb]) ∧ BReads w' vb gb Bs ∧ w.heap.size ≤ gb ∧ Keeps [] w w'

theorem results_cell2 {P : Program} {fn : Func} {tmps : Array Value} {a t b : Nat} {ad : Addr} {v x : Value} {w : World} (hfn : fn.results = #[.cell a t, .tmp b]) (ha : tmps.getD a undef = .pointer (some ad)) (hl : (loadVar t ad).run P w = .ok v w)
    (hb : tmps.getD b undef = x) : (results fn tmps).run P w = .ok (.tuple #[v, x]) w := by
  rw [Array.getD_eq_getD_getElem?] at ha hb
  unfold results
  rw [hfn]
  simp [Sem.run_bind, ha, asAddr_ptr, hl, hb]

theorem step_store_any {P : Program} {ops : Array Oper} {o : Oper} {a : Act} {w : World} {K : Act → World → Prop} {Q : Exit → Act → World → Prop} {E : Prop} (hgd : o.guard = none) (ty : TypeId) (x y : Operand) (ho : o.op = .store ty x y) (ad : Addr)
    (hx : a.eval x = .pointer (some ad)) (v : Value) (hy : a.eval y = v) (w' : World) (hr : (storeVar ty ad v).run P w = .ok () w') (h : K (a.put o.dst undef) w') : if Region.wanted o (yielded ops a.tmps) = true then Oper.wp P o a w K Q else E := by
  have hw : Region.wanted o (yielded ops a.tmps) = true := by simp [Region.wanted, hgd]
  rw [if_pos hw]
  unfold Oper.wp execOp
  simp only [ho, hx, hy, Instr.storeAt, Instr.sureAddr, Sem.run_bind, Sem.run_pure, Result.andThen_ok, hr]
  exact h

theorem breads_one {w : World} {b T : Nat} {L : List Int} {a0 a1 a2 a3 a4 a5 a6 a7 : Value} (hb : Blk w b #[a0, a1, a2, a3, a4, a5, a6, a7] T) (hl : L.length = 8) (h : u64s L = [a0, a1, a2, a3, a4, a5, a6, a7]) : BReads w (.slice (some ⟨b, 0, none⟩) 1 1) b [L] := by
  refine ⟨_, 1, rfl, Nat.le_refl _, by unfold maxLen; omega, fun _ => ⟨hb.lt, 0, rfl, fun k hk j hj => ?_⟩⟩
  have hk0 : k = 0 := by
    have : k < 1 := hk
    omega
  subst hk0
  have e : (0 + 0 * 8 + j : Nat) = j := by omega
  rw [e, hb.cell]
  have h2 : (#[a0, a1, a2, a3, a4, a5, a6, a7] : Array Value) = (u64s L).toArray := by rw [h]
  rw [h2, List.getElem?_toArray, u64s_get (by omega)]
  rfl

theorem slice_two8 (b : Nat) (w : World) : (Instr.sliceAt 63 (.pointer (some ⟨b, 0, none⟩)) (some (.int .i64 2)) none none).run Tryd.prog w = .ok (.slice (some ⟨b, 2, none⟩) 6 6) w := by show Sem.run _ _ _ = _; kernel_rfl

set_option maxRecDepth 100000 in
set_option maxHeartbeats 8000000 in
theorem laidFile_small {w : World} (n : Ino) (v : Value) (hB : n.B.length = 13) (ht : TagOk n) (vo : Value) (own : List Nat) (h6 : (runsL n.B).length ≤ 6) :
    Calls Tryd.prog 74 #[.agg (inoC n v), vo] w (LaidPost w (fileRow n own) (fileBlocks n)) := by
  have hFR : fileRow n own = tagW n :: n.S :: (runsL n.B ++ List.replicate (6 - (runsL n.B).length) 0) := if_pos h6
  have hFB : fileBlocks n = [] := if_pos h6
  rw [hFR, hFB]
  have HH := Lib.hid (head_at n v hB ht)
  have HRUN := Lib.hid (fun wx => runs_at n.B hB wx)
  obtain ⟨W0, hW0⟩ : ∃ W0, W0 = (w.alloc (.cells (inoC n v) 25)).alloc (.cells (u64s (List.replicate 8 0)).toArray 63) := ⟨_, rfl⟩
  have hb0 : Blk W0 w.heap.size (inoC n v) 25 := by
    rw [hW0]
    exact (Blk.new w _ _).alloc _
  have HBR : Hid (Blk W0 (w.heap.size + 1) (u64s (List.replicate 8 0)).toArray 63) := by
    have := Blk.new (w.alloc (.cells (inoC n v) 25)) (u64s (List.replicate 8 0)).toArray 63
    have e : (w.alloc (.cells (inoC n v) 25)).heap.size = w.heap.size + 1 := by simp
    rw [e, ← hW0] at this
    exact this
  have HK0 : Hid (Keeps [] w W0) := by
    rw [hW0]
    exact ((Keeps.refl [] w).alloc _).alloc _
  have HLI := Lib.hid (load_ino hb0 hB)
  have HLB : Hid (∀ wx, Keeps [] W0 wx → (loadVar 22 ⟨w.heap.size, 4, none⟩).run Tryd.prog wx = .ok (.agg (zs n.B).toArray) wx) := fun wx hk => load_n13 (off := 4) (hb0.keep hk (by simp)) hB fun k hk => inoC_B _ (by omega)
  have hzv := zero_r8
  have hRL : (runsL n.B).length ≤ 13 := runsTo_len n.B 13
  have HW0 := Lib.hid hW0
  have HHL : Hid (headL n = tagW n :: n.S :: List.replicate 6 0) := rfl
  have hh8 := headL_len n
  generalize tagW n = t at *
  generalize n.S = s at *
  generalize headL n = H at *
  generalize runsL n.B = R at *
  generalize (zs n.B).toArray = ZB at *
  generalize inoC n v = Z at *
  clear hb0 hW0 hFR hFB ht hB
  generalize hz8 : (u64s (List.replicate 8 0)).toArray = Z8 at *
  have HZ8 := Lib.hid hz8
  clear hz8
  go_enter Tryd.func74, Tryd.ntmps74
  go_wp2_with ((with_reducible show wpList _ _ _ (⟨_, .load 25 (.tmp 2), _, _, _, _⟩ :: _) _ _); rw [← HW0.out]; refine wpList_load_any rfl 25 (.tmp 2) rfl _ rfl _ HLI.out ?_)
  refine (HH.out _).mono ?_; rintro e w1 ⟨rfl, hk1⟩
  obtain ⟨w2, hst, hb6, hk2⟩ := store_whole (P := Tryd.prog) (ty := 63) (cs := u64s H) (by rw [u64s_len, hh8]; exact size_r8) (Blk.new w1 Z8 63) (by rw [← HZ8.out]; simp [u64s_len, hh8]) (u64s_one _)
  have hk02 : Keeps [] W0 w2 := (hk1.alloc (.cells Z8 63)).trans hk2 (by intro x hx; rw [List.mem_singleton] at hx; have := hk1.size; omega)
  have hg1 : w.heap.size + 1 < w1.heap.size := Nat.lt_of_lt_of_le HBR.out.lt hk1.size
  have HST := Lib.hid hst
  have HB6 := Lib.hid hb6
  have HK2 := Lib.hid hk02
  have HL13 := Lib.hid (HLB.out w2 hk02)
  clear hst hb6 hk2 hk02 hk1 HH
  generalize hg6 : w1.heap.size = g6 at *
  go_wp2_with (first | ((with_reducible show wpList _ _ _ (⟨_, .store 63 (.tmp 6) (.tmp 11), _, _, _, _⟩ :: _) _ _); refine wpList_store_any rfl 63 (.tmp 6) (.tmp 11) rfl _ rfl _ rfl _ HST.out ?_) | ((with_reducible show wpList _ _ _ (⟨_, .load 22 (.tmp 12), _, _, _, _⟩ :: _) _ _); refine wpList_load_any rfl 22 (.tmp 12) rfl _ rfl _ HL13.out ?_))
  refine (HRUN.out _).mono ?_; rintro e w3 ⟨va, ga, rfl, hra, hga, hka⟩
  obtain ⟨vc, w4, hcp, hb64, hk4⟩ := copy_reads (o := 2) (n := 6) (cap := 6) (HB6.out.keep hka (by simp)) hra h6 (by rw [hh8]; omega)
  obtain ⟨aa, ca, rfl, -, -, -⟩ := u64s_cell hra
  have hrow : H.take 2 ++ R ++ H.drop (2 + R.length) = t :: s :: (R ++ List.replicate (6 - R.length) 0) := by
    rw [HHL.out, show 2 + R.length = R.length + 1 + 1 by omega, List.drop_succ_cons, List.drop_succ_cons, List.drop_replicate]
    rfl
  rw [hrow] at hb64
  have hrl : (t :: s :: (R ++ List.replicate (6 - R.length) 0)).length = 8 := by simp; omega
  have HL6 := Lib.hid (load_r8 hb64 hrl)
  have HK4 : Hid (Keeps [] w w4) := ((HK0.out.trans' HK2.out).trans' hka).trans hk4 (by intro x hx; rw [List.mem_singleton] at hx; omega)
  have hbr4 : Blk w4 (w.heap.size + 1) Z8 63 := (((HBR.out.keep HK2.out (by simp)).keep hka (by simp)).keep hk4 (by rw [List.mem_singleton]; omega))
  obtain ⟨w5, hS, hb5, hk5⟩ := store_whole (P := Tryd.prog) (ty := 63) (cs := u64s (t :: s :: (R ++ List.replicate (6 - R.length) 0))) (by rw [u64s_len, hrl]; exact size_r8) hbr4 (by rw [← HZ8.out]; simp [u64s_len, hrl]) (u64s_one _)
  have HS := Lib.hid hS
  have HL5 := Lib.hid (load_r8 hb5 hrl)
  have HK5 : Hid (Keeps [] w w5) := HK4.out.trans hk5 (by intro x hx; rw [List.mem_singleton] at hx; omega)
  have HCP := Lib.hid hcp
  have hsl := slice_two8 g6
  have h6' : (R.length : Int) ≤ 6 := by omega
  clear hra hga hka hcp hb64 hk4 hrow hrl hbr4 hS hb5 hk5 hh8
  go_wp2_with (first | ((with_reducible show wpList _ _ _ (⟨some 20, _, _, _, _, _⟩ :: _) _ _); refine wpList_copy_any rfl (.tmp 18) (.tmp 19) 44 44 rfl _ _ rfl rfl (HCP.out _) ?_) | ((with_reducible show wpList _ _ _ (⟨_, .load 63 (.tmp 6), _, _, _, _⟩ :: _) _ _); refine wpList_load_any rfl 63 (.tmp 6) rfl _ rfl _ HL6.out ?_) | ((with_reducible show wpList _ _ _ (⟨_, .store 63 (.tmp 4) (.tmp 21), _, _, _, _⟩ :: _) _ _); refine wpList_store_any rfl 63 (.tmp 4) (.tmp 21) rfl _ rfl _ rfl _ HS.out ?_))
  exact bodyPost_ret (results_cell2 Tryd.results74 rfl HL5.out rfl) rfl ⟨_, w.heap.size, rfl, BReads.nil _ _, Nat.le_refl _, HK5.out⟩

theorem ints_cellR {w : World} {v : Value} {g : Nat} {xs : List Nat} (h : Reads w v g (i64s xs)) : ∃ a cap, v = .slice a xs.length cap ∧ xs.length ≤ cap ∧ cap ≤ maxLen ∧
    Hid (∀ k, k < xs.length → g < w.heap.size ∧ ∃ off, a = some ⟨g, off, none⟩ ∧ w.cell? ⟨g, off + k, none⟩ = some (.int .i64 ((xs.getD k 0 : Nat) : Int))) := by
  obtain ⟨a, cap, h0, h1, h2, h3⟩ := h
  rw [i64s_len] at *
  refine ⟨a, cap, h0, h1, h2, fun k hk => ?_⟩
  obtain ⟨hg, off, ho, hc⟩ := h3 (by intro e; have := congrArg List.length e; rw [i64s_len, List.length_nil] at this; omega)
  exact ⟨hg, off, ho, (hc k hk).trans (i64s_get hk)⟩

/-- A part of a slice of words. -/
theorem Reads.part {w : World} {g off L cap : Nat} {R : List Int} (h : Reads w (.slice (some ⟨g, off, none⟩) L cap) g (u64s R)) {o n : Nat} (hn : o + n ≤ R.length) : Reads w (.slice (some ⟨g, off + o, none⟩) n (cap - o)) g (u64s ((R.drop o).take n)) := by
  obtain ⟨a, c, hv, h1, h2, h3⟩ := h
  cases hv
  rw [u64s_len] at h1
  have hl : (u64s ((R.drop o).take n)).length = n := by rw [u64s_len, List.length_take, List.length_drop]; omega
  refine ⟨_, cap - o, by rw [hl], by rw [hl]; omega, by omega, fun hx => ?_⟩
  have hn0 : 0 < n := by
    rcases Nat.eq_zero_or_pos n with h0 | h0
    · subst h0; exact absurd (List.eq_nil_of_length_eq_zero hl) hx
    · exact h0
  obtain ⟨hg, off', ho, hc⟩ := h3 (by intro e; have := congrArg List.length e; rw [u64s_len, List.length_nil] at this; omega)
  cases ho
  refine ⟨hg, _, rfl, fun j hj => ?_⟩
  rw [hl] at hj
  have := hc (o + j) (by rw [u64s_len]; omega)
  rw [Nat.add_assoc, this, u64s_get (by omega), u64s_get (by rw [List.length_take, List.length_drop]; omega)]
  simp [List.getD_eq_getElem?_getD, hj]

set_option maxRecDepth 100000 in
set_option maxHeartbeats 8000000 in
theorem laidFile_big {w : World} (n : Ino) (v : Value) (hB : n.B.length = 13) (ht : TagOk n) (vo : Value) (go : Nat) (own : List Nat) (ho : Reads w vo go (i64s own)) (hgo : own.getD 0 0 < 256) (h1 : 1 ≤ own.length) (h6 : 6 < (runsL n.B).length) :
    Calls Tryd.prog 74 #[.agg (inoC n v), vo] w (LaidPost w (fileRow n own) (fileBlocks n)) := by
  have hFR : fileRow n own = tagW n :: n.S :: ((runsL n.B).take 5 ++ [9223372036854775808 + ((own.getD 0 0 : Nat) : Int)]) := if_neg (by omega)
  have hFB : fileBlocks n = [(runsL n.B).drop 5 ++ List.replicate (13 - (runsL n.B).length) 0] := if_neg (by omega)
  rw [hFR, hFB]
  obtain ⟨ao, co, rfl, hoc, hom, HOC⟩ := ints_cellR ho
  obtain ⟨hgol, offo, rfl, hco⟩ := HOC.out 0 (by omega)
  have hol : 0 < (own.length : Int) := by omega
  obtain ⟨x0, hx0⟩ : ∃ x0, x0 = own.getD 0 0 := ⟨_, rfl⟩
  rw [← hx0] at hgo hco ⊢
  rw [Nat.add_zero] at hco
  have HCO := Lib.hid hco
  clear hco hx0 HOC ho
  have HH := Lib.hid (head_at n v hB ht)
  have HRUN := Lib.hid (fun wx => runs_at n.B hB wx)
  obtain ⟨W0, hW0⟩ : ∃ W0, W0 = (w.alloc (.cells (inoC n v) 25)).alloc (.cells (u64s (List.replicate 8 0)).toArray 63) := ⟨_, rfl⟩
  have hb0 : Blk W0 w.heap.size (inoC n v) 25 := by
    rw [hW0]
    exact (Blk.new w _ _).alloc _
  have HBR : Hid (Blk W0 (w.heap.size + 1) (u64s (List.replicate 8 0)).toArray 63) := by
    have := Blk.new (w.alloc (.cells (inoC n v) 25)) (u64s (List.replicate 8 0)).toArray 63
    have e : (w.alloc (.cells (inoC n v) 25)).heap.size = w.heap.size + 1 := by simp
    rw [e, ← hW0] at this
    exact this
  have HK0 : Hid (Keeps [] w W0) := by
    rw [hW0]
    exact ((Keeps.refl [] w).alloc _).alloc _
  have HLI := Lib.hid (load_ino hb0 hB)
  have HLB : Hid (∀ wx, Keeps [] W0 wx → (loadVar 22 ⟨w.heap.size, 4, none⟩).run Tryd.prog wx = .ok (.agg (zs n.B).toArray) wx) := fun wx hk => load_n13 (off := 4) (hb0.keep hk (by simp)) hB fun k hk => inoC_B _ (by omega)
  have hzv := zero_r8
  have hRL : (runsL n.B).length ≤ 13 := runsTo_len n.B 13
  have HW0 := Lib.hid hW0
  have HHL : Hid (headL n = tagW n :: n.S :: List.replicate 6 0) := rfl
  have hh8 := headL_len n
  generalize tagW n = t at *
  generalize n.S = s at *
  generalize headL n = H at *
  generalize runsL n.B = R at *
  generalize (zs n.B).toArray = ZB at *
  generalize inoC n v = Z at *
  clear hb0 hW0 hFR hFB ht hB
  generalize hz8 : (u64s (List.replicate 8 0)).toArray = Z8 at *
  have HZ8 := Lib.hid hz8
  clear hz8
  go_enter Tryd.func74, Tryd.ntmps74
  go_wp2_with ((with_reducible show wpList _ _ _ (⟨_, .load 25 (.tmp 2), _, _, _, _⟩ :: _) _ _); rw [← HW0.out]; refine wpList_load_any rfl 25 (.tmp 2) rfl _ rfl _ HLI.out ?_)
  refine (HH.out _).mono ?_; rintro e w1 ⟨rfl, hk1⟩
  obtain ⟨w2, hst, hb6, hk2⟩ := store_whole (P := Tryd.prog) (ty := 63) (cs := u64s H) (by rw [u64s_len, hh8]; exact size_r8) (Blk.new w1 Z8 63) (by rw [← HZ8.out]; simp [u64s_len, hh8]) (u64s_one _)
  have hk02 : Keeps [] W0 w2 := (hk1.alloc (.cells Z8 63)).trans hk2 (by intro x hx; rw [List.mem_singleton] at hx; have := hk1.size; omega)
  have hg1 : w.heap.size + 1 < w1.heap.size := Nat.lt_of_lt_of_le HBR.out.lt hk1.size
  have HST := Lib.hid hst
  have HB6 := Lib.hid hb6
  have HK2 := Lib.hid hk02
  have HL13 := Lib.hid (HLB.out w2 hk02)
  clear hst hb6 hk2 hk02 hk1 HH
  generalize hg6 : w1.heap.size = g6 at *
  go_wp2_with (first | ((with_reducible show wpList _ _ _ (⟨_, .store 63 (.tmp 6) (.tmp 11), _, _, _, _⟩ :: _) _ _); refine wpList_store_any rfl 63 (.tmp 6) (.tmp 11) rfl _ rfl _ rfl _ HST.out ?_) | ((with_reducible show wpList _ _ _ (⟨_, .load 22 (.tmp 12), _, _, _, _⟩ :: _) _ _); refine wpList_load_any rfl 22 (.tmp 12) rfl _ rfl _ HL13.out ?_))
  refine (HRUN.out _).mono ?_; rintro e w3 ⟨va, ga, rfl, hra, hga, hka⟩
  obtain ⟨aa, ca, rfl, hR1, hR2, HRC⟩ := u64s_cell hra
  obtain ⟨-, offa, rfl, -⟩ := HRC.out 0 (by omega)
  have hrp := hra.part (o := 0) (n := 5) (by omega)
  rw [Nat.add_zero, Nat.sub_zero, List.drop_zero] at hrp
  have hl5 : (R.take 5).length = 5 := by rw [List.length_take]; omega
  obtain ⟨vc, w4, hcp, hb64, hk4⟩ := copy_reads (w := w3.drew) (o := 2) (n := 6) (cap := 6) (HB6.out.keep hka (by simp)).drew (show Reads w3.drew _ ga (u64s (R.take 5)) from hrp) (by omega) (by rw [hh8]; omega)
  have hcp' := hcp 3
  have hsl := slice_two8 g6
  have h6' : ¬ (R.length : Int) ≤ 6 := by omega
  have hca5 : (5 : Int) ≤ (ca : Int) := by omega
  have hca5' : 5 ≤ ca := by omega
  go_wp2_with fail
  go_region_with (fail)
  have HK4 : Hid (Keeps [] w w4) := (((HK0.out.trans' HK2.out).trans' hka).drew).trans hk4 (by intro x hx; rw [List.mem_singleton] at hx; omega)
  have hrow : H.take 2 ++ R.take 5 ++ H.drop (2 + (R.take 5).length) = t :: s :: (R.take 5 ++ [0]) := by
    rw [HHL.out, hl5]
    rfl
  rw [hrow] at hb64
  have hrl : (t :: s :: (R.take 5 ++ [(0 : Int)])).length = 8 := by simp [hl5]
  have HBR4 : Hid (Blk w4 (w.heap.size + 1) Z8 63) := ((HBR.out.keep HK2.out (by simp)).keep hka (by simp)).drew.keep hk4 (by rw [List.mem_singleton]; omega)
  have hg62 : g6 < w2.heap.size := HB6.out.lt
  have hgga : g6 < ga := by omega
  have HRA4 : Hid (Reads w4 (.slice (some ⟨ga, offa, none⟩) R.length ca) ga (u64s R)) := (show Reads w3.drew _ ga (u64s R) from hra).keep hk4 (by rw [List.mem_singleton]; omega)
  have cown := (World.cell?_of_block (w := w) (w' := w4) (a := ⟨go, offo, none⟩) (HK4.out.block go hgol (by simp))).trans HCO.out
  have c7 : w4.cell? ⟨g6, 7, none⟩ = some (.int .u64 ((t :: s :: (R.take 5 ++ [(0 : Int)])).getD 7 0)) := by
    rw [hb64.cell, List.getElem?_toArray, u64s_get (by omega)]
  have f7 : w4.frozen? ⟨g6, 7, none⟩ = false := hb64.frozen 7
  have hor : bits .or .u64 9223372036854775808 (x0 : Int) = ((9223372036854775808 + x0 : Nat) : Int) := by
    rw [show (9223372036854775808 : Int) = ((9223372036854775808 : Nat) : Int) from rfl, u64_or_nat _ _ (by omega) (by omega), nat_join 63 _ _ (by decide) (by omega)]
  obtain ⟨X, hX⟩ : ∃ X : Int, X = ((9223372036854775808 + x0 : Nat) : Int) := ⟨_, rfl⟩
  rw [← hX] at hor
  have hXE : (9223372036854775808 : Int) + ((x0 : Nat) : Int) = X := by omega
  rw [hXE]
  have hxw := wrap_nat64 (x := (x0 : Int)) (by omega) (by omega)
  have hb67 : Blk (w4.setCell ⟨g6, 7, none⟩ (.int .u64 X)) g6 (u64s (t :: s :: (R.take 5 ++ [X]))).toArray 63 := by
    have := hb64.set 7 (.int .u64 X)
    rw [List.setIfInBounds_toArray, u64s_set] at this
    have e : (t :: s :: (R.take 5 ++ [(0 : Int)])).set 7 X = t :: s :: (R.take 5 ++ [X]) := by
      rw [List.set_cons_succ, List.set_cons_succ, List.set_append_right _ _ (by omega), hl5]
      rfl
    rw [e] at this
    exact this
  have HB67 := Lib.hid hb67
  have HRLEN : Hid ((t :: s :: (R.take 5 ++ [X])).length = 8) := by show _ = _; simp [hl5]
  obtain ⟨W5, hW5⟩ : ∃ W5, W5 = (w4.setCell ⟨g6, 7, none⟩ (.int .u64 X)).alloc (.cells Z8 63) := ⟨_, rfl⟩
  have HW5 := Lib.hid hW5
  have hs4 : (w4.setCell ⟨g6, 7, none⟩ (.int .u64 X)).heap.size = w4.heap.size := by simp [World.setCell]
  have HB9 : Hid (Blk W5 w4.heap.size (u64s (List.replicate 8 0)).toArray 63) := by
    have := Blk.new (w4.setCell ⟨g6, 7, none⟩ (.int .u64 X)) Z8 63
    rw [hs4, ← hW5, ← HZ8.out] at this
    exact this
  have HK45 : Hid (Keeps [g6] w4 W5) := by
    rw [hW5]
    exact ((Keeps.refl [g6] w4).setCell (.inl (by simp)) _).alloc _
  have HB65 : Hid (Blk W5 g6 (u64s (t :: s :: (R.take 5 ++ [X]))).toArray 63) := by
    rw [hW5]
    exact hb67.alloc _
  have hg64 : g6 < w4.heap.size := hb64.lt
  generalize (t :: s :: (R.take 5 ++ [(0 : Int)])).getD 7 0 = y7 at *
  clear hb64 hb67 hk4 hcp hcp' hrp hrow hrl hka hra hga hW5 hX
  go_wp2_with fail
  rw [← HW5.out]
  have HRA5 : Hid (Reads W5 (.slice (some ⟨ga, offa, none⟩) R.length ca) ga (u64s R)) := HRA4.out.keep HK45.out (by rw [List.mem_singleton]; omega)
  have hrp5 := HRA5.out.part (o := 5) (n := R.length - 5) (by omega)
  rw [List.take_of_length_le (by rw [List.length_drop]; omega)] at hrp5
  have hd5 : (R.drop 5).length = R.length - 5 := List.length_drop
  obtain ⟨vc2, w6, hcp2, hb9, hk6⟩ := copy_reads (w := W5.drew) (o := 0) (n := 8) (cap := 8) (Blk.drew HB9.out) (show Reads W5.drew _ ga (u64s (R.drop 5)) from hrp5) (by omega) (by rw [List.length_replicate]; omega)
  have hcp2' := hcp2 3
  have hrow9 : (List.replicate 8 (0 : Int)).take 0 ++ R.drop 5 ++ (List.replicate 8 (0 : Int)).drop (0 + (R.drop 5).length) = R.drop 5 ++ List.replicate (13 - R.length) 0 := by
    rw [hd5, List.take_zero, List.nil_append, Nat.zero_add, List.drop_replicate, show 8 - (R.length - 5) = 13 - R.length by omega]
  rw [hrow9] at hb9
  have hsa := slice_all8 w4.heap.size
  have hl5' : (5 : Int) ≤ (R.length : Int) := by omega
  have hca0 : ¬ ca = 5 := by omega
  have hl5n : 5 ≤ R.length := by omega
  clear hor hxw c7 f7 cown hsl
  go_region_with (fail)
  have hrb8 : (R.drop 5 ++ List.replicate (13 - R.length) 0).length = 8 := by rw [List.length_append, hd5, List.length_replicate]; omega
  have hg96 : w4.heap.size < w6.heap.size := hb9.lt
  have HL6 : Hid (∀ wx, Keeps [w.heap.size + 1] w6 wx → (loadVar 63 ⟨g6, 0, none⟩).run Tryd.prog wx = .ok (.agg (u64s (t :: s :: (R.take 5 ++ [X]))).toArray) wx) := fun wx hk => load_r8 (((Blk.drew HB65.out).keep hk6 (by rw [List.mem_singleton]; omega)).keep hk (by rw [List.mem_singleton]; omega)) HRLEN.out
  have HL9 : Hid (∀ wx, Keeps [w.heap.size + 1] w6 wx → (loadVar 63 ⟨w4.heap.size, 0, none⟩).run Tryd.prog wx = .ok (.agg (u64s (R.drop 5 ++ List.replicate (13 - R.length) 0)).toArray) wx) := fun wx hk => load_r8 (hb9.keep hk (by rw [List.mem_singleton]; omega)) hrb8
  have hbr6 : Blk w6 (w.heap.size + 1) Z8 63 := (Blk.drew (HBR4.out.keep HK45.out (by rw [List.mem_singleton]; omega))).keep hk6 (by rw [List.mem_singleton]; omega)
  have HSR : Hid (∀ wx, Keeps [] w6 wx → ∃ wS, (storeVar 63 ⟨w.heap.size + 1, 0, none⟩ (.agg (u64s (t :: s :: (R.take 5 ++ [X]))).toArray)).run Tryd.prog wx = .ok () wS ∧ Blk wS (w.heap.size + 1) (u64s (t :: s :: (R.take 5 ++ [X]))).toArray 63 ∧ Keeps [w.heap.size + 1] wx wS) := fun wx hk =>
    store_whole (P := Tryd.prog) (ty := 63) (cs := u64s (t :: s :: (R.take 5 ++ [X]))) (by rw [u64s_len, HRLEN.out]; exact size_r8) (hbr6.keep hk (by simp)) (by rw [← HZ8.out, List.size_toArray, u64s_len, u64s_len, HRLEN.out, List.length_replicate]) (u64s_one _)
  have HK6 : Hid (Keeps [] w w6) := ((HK4.out.trans HK45.out (by intro x hx; rw [List.mem_singleton] at hx; omega)).drew).trans hk6 (by intro x hx; rw [List.mem_singleton] at hx; omega)
  clear hb9 hk6 hcp2 hcp2' hrp5 hrow9 hbr6 HRA5 HRA4 HB9 HB65 HB67 HBR4
  generalize hRO : u64s (t :: s :: (R.take 5 ++ [X])) = ZO at *
  generalize hRB : u64s (R.drop 5 ++ List.replicate (13 - R.length) 0) = ZB9 at *
  have hz9 : ZB9.length = 8 := by rw [← hRB, u64s_len, hrb8]
  obtain ⟨a0, a1, a2, a3, a4, a5, a6, a7, rfl⟩ : ∃ a0 a1 a2 a3 a4 a5 a6 a7, ZB9 = [a0, a1, a2, a3, a4, a5, a6, a7] := by
    match ZB9, hz9 with
    | [a, b, c, d, e, f, g, h], _ => exact ⟨a, b, c, d, e, f, g, h, rfl⟩
  have HRB := Lib.hid hRB
  have HRO := Lib.hid hRO
  have HRB8 := Lib.hid hrb8
  clear hRB hRO hz9 hrb8
  go_wp2_with fail
  refine wp_region_any (by kernel_rfl) ?_
  (try (change wpAny _ _ _ _ _ _ _ (World.drew _)))
  refine wpAny_ready (rs := [0, 1]) (by kernel_rfl) (by simp) ?_
  refine AllReady.cons rfl (fun K hK => ?_) ?_
  · refine step_load_any rfl 63 (.tmp 6) rfl _ rfl _ (HL6.out _ (by first | exact (Keeps.refl _ _).drew | exact ((Keeps.refl _ _).drew).alloc _ | exact ((Keeps.refl _ _).drew).trans' HKS.out | exact (((Keeps.refl _ _).drew).alloc _).trans' HKS.out | exact (((Keeps.refl _ _).drew).trans' HKS.out).alloc _)) ?_
    refine hK _ _ ?_
    clear hK K
    refine wpAny_ready (rs := [1, 3]) (by kernel_rfl) (by simp) ?_
    refine AllReady.cons rfl (fun K hK => ?_) ?_
    · refine step_load_any rfl 63 (.tmp 9) rfl _ rfl _ (HL9.out _ (by first | exact (Keeps.refl _ _).drew | exact ((Keeps.refl _ _).drew).alloc _ | exact ((Keeps.refl _ _).drew).trans' HKS.out | exact (((Keeps.refl _ _).drew).alloc _).trans' HKS.out | exact (((Keeps.refl _ _).drew).trans' HKS.out).alloc _)) ?_
      refine hK _ _ ?_
      clear hK K
      refine wpAny_ready (rs := [2, 3]) (by kernel_rfl) (by simp) ?_
      refine AllReady.cons rfl (fun K hK => ?_) ?_
      · go_simp
        refine hK _ _ ?_
        clear hK K
        refine wpAny_ready (rs := [3]) (by kernel_rfl) (by simp) ?_
        refine AllReady.cons rfl (fun K hK => ?_) ?_
        · obtain ⟨wS, hS, hbS, hkS⟩ := HSR.out _ (((Keeps.refl _ _).drew).alloc _)
          have HS := Lib.hid hS
          have HBS := Lib.hid hbS
          have HKS := Lib.hid hkS
          clear hS hbS hkS
          refine step_store_any rfl 63 (.tmp 4) (.tmp 38) rfl _ rfl _ rfl _ HS.out ?_
          refine hK _ _ ?_
          clear hK K
          refine wpAny_ready (rs := [4]) (by kernel_rfl) (by simp) ?_
          refine AllReady.cons rfl (fun K hK => ?_) ?_
          · go_simp
            refine hK _ _ ?_
            clear hK K
            refine wpAny_done (by kernel_rfl) ?_ _
            go_wp2_with fail
            have HB1 : Blk wS w6.heap.size #[a0, a1, a2, a3, a4, a5, a6, a7] 63 := Blk.keep (Blk.new w6.drew #[a0, a1, a2, a3, a4, a5, a6, a7] 63) HKS.out (by rw [List.mem_singleton]; show ¬ w6.heap.size = _; omega)
            have HKF : Keeps [] w wS := ((HK6.out.drew).alloc _).trans HKS.out (by intro x hx; rw [List.mem_singleton] at hx; omega)
            exact bodyPost_ret (results_cell2 Tryd.results74 rfl (by have := HBS.out; rw [← HRO.out] at this; exact load_r8 this HRLEN.out) rfl) rfl ⟨.slice (some ⟨w6.heap.size, 0, none⟩) 1 1, w6.heap.size, (by rw [hXE, HRO.out]; rfl), breads_one HB1 HRB8.out HRB.out, by omega, HKF⟩
          exact AllReady.nil
        exact AllReady.nil
      refine AllReady.cons rfl (fun K hK => ?_) ?_
      · obtain ⟨wS, hS, hbS, hkS⟩ := HSR.out _ ((Keeps.refl _ _).drew)
        have HS := Lib.hid hS
        have HBS := Lib.hid hbS
        have HKS := Lib.hid hkS
        clear hS hbS hkS
        refine step_store_any rfl 63 (.tmp 4) (.tmp 38) rfl _ rfl _ rfl _ HS.out ?_
        refine hK _ _ ?_
        clear hK K
        refine wpAny_ready (rs := [2]) (by kernel_rfl) (by simp) ?_
        refine AllReady.cons rfl (fun K hK => ?_) ?_
        · go_simp
          refine hK _ _ ?_
          clear hK K
          refine wpAny_ready (rs := [4]) (by kernel_rfl) (by simp) ?_
          refine AllReady.cons rfl (fun K hK => ?_) ?_
          · go_simp
            refine hK _ _ ?_
            clear hK K
            refine wpAny_done (by kernel_rfl) ?_ _
            go_wp2_with fail
            have HB1 : Blk (wS.alloc (.cells #[a0, a1, a2, a3, a4, a5, a6, a7] 63)) wS.heap.size #[a0, a1, a2, a3, a4, a5, a6, a7] 63 := Blk.new wS #[a0, a1, a2, a3, a4, a5, a6, a7] 63
            have hws : w6.heap.size ≤ wS.heap.size := HKS.out.size
            have HKF : Keeps [] w (wS.alloc (.cells #[a0, a1, a2, a3, a4, a5, a6, a7] 63)) := ((HK6.out.drew).trans HKS.out (by intro x hx; rw [List.mem_singleton] at hx; omega)).alloc _
            exact bodyPost_ret (results_cell2 Tryd.results74 rfl (by have := HBS.out; rw [← HRO.out] at this; exact load_r8 (this.alloc _) HRLEN.out) rfl) rfl ⟨.slice (some ⟨wS.heap.size, 0, none⟩) 1 1, wS.heap.size, (by rw [hXE, HRO.out]; rfl), breads_one HB1 HRB8.out HRB.out, by omega, HKF⟩
          exact AllReady.nil
        exact AllReady.nil
      exact AllReady.nil
    refine AllReady.cons rfl (fun K hK => ?_) ?_
    · obtain ⟨wS, hS, hbS, hkS⟩ := HSR.out _ ((Keeps.refl _ _).drew)
      have HS := Lib.hid hS
      have HBS := Lib.hid hbS
      have HKS := Lib.hid hkS
      clear hS hbS hkS
      refine step_store_any rfl 63 (.tmp 4) (.tmp 38) rfl _ rfl _ rfl _ HS.out ?_
      refine hK _ _ ?_
      clear hK K
      refine wpAny_ready (rs := [1]) (by kernel_rfl) (by simp) ?_
      refine AllReady.cons rfl (fun K hK => ?_) ?_
      · refine step_load_any rfl 63 (.tmp 9) rfl _ rfl _ (HL9.out _ (by first | exact (Keeps.refl _ _).drew | exact ((Keeps.refl _ _).drew).alloc _ | exact ((Keeps.refl _ _).drew).trans' HKS.out | exact (((Keeps.refl _ _).drew).alloc _).trans' HKS.out | exact (((Keeps.refl _ _).drew).trans' HKS.out).alloc _)) ?_
        refine hK _ _ ?_
        clear hK K
        refine wpAny_ready (rs := [2]) (by kernel_rfl) (by simp) ?_
        refine AllReady.cons rfl (fun K hK => ?_) ?_
        · go_simp
          refine hK _ _ ?_
          clear hK K
          refine wpAny_ready (rs := [4]) (by kernel_rfl) (by simp) ?_
          refine AllReady.cons rfl (fun K hK => ?_) ?_
          · go_simp
            refine hK _ _ ?_
            clear hK K
            refine wpAny_done (by kernel_rfl) ?_ _
            go_wp2_with fail
            have HB1 : Blk (wS.alloc (.cells #[a0, a1, a2, a3, a4, a5, a6, a7] 63)) wS.heap.size #[a0, a1, a2, a3, a4, a5, a6, a7] 63 := Blk.new wS #[a0, a1, a2, a3, a4, a5, a6, a7] 63
            have hws : w6.heap.size ≤ wS.heap.size := HKS.out.size
            have HKF : Keeps [] w (wS.alloc (.cells #[a0, a1, a2, a3, a4, a5, a6, a7] 63)) := ((HK6.out.drew).trans HKS.out (by intro x hx; rw [List.mem_singleton] at hx; omega)).alloc _
            exact bodyPost_ret (results_cell2 Tryd.results74 rfl (by have := HBS.out; rw [← HRO.out] at this; exact load_r8 (this.alloc _) HRLEN.out) rfl) rfl ⟨.slice (some ⟨wS.heap.size, 0, none⟩) 1 1, wS.heap.size, (by rw [hXE, HRO.out]; rfl), breads_one HB1 HRB8.out HRB.out, by omega, HKF⟩
          exact AllReady.nil
        exact AllReady.nil
      exact AllReady.nil
    exact AllReady.nil
  refine AllReady.cons rfl (fun K hK => ?_) ?_
  · refine step_load_any rfl 63 (.tmp 9) rfl _ rfl _ (HL9.out _ (by first | exact (Keeps.refl _ _).drew | exact ((Keeps.refl _ _).drew).alloc _ | exact ((Keeps.refl _ _).drew).trans' HKS.out | exact (((Keeps.refl _ _).drew).alloc _).trans' HKS.out | exact (((Keeps.refl _ _).drew).trans' HKS.out).alloc _)) ?_
    refine hK _ _ ?_
    clear hK K
    refine wpAny_ready (rs := [0, 2]) (by kernel_rfl) (by simp) ?_
    refine AllReady.cons rfl (fun K hK => ?_) ?_
    · refine step_load_any rfl 63 (.tmp 6) rfl _ rfl _ (HL6.out _ (by first | exact (Keeps.refl _ _).drew | exact ((Keeps.refl _ _).drew).alloc _ | exact ((Keeps.refl _ _).drew).trans' HKS.out | exact (((Keeps.refl _ _).drew).alloc _).trans' HKS.out | exact (((Keeps.refl _ _).drew).trans' HKS.out).alloc _)) ?_
      refine hK _ _ ?_
      clear hK K
      refine wpAny_ready (rs := [2, 3]) (by kernel_rfl) (by simp) ?_
      refine AllReady.cons rfl (fun K hK => ?_) ?_
      · go_simp
        refine hK _ _ ?_
        clear hK K
        refine wpAny_ready (rs := [3]) (by kernel_rfl) (by simp) ?_
        refine AllReady.cons rfl (fun K hK => ?_) ?_
        · obtain ⟨wS, hS, hbS, hkS⟩ := HSR.out _ (((Keeps.refl _ _).drew).alloc _)
          have HS := Lib.hid hS
          have HBS := Lib.hid hbS
          have HKS := Lib.hid hkS
          clear hS hbS hkS
          refine step_store_any rfl 63 (.tmp 4) (.tmp 38) rfl _ rfl _ rfl _ HS.out ?_
          refine hK _ _ ?_
          clear hK K
          refine wpAny_ready (rs := [4]) (by kernel_rfl) (by simp) ?_
          refine AllReady.cons rfl (fun K hK => ?_) ?_
          · go_simp
            refine hK _ _ ?_
            clear hK K
            refine wpAny_done (by kernel_rfl) ?_ _
            go_wp2_with fail
            have HB1 : Blk wS w6.heap.size #[a0, a1, a2, a3, a4, a5, a6, a7] 63 := Blk.keep (Blk.new w6.drew #[a0, a1, a2, a3, a4, a5, a6, a7] 63) HKS.out (by rw [List.mem_singleton]; show ¬ w6.heap.size = _; omega)
            have HKF : Keeps [] w wS := ((HK6.out.drew).alloc _).trans HKS.out (by intro x hx; rw [List.mem_singleton] at hx; omega)
            exact bodyPost_ret (results_cell2 Tryd.results74 rfl (by have := HBS.out; rw [← HRO.out] at this; exact load_r8 this HRLEN.out) rfl) rfl ⟨.slice (some ⟨w6.heap.size, 0, none⟩) 1 1, w6.heap.size, (by rw [hXE, HRO.out]; rfl), breads_one HB1 HRB8.out HRB.out, by omega, HKF⟩
          exact AllReady.nil
        exact AllReady.nil
      refine AllReady.cons rfl (fun K hK => ?_) ?_
      · obtain ⟨wS, hS, hbS, hkS⟩ := HSR.out _ ((Keeps.refl _ _).drew)
        have HS := Lib.hid hS
        have HBS := Lib.hid hbS
        have HKS := Lib.hid hkS
        clear hS hbS hkS
        refine step_store_any rfl 63 (.tmp 4) (.tmp 38) rfl _ rfl _ rfl _ HS.out ?_
        refine hK _ _ ?_
        clear hK K
        refine wpAny_ready (rs := [2]) (by kernel_rfl) (by simp) ?_
        refine AllReady.cons rfl (fun K hK => ?_) ?_
        · go_simp
          refine hK _ _ ?_
          clear hK K
          refine wpAny_ready (rs := [4]) (by kernel_rfl) (by simp) ?_
          refine AllReady.cons rfl (fun K hK => ?_) ?_
          · go_simp
            refine hK _ _ ?_
            clear hK K
            refine wpAny_done (by kernel_rfl) ?_ _
            go_wp2_with fail
            have HB1 : Blk (wS.alloc (.cells #[a0, a1, a2, a3, a4, a5, a6, a7] 63)) wS.heap.size #[a0, a1, a2, a3, a4, a5, a6, a7] 63 := Blk.new wS #[a0, a1, a2, a3, a4, a5, a6, a7] 63
            have hws : w6.heap.size ≤ wS.heap.size := HKS.out.size
            have HKF : Keeps [] w (wS.alloc (.cells #[a0, a1, a2, a3, a4, a5, a6, a7] 63)) := ((HK6.out.drew).trans HKS.out (by intro x hx; rw [List.mem_singleton] at hx; omega)).alloc _
            exact bodyPost_ret (results_cell2 Tryd.results74 rfl (by have := HBS.out; rw [← HRO.out] at this; exact load_r8 (this.alloc _) HRLEN.out) rfl) rfl ⟨.slice (some ⟨wS.heap.size, 0, none⟩) 1 1, wS.heap.size, (by rw [hXE, HRO.out]; rfl), breads_one HB1 HRB8.out HRB.out, by omega, HKF⟩
          exact AllReady.nil
        exact AllReady.nil
      exact AllReady.nil
    refine AllReady.cons rfl (fun K hK => ?_) ?_
    · go_simp
      refine hK _ _ ?_
      clear hK K
      refine wpAny_ready (rs := [0]) (by kernel_rfl) (by simp) ?_
      refine AllReady.cons rfl (fun K hK => ?_) ?_
      · refine step_load_any rfl 63 (.tmp 6) rfl _ rfl _ (HL6.out _ (by first | exact (Keeps.refl _ _).drew | exact ((Keeps.refl _ _).drew).alloc _ | exact ((Keeps.refl _ _).drew).trans' HKS.out | exact (((Keeps.refl _ _).drew).alloc _).trans' HKS.out | exact (((Keeps.refl _ _).drew).trans' HKS.out).alloc _)) ?_
        refine hK _ _ ?_
        clear hK K
        refine wpAny_ready (rs := [3]) (by kernel_rfl) (by simp) ?_
        refine AllReady.cons rfl (fun K hK => ?_) ?_
        · obtain ⟨wS, hS, hbS, hkS⟩ := HSR.out _ (((Keeps.refl _ _).drew).alloc _)
          have HS := Lib.hid hS
          have HBS := Lib.hid hbS
          have HKS := Lib.hid hkS
          clear hS hbS hkS
          refine step_store_any rfl 63 (.tmp 4) (.tmp 38) rfl _ rfl _ rfl _ HS.out ?_
          refine hK _ _ ?_
          clear hK K
          refine wpAny_ready (rs := [4]) (by kernel_rfl) (by simp) ?_
          refine AllReady.cons rfl (fun K hK => ?_) ?_
          · go_simp
            refine hK _ _ ?_
            clear hK K
            refine wpAny_done (by kernel_rfl) ?_ _
            go_wp2_with fail
            have HB1 : Blk wS w6.heap.size #[a0, a1, a2, a3, a4, a5, a6, a7] 63 := Blk.keep (Blk.new w6.drew #[a0, a1, a2, a3, a4, a5, a6, a7] 63) HKS.out (by rw [List.mem_singleton]; show ¬ w6.heap.size = _; omega)
            have HKF : Keeps [] w wS := ((HK6.out.drew).alloc _).trans HKS.out (by intro x hx; rw [List.mem_singleton] at hx; omega)
            exact bodyPost_ret (results_cell2 Tryd.results74 rfl (by have := HBS.out; rw [← HRO.out] at this; exact load_r8 this HRLEN.out) rfl) rfl ⟨.slice (some ⟨w6.heap.size, 0, none⟩) 1 1, w6.heap.size, (by rw [hXE, HRO.out]; rfl), breads_one HB1 HRB8.out HRB.out, by omega, HKF⟩
          exact AllReady.nil
        exact AllReady.nil
      exact AllReady.nil
    exact AllReady.nil
  exact AllReady.nil

end Go.Proofs.YtmhcnkjmnbnldaaDoor

namespace Go.Proofs.YtmhcnkjmnbnldaaDoor
open Go.RowKit

/-- How many blocks a bucket takes. -/
def dN (E : List (ByteArray × Int)) (b : Nat) : Nat := ((sprE E b).length + 2) / 3

/-- How many the buckets ahead take. -/
def fstN (E : List (ByteArray × Int)) : Nat → Nat
  | 0 => 0
  | b + 1 => fstN E b + dN E b

theorem fstN_mono (E : List (ByteArray × Int)) {b c : Nat} (h : b ≤ c) : fstN E b ≤ fstN E c := by
  induction h with
  | refl => exact Nat.le_refl _
  | step h ih => exact Nat.le_trans ih (Nat.le_add_right _ _)

/-- The entries of a block. -/
def chE (l : List (ByteArray × Int)) (x : Nat) : List (ByteArray × Int) := (l.drop (3 * x)).take 3

theorem chE_len (l : List (ByteArray × Int)) (x : Nat) : (chE l x).length = min 3 (l.length - 3 * x) := by simp [chE]

/-- A block's words: what leads on, and words. -/
def blkX (ws : List Int) (x : Int) : List Int := x :: (ws ++ List.replicate (7 - ws.length) 0)

theorem blkX_len {ws : List Int} (h : ws.length ≤ 7) (x : Int) : (blkX ws x).length = 8 := by simp [blkX]; omega

theorem blkX_succ (ws : List Int) (x : Int) (i : Nat) : (blkX ws x).getD (i + 1) 0 = ws.getD i 0 := by
  show (ws ++ List.replicate (7 - ws.length) 0).getD i 0 = _
  rw [List.getD_eq_getElem?_getD, List.getD_eq_getElem?_getD]
  by_cases h : i < ws.length
  · rw [List.getElem?_append_left h]
  · rw [List.getElem?_append_right (by omega), List.getElem?_replicate, List.getElem?_eq_none (by omega : ws.length ≤ i)]
    split <;> rfl

def blkD (E : List (ByteArray × Int)) (own : List Nat) (b j : Nat) : List Int :=
  blkX (wordsE (chE (sprE E b) j)) (if j + 1 < dN E b then ((own.getD (fstN E b + (j + 1)) 0 : Nat) : Int) else 0)

def dirTo (E : List (ByteArray × Int)) (own : List Nat) : Nat → List (List Int)
  | 0 => []
  | b + 1 => dirTo E own b ++ (List.range (dN E b)).map (blkD E own b)

theorem dirTo_len (E : List (ByteArray × Int)) (own : List Nat) : ∀ b, (dirTo E own b).length = fstN E b
  | 0 => rfl
  | b + 1 => by rw [dirTo, fstN, List.length_append, dirTo_len E own b, List.length_map, List.length_range]

theorem dirTo_get (E : List (ByteArray × Int)) (own : List Nat) {b' j : Nat} (hj : j < dN E b') : ∀ {b : Nat}, b' < b → (dirTo E own b).getD (fstN E b' + j) [] = blkD E own b' j
  | 0, h => by omega
  | b + 1, h => by
    rw [dirTo, List.getD_eq_getElem?_getD]
    by_cases e : b' = b
    · subst e
      rw [List.getElem?_append_right (by rw [dirTo_len]; omega), dirTo_len, Nat.add_sub_cancel_left]
      simp [hj]
    · have h1 : b' < b := by omega
      have h2 : fstN E b' + j < fstN E b := by
        have := fstN_mono E (show b' + 1 ≤ b from h1)
        rw [fstN] at this
        omega
      rw [List.getElem?_append_left (by rw [dirTo_len]; exact h2), ← List.getD_eq_getElem?_getD]
      exact dirTo_get E own hj h1

theorem fst_cover (E : List (ByteArray × Int)) {k : Nat} : ∀ {b : Nat}, k < fstN E b → ∃ b' j, b' < b ∧ j < dN E b' ∧ k = fstN E b' + j
  | 0, h => by rw [fstN] at h; omega
  | b + 1, h => by
    by_cases h1 : k < fstN E b
    · obtain ⟨b', j, h2, h3, h4⟩ := fst_cover E h1
      exact ⟨b', j, by omega, h3, h4⟩
    · rw [fstN] at h
      exact ⟨b, k - fstN E b, by omega, by omega, by omega⟩

/-- What leads to a bucket. -/
def hdD (E : List (ByteArray × Int)) (own : List Nat) (b : Nat) : Int := if 0 < dN E b then ((own.getD (fstN E b) 0 : Nat) : Int) else 0

def hdTo (E : List (ByteArray × Int)) (own : List Nat) (b p q : Nat) : Int :=
  if q < b then hdD E own q else if q = b ∧ 0 < p then ((own.getD (fstN E q) 0 : Nat) : Int) else 0

/-- An inode's words, b buckets being laid, and p blocks of the next. -/
def rowD (n : Ino) (own : List Nat) (b p : Nat) : List Int :=
  [tagW n, n.S, hdTo n.E own b p 0, hdTo n.E own b p 1, hdTo n.E own b p 2, hdTo n.E own b p 3, 0, 0]

def dirRow (n : Ino) (own : List Nat) : List Int := rowD n own 4 0

theorem rowD_len (n : Ino) (own : List Nat) (b p : Nat) : (rowD n own b p).length = 8 := rfl

theorem rowD_zero (n : Ino) (own : List Nat) : rowD n own 0 0 = tagW n :: n.S :: List.replicate 6 0 := by
  unfold rowD hdTo
  simp [List.replicate]

theorem hdTo_next (E : List (ByteArray × Int)) (own : List Nat) (b q : Nat) : hdTo E own b (dN E b) q = hdTo E own (b + 1) 0 q := by
  unfold hdTo
  by_cases h1 : q < b
  · rw [if_pos h1, if_pos (by omega)]
  · rw [if_neg h1]
    by_cases h2 : q = b
    · subst h2
      rw [if_pos (show q < q + 1 by omega), hdD]
      by_cases h3 : 0 < dN E q
      · rw [if_pos ⟨rfl, h3⟩, if_pos h3]
      · rw [if_neg (fun h => h3 h.2), if_neg h3]
    · rw [if_neg (fun h => h2 h.1), if_neg (by omega), if_neg (by omega)]

theorem rowD_next (n : Ino) (own : List Nat) (b : Nat) : rowD n own b (dN n.E b) = rowD n own (b + 1) 0 := by
  unfold rowD
  rw [hdTo_next, hdTo_next, hdTo_next, hdTo_next]

theorem rowD_more (n : Ino) (own : List Nat) (b p : Nat) (h : p ≠ 0) : rowD n own b p = rowD n own b (p + 1) := by
  have : ∀ q, hdTo n.E own b p q = hdTo n.E own b (p + 1) q := fun q => by
    unfold hdTo
    have h1 : (q = b ∧ 0 < p) ↔ (q = b ∧ 0 < p + 1) := by omega
    simp only [h1]
  unfold rowD
  rw [this, this, this, this]

theorem rowD_set (n : Ino) (own : List Nat) (b : Nat) (hb : b < 4) : (rowD n own b 0).set (2 + b) ((own.getD (fstN n.E b) 0 : Nat) : Int) = rowD n own b 1 := by
  rcases (show b = 0 ∨ b = 1 ∨ b = 2 ∨ b = 3 by omega) with rfl | rfl | rfl | rfl <;> simp [rowD, hdTo]

/-- The words of the blocks, b buckets being laid, and of the next one the blocks pre. -/
structure DirC (E : List (ByteArray × Int)) (own : List Nat) (b : Nat) (pre : List Nat) (C : List Int) : Prop where
  len : C.length = 8 * own.length
  done : ∀ b', b' < b → ∀ j, j < dN E b' → ∀ i, i < 8 → C.getD (8 * (fstN E b' + j) + i) 0 = (blkD E own b' j).getD i 0
  part : ∀ j, j < pre.length → ∀ i, i < 8 → C.getD (8 * (fstN E b + j) + i) 0 = (blkX (wordsE (chE (sprE E b) (pre.getD j 0))) (if j + 1 < pre.length then ((own.getD (fstN E b + (j + 1)) 0 : Nat) : Int) else 0)).getD i 0
  rest : ∀ i, 8 * (fstN E b + pre.length) ≤ i → C.getD i 0 = 0

theorem DirC.start (E : List (ByteArray × Int)) (own : List Nat) : DirC E own 0 [] (List.replicate (8 * own.length) 0) :=
  ⟨by simp, fun b' h => by omega, fun j h => by simp at h, fun i _ => by
    rw [List.getD_eq_getElem?_getD, List.getElem?_replicate]
    split <;> rfl⟩

theorem DirC.next {E : List (ByteArray × Int)} {own : List Nat} {b : Nat} {C : List Int} (h : DirC E own b (List.range (dN E b)) C) : DirC E own (b + 1) [] C := by
  have hl : (List.range (dN E b)).length = dN E b := List.length_range
  refine ⟨h.len, fun b' hb j hj i hi => ?_, fun j hj => by simp at hj, fun i hi => ?_⟩
  · by_cases e : b' = b
    · subst e
      have := h.part j (by rw [hl]; exact hj) i hi
      rw [hl, show (List.range (dN E b')).getD j 0 = j by simp [List.getD_eq_getElem?_getD, hj]] at this
      exact this
    · exact h.done b' (by omega) j hj i hi
  · refine h.rest i ?_
    rw [hl]
    simpa [fstN] using hi

/-- Words written over a list from a place on. -/
def overL (C : List Int) (a : Nat) (ws : List Int) : List Int := C.take a ++ ws ++ C.drop (a + ws.length)

theorem overL_len {C ws : List Int} {a : Nat} (h : a + ws.length ≤ C.length) : (overL C a ws).length = C.length := by simp [overL]; omega

theorem overL_get {C ws : List Int} {a : Nat} (h : a + ws.length ≤ C.length) (i : Nat) : (overL C a ws).getD i 0 = if a ≤ i ∧ i < a + ws.length then ws.getD (i - a) 0 else C.getD i 0 := by
  have ht : (C.take a).length = a := by rw [List.length_take]; omega
  unfold overL
  simp only [List.getD_eq_getElem?_getD]
  by_cases h1 : i < a
  · rw [if_neg (by omega), List.append_assoc, List.getElem?_append_left (by rw [ht]; exact h1), List.getElem?_take_of_lt h1]
  · by_cases h2 : i < a + ws.length
    · rw [if_pos ⟨by omega, h2⟩, List.getElem?_append_left (by rw [List.length_append, ht]; exact h2), List.getElem?_append_right (by rw [ht]; omega), ht]
    · rw [if_neg (by omega), List.getElem?_append_right (by rw [List.length_append, ht]; omega), List.length_append, ht, List.getElem?_drop, show a + ws.length + (i - (a + ws.length)) = i by omega]

theorem set_getD (C : List Int) (k : Nat) (x : Int) (hk : k < C.length) (i : Nat) : (C.set k x).getD i 0 = if i = k then x else C.getD i 0 := by
  simp only [List.getD_eq_getElem?_getD, List.getElem?_set]
  by_cases h : k = i
  · subst h; simp [hk]
  · rw [if_neg h, if_neg (fun e => h e.symm)]

/-- A block more. -/
theorem DirC.step {E : List (ByteArray × Int)} {own : List Nat} {b : Nat} {pre : List Nat} {C C1 : List Int} (h : DirC E own b pre C) (x f : Nat) (hf : f = fstN E b + pre.length) (hfo : f < own.length)
    (h1 : C1 = if pre.length = 0 then C else C.set (8 * (f - 1)) ((own.getD f 0 : Nat) : Int)) : DirC E own b (pre ++ [x]) (overL C1 (8 * f + 1) (wordsE (chE (sprE E b) x))) := by
  have hw : (wordsE (chE (sprE E b) x)).length ≤ 6 := by rw [wordsE_len, chE_len]; omega
  have hl1 : C1.length = 8 * own.length := by rw [h1]; split <;> simp [h.len]
  have hg1 : ∀ i, C1.getD i 0 = if pre.length ≠ 0 ∧ i = 8 * (f - 1) then ((own.getD f 0 : Nat) : Int) else C.getD i 0 := fun i => by
    rw [h1]
    by_cases h0 : pre.length = 0
    · rw [if_pos h0, if_neg (fun e => e.1 h0)]
    · rw [if_neg h0, set_getD _ _ _ (by rw [h.len]; omega)]
      by_cases hi : i = 8 * (f - 1)
      · rw [if_pos hi, if_pos ⟨h0, hi⟩]
      · rw [if_neg hi, if_neg (fun e => hi e.2)]
  have hov : 8 * f + 1 + (wordsE (chE (sprE E b) x)).length ≤ C1.length := by rw [hl1]; omega
  have hlen : (pre ++ [x]).length = pre.length + 1 := by simp
  have hsep : ∀ b', b' < b → ∀ j, j < dN E b' → fstN E b' + j < fstN E b := fun b' hb j hj => by
    have := fstN_mono E (show b' + 1 ≤ b from hb)
    rw [fstN] at this
    omega
  refine ⟨by rw [overL_len hov, hl1], fun b' hb j hj i hi => ?_, fun j hj i hi => ?_, fun i hi => ?_⟩
  · have := hsep b' hb j hj
    rw [overL_get hov, if_neg (by omega), hg1, if_neg (by omega)]
    exact h.done b' hb j hj i hi
  · rw [hlen] at hj ⊢
    by_cases e : j = pre.length
    · subst e
      have hx : (pre ++ [x]).getD pre.length 0 = x := by simp [List.getD_eq_getElem?_getD]
      rw [hx, if_neg (by omega), ← hf]
      cases i with
      | zero =>
        rw [overL_get hov, if_neg (by omega), hg1, if_neg (by omega), h.rest _ (by omega)]
        rfl
      | succ i =>
        rw [blkX_succ, overL_get hov]
        by_cases hi2 : i < (wordsE (chE (sprE E b) x)).length
        · rw [if_pos (by omega), show 8 * f + (i + 1) - (8 * f + 1) = i by omega]
        · rw [if_neg (by omega), hg1, if_neg (by omega), h.rest _ (by omega), List.getD_eq_getElem?_getD, List.getElem?_eq_none (by omega)]
          rfl
    · have hj2 : j < pre.length := by omega
      have hx : (pre ++ [x]).getD j 0 = pre.getD j 0 := by simp only [List.getD_eq_getElem?_getD]; rw [List.getElem?_append_left hj2]
      rw [hx, if_pos (by omega), overL_get hov, if_neg (by omega), hg1]
      have h2 := h.part j hj2 i hi
      cases i with
      | zero =>
        by_cases e2 : j + 1 = pre.length
        · rw [if_pos ⟨by omega, by omega⟩, hf, ← e2]
          rfl
        · rw [if_neg (by omega), h2, if_pos (by omega)]
      | succ i =>
        rw [if_neg (by omega), h2, blkX_succ, blkX_succ]
  · rw [hlen] at hi
    rw [overL_get hov, if_neg (by omega), hg1, if_neg (by omega)]
    exact h.rest i (by omega)

/-- All buckets. -/
theorem DirC.breads {E : List (ByteArray × Int)} {own : List Nat} {C : List Int} (h : DirC E own 4 [] C) (hm : fstN E 4 = own.length) {W : World} {g cap T : Nat} (hcap : own.length ≤ cap) (hmax : cap ≤ maxLen) (hb : Blk W g (u64s C).toArray T) :
    BReads W (.slice (some ⟨g, 0, none⟩) own.length cap) g (dirTo E own 4) := by
  have hl : (dirTo E own 4).length = own.length := by rw [dirTo_len, hm]
  refine ⟨some ⟨g, 0, none⟩, cap, by rw [hl], by rw [hl]; exact hcap, hmax, fun _ => ⟨hb.lt, 0, rfl, fun k hk j hj => ?_⟩⟩
  rw [hl, ← hm] at hk
  obtain ⟨b', i, hb', hi, rfl⟩ := fst_cover E hk
  rw [dirTo_get E own hi hb', ← h.done b' hb' i hi j hj, hb.cell, List.getElem?_toArray, show 0 + (fstN E b' + i) * 8 + j = 8 * (fstN E b' + i) + j by omega, u64s_get]
  rw [h.len, ← hm]
  omega

end Go.Proofs.YtmhcnkjmnbnldaaDoor

namespace Go.Proofs.YtmhcnkjmnbnldaaDoor
section
variable {P : Program} {ops : Array Oper} {Q : Exit → Act → World → Prop} {md : Region.Mode}

/-- These are listed. -/
def listedOf (listed : Array Bool) : List Nat → Array Bool
  | [] => listed
  | i :: is => listedOf (listed.setIfInBounds i true) is

/-- The path is one that may be picked; each of its operations may be taken first where it stands, F and L wait for it or are others. -/
def pathB (md : Region.Mode) (ops : Array Oper) (F L : Nat) (listed : Array Bool) : List Nat → Bool
  | [] => true
  | i :: is => Region.free md ops listed i && (Region.ready md ops listed).contains i && (i != F) && (i != L) && leads md ops ops.size i L && pathB md ops F L (listed.setIfInBounds i true) is

theorem pathU {S : Bool → World → Prop} {F L : Nat} (hns : Region.noSelect ops = true) (hQ : ∀ d v c a w, Q (.panic c) (Act.put a d v) w → Q (.panic c) a w) {E : Act → Prop} (m : Nat) (done : Array Bool)
    (hend : ∀ a, E a → wpAnyU P md ops Q S F L m done a) : ∀ (is : List Nat) (l : List Oper) (listed : Array Bool) (a : Act), Closed md ops listed → pathB md ops F L listed is = true → listedOf listed is = done →
      l = is.filterMap (fun i => ops[i]?) → l.length = is.length → EachListB P ops S E l a → wpAnyU P md ops Q S F L (m + is.length) listed a := by
  intro is
  induction is with
  | nil =>
    intro l listed a _ _ hd hl _ h
    have hl' : l = [] := by rw [hl]; rfl
    subst hl'
    have hd' : listed = done := hd
    subst hd'
    exact hend a h
  | cons i is ih =>
    intro l listed a hc hp hd hl hlen h
    unfold pathB at hp
    simp only [Bool.and_eq_true, bne_iff_ne, ne_eq] at hp
    obtain ⟨⟨⟨⟨⟨c1, c2⟩, c3⟩, c4⟩, c5⟩, c6⟩ := hp
    cases ho : ops[i]? with
    | none =>
      exfalso
      rw [hl, List.filterMap_cons, ho] at hlen
      have := List.length_filterMap_le (fun i => ops[i]?) is
      simp only [List.length_cons] at hlen
      omega
    | some o =>
      rw [List.filterMap_cons, ho] at hl
      subst hl
      obtain ⟨v, hv, hr⟩ := h
      have hrd : i ∈ Region.ready md ops listed := by simpa using c2
      have hrec := ih _ (listed.setIfInBounds i true) (a.put o.dst v) (closed_set hc hrd) c6 hd rfl (by simpa using hlen) hr
      rw [List.length_cons, ← Nat.add_assoc]
      exact wpAnyU_first ho c4 c3 (Region.noSelect_spec hns) (hQ o.dst v) (.inr c5) _ _ a hc (Region.free_spec ho c1) hrd hv hrec

/-- THE LAW. -/
theorem wp_region_path {S : Bool → World → Prop} {id : Nat} {a : Act} {w : World} (path : List Nat) (F L : Nat) {l : List Oper} {f o : Oper} {tl : List Oper} (hm : P.follows .mixedOrders = true) (hns : Region.noSelect ops = true)
    (hp : pathB .any ops F L (listedTo ops.size 0) path = true) (hl : l = path.filterMap (fun i => ops[i]?)) (hll : l.length = path.length) (hf : ops[F]? = some f) (hr1 : Region.ready .any ops (listedOf (listedTo ops.size 0) path) = [F]) (hFL : F ≠ L)
    (hset : (listedOf (listedTo ops.size 0) path).setIfInBounds F true = listedTo ops.size L) (hpl : path.length + 1 = L) (hops : ops.toList.drop L = o :: tl) (hr2 : ((List.range (tl.length + 1)).all fun k => Region.ready .any ops (listedTo ops.size (L + k)) == [L + k]) = true) (hr3 : Region.ready .any ops (listedTo ops.size ops.size) = [])
    (hF0 : (listedOf (listedTo ops.size 0) path).getD F false = false) (hF1 : (listedTo ops.size L).getD F false = true)
    (hQ : ∀ d v c a w, Q (.panic c) (Act.put a d v) w → Q (.panic c) a w) (hS : S ((listedTo ops.size 0).getD F false) w.drew)
    (h : EachListB P ops S (fun a => ∃ v, Each2 P ops (S false) (S true) f v a ∧ ∀ w, S true w → wpList P ops Q (o :: tl) (a.put f.dst v) w) l a) : (Code.region id ops true).wp P Q a w := by
  have hsz : ops.size = L + (tl.length + 1) := by
    have h1 := congrArg List.length hops
    rw [List.length_drop, Array.length_toList, List.length_cons] at h1
    omega
  have hready := ready_single hr2
  rw [← hsz] at hready
  refine wp_region_any hm ?_
  rw [← listedTo_zero]
  refine wpAny_of_U (S := S) (F := F) (L := L) _ _ _ ?_ _ hS
  have hget : ∀ k, k < (o :: tl).length → ops[L + k]? = (o :: tl)[k]? := fun k _ => by rw [← hops, List.getElem?_drop, Array.getElem?_toList]
  have hn : ops.size = (tl.length + 2) + path.length := by omega
  have hc0 : Closed .any ops (listedTo ops.size 0) := by
    intro k o ho hl
    rw [listedTo_zero] at hl
    have hk : k < ops.size := (Array.getElem?_eq_some_iff.1 ho).1
    simp [hk] at hl
  have key := pathU (md := .any) (Q := Q) (S := S) (F := F) (L := L) hns hQ (E := fun a => ∃ v, Each2 P ops (S false) (S true) f v a ∧ ∀ w, S true w → wpList P ops Q (o :: tl) (a.put f.dst v) w) (tl.length + 2) (listedOf (listedTo ops.size 0) path) (fun a h => by
    obtain ⟨v, hf2, hrest⟩ := h
    have hL : wpAnyU P .any ops Q S F L (tl.length + 1) (listedTo ops.size L) (a.put f.dst v) := by
      have h2 := hready L (Nat.le_refl _) (by omega)
      have hany : ∀ w, S true w → wpAny P .any ops Q (ops.size - L) (listedTo ops.size L) (a.put f.dst v) w := fun w hS =>
        tail_any (o :: tl) L _ w (by rw [hsz]; simp) hget (fun j hj hj2 => hready j hj hj2) hr3 (hrest w hS)
      rw [show ops.size - L = tl.length + 1 by omega] at hany
      refine ⟨fun h0 => (by rw [h2] at h0; cases h0), fun i hi hne => ?_, fun hm w hS => ?_⟩
      · rw [h2, List.mem_singleton] at hi
        exact absurd hi hne
      · rw [hF1] at hS
        exact (hany w hS).2 _ hm
    refine ⟨fun h0 => (by rw [hr1] at h0; cases h0), fun i hi hne w hS => ?_, fun hm => ?_⟩
    · rw [hr1, List.mem_singleton] at hi
      subst hi
      rw [hF0] at hS
      refine hf2.wpOp hf hS fun w' hS' => ?_
      rw [hset, hF1]
      exact ⟨hS', hL⟩
    · rw [hr1, List.mem_singleton] at hm
      exact absurd hm.symm hFL) path l (listedTo ops.size 0) a hc0 hp rfl hl hll h
  rw [← hn] at key
  exact key

/-- A call, from one condition to another. -/
theorem Each2.call {S S' : World → Prop} {o : Oper} {v : Value} {a : Act} (hw : Region.wanted o (yielded ops a.tmps) = true) (f : Nat) (args : Array Value) (he : ∀ w, (execOp a.eval o).run P w = .ok (.enter f args) w) (h : ∀ w, S w → Calls P f args w fun e w' => e = .returned v ∧ S' w') : Each2 P ops S S' o v a :=
  ⟨hw, fun w hS => by rw [he w]; exact h w hS⟩
end

end Go.Proofs.YtmhcnkjmnbnldaaDoor

namespace Go.Proofs.YtmhcnkjmnbnldaaDoor
open Go.RowKit
section
variable {P : Program} {ops : Array Oper} {Q : Exit → Act → World → Prop} {md : Region.Mode} {S : World → Prop}

def andS (S : World → Prop) (K : Act → World → Prop) (Q : Exit → Act → World → Prop) : Exit → Act → World → Prop
  | .normal, a, w => S w ∧ K a w
  | e, a, w => Q e a w

/-- The last operations, S being shown behind each. -/
def tailS (P : Program) (ops : Array Oper) (Q : Exit → Act → World → Prop) (S : World → Prop) : List Oper → Act → World → Prop
  | [], a, w => Q .normal a w
  | o :: rest, a, w => wpList P ops (andS S (tailS P ops Q S rest) Q) [o] a w

/-- The operations that are taken first. -/
def YieldList (P : Program) (ops : Array Oper) (S : World → Prop) (E : Act → Prop) : List Oper → Act → Prop
  | [], a => E a
  | o :: rest, a => ∃ v, YieldsIf P ops S o v a ∧ YieldList P ops S E rest (a.put o.dst v)

theorem wpOp_of_list {i : Nat} {o : Oper} {K : Act → World → Prop} {a : Act} {w : World} (ho : ops[i]? = some o) (h : wpList P ops (andS S K Q) [o] a w) : wpOp P ops Q i (fun a w => S w ∧ K a w) a w := by
  unfold Go.wpOp
  simp only [ho]
  unfold wpList at h
  split
  · rename_i hw
    rw [if_pos hw] at h
    rcases h with h | ⟨h1, h2⟩
    · refine .inl ?_
      unfold Oper.wp at *
      generalize (execOp a.eval o).run P w = r at *
      cases r with
      | ok n w' =>
        cases n <;> simp only [Oper.upon] at h ⊢
        case value u => exact h
        case skip => exact h
        case defer d => exact h
        case enter f args =>
          refine Calls.mono h fun e w'' he => ?_
          cases e with
          | returned u => exact he
          | panicked c => exact he
          | outgrown => exact he
        case row row args => exact Rows.mono h fun u w'' he => he
      | halt x w' =>
        cases x <;> simp only [Oper.upon] at h ⊢
        case panic u => exact h
    · exact .inr ⟨h1, h2⟩
  · rename_i hw
    rw [if_neg hw] at h
    exact h

def takeB (md : Region.Mode) (ops : Array Oper) (listed : Array Bool) : List Nat → Bool
  | [] => true
  | i :: is => Region.free md ops listed i && (Region.ready md ops listed).contains i && takeB md ops (listed.setIfInBounds i true) is

def lastB (md : Region.Mode) (ops : Array Oper) (listed : Array Bool) : List Nat → Bool
  | [] => Region.ready md ops listed == []
  | i :: is => (Region.ready md ops listed == [i]) && lastB md ops (listed.setIfInBounds i true) is

theorem wpAnyH_last : ∀ (tail : List Nat) (tl : List Oper) (listed : Array Bool) (a : Act) (w : World), lastB md ops listed tail = true → tl = tail.filterMap (fun i => ops[i]?) → tl.length = tail.length → tailS P ops Q S tl a w →
    wpAnyH P md ops Q S tail.length listed a w
  | [], tl, listed, a, w, hb, hl, _, h => by
    have : tl = [] := by rw [hl]; rfl
    subst this
    exact wpAnyH_done (by simpa [lastB] using hb) h 0
  | i :: is, tl, listed, a, w, hb, hl, hlen, h => by
    unfold lastB at hb
    simp only [Bool.and_eq_true] at hb
    have h1 : Region.ready md ops listed = [i] := by simpa using hb.1
    cases ho : ops[i]? with
    | none =>
      exfalso
      rw [hl, List.filterMap_cons, ho] at hlen
      have := List.length_filterMap_le (fun i => ops[i]?) is
      simp only [List.length_cons] at hlen
      omega
    | some o =>
      rw [List.filterMap_cons, ho] at hl
      subst hl
      refine wpAnyH_all h1 (by simp) fun j hj => ?_
      rw [List.mem_singleton] at hj
      subst hj
      exact wpOp_mono (fun a' w' h' => ⟨h'.1, wpAnyH_last is _ _ a' w' hb.2 rfl (by simpa using hlen) h'.2⟩) (wpOp_of_list ho h)

theorem wpAnyH_order (hns : Region.noSelect ops = true) (hQ : ∀ d v c a w, Q (.panic c) (Act.put a d v) w → Q (.panic c) a w) (tail : List Nat) (tl : List Oper) (w : World) (hS : S w) (htl : tl = tail.filterMap (fun i => ops[i]?)) (htll : tl.length = tail.length) :
    ∀ (path : List Nat) (l : List Oper) (listed : Array Bool) (a : Act), takeB md ops listed path = true → lastB md ops (listedOf listed path) tail = true → l = path.filterMap (fun i => ops[i]?) → l.length = path.length →
      YieldList P ops S (fun a => tailS P ops Q S tl a w) l a → wpAnyH P md ops Q S (tail.length + path.length) listed a w
  | [], l, listed, a, _, hb, hl, _, h => by
    have : l = [] := by rw [hl]; rfl
    subst this
    exact wpAnyH_last tail tl listed a w hb htl htll h
  | i :: is, l, listed, a, ht, hb, hl, hlen, h => by
    unfold takeB at ht
    simp only [Bool.and_eq_true] at ht
    cases ho : ops[i]? with
    | none =>
      exfalso
      rw [hl, List.filterMap_cons, ho] at hlen
      have := List.length_filterMap_le (fun i => ops[i]?) is
      simp only [List.length_cons] at hlen
      omega
    | some o =>
      rw [List.filterMap_cons, ho] at hl
      subst hl
      obtain ⟨v, hv, hr⟩ := h
      rw [List.length_cons, ← Nat.add_assoc]
      exact wpAnyH_take ho hns ht.1.1 ht.1.2 (hQ o.dst v) hv hS (wpAnyH_order hns hQ tail tl w hS htl htll is _ _ _ ht.2 hb rfl (by simpa using hlen) hr)

/-- THE LAW, of the orders alone. -/
theorem wpAny_order {a : Act} {w : World} (path tail : List Nat) {l tl : List Oper} (hns : Region.noSelect ops = true) (ht : takeB .any ops (Array.replicate ops.size false) path = true) (hb : lastB .any ops (listedOf (Array.replicate ops.size false) path) tail = true)
    (hl : l = path.filterMap (fun i => ops[i]?)) (hll : l.length = path.length) (htl : tl = tail.filterMap (fun i => ops[i]?)) (htll : tl.length = tail.length) (hsz : tail.length + path.length = ops.size)
    (hQ : ∀ d v c a w, Q (.panic c) (Act.put a d v) w → Q (.panic c) a w) (hS : S w) (h : YieldList P ops S (fun a => tailS P ops Q S tl a w) l a) : wpAny P .any ops Q ops.size (Array.replicate ops.size false) a w := by
  rw [← hsz]
  refine wpAny_of_held _ _ _ _ (wpAnyH_order hns hQ tail tl w hS htl htll path l _ a ?_ ?_ hl hll h)
  · rw [hsz]; exact ht
  · rw [hsz]; exact hb

/-- THE LAW, in a function. -/
theorem wp_region_order {id : Nat} {a : Act} {w : World} (path tail : List Nat) {l tl : List Oper} (hm : P.follows .mixedOrders = true) (hns : Region.noSelect ops = true) (ht : takeB .any ops (Array.replicate ops.size false) path = true) (hb : lastB .any ops (listedOf (Array.replicate ops.size false) path) tail = true)
    (hl : l = path.filterMap (fun i => ops[i]?)) (hll : l.length = path.length) (htl : tl = tail.filterMap (fun i => ops[i]?)) (htll : tl.length = tail.length) (hsz : tail.length + path.length = ops.size)
    (hQ : ∀ d v c a w, Q (.panic c) (Act.put a d v) w → Q (.panic c) a w) (hS : S w.drew) (h : YieldList P ops S (fun a => tailS P ops Q S tl a w.drew) l a) : (Code.region id ops true).wp P Q a w :=
  wp_region_any hm (wpAny_order path tail hns ht hb hl hll htl htll hsz hQ hS h)

def noDeferB (ops : Array Oper) : Bool := ops.all fun o => match o.op with | .defer _ => false | _ => true

theorem noDefer_spec (h : noDeferB ops = true) : ∀ (i : Nat) (o : Oper), ops[i]? = some o → ∀ c, o.op ≠ .defer c := fun i o ho c e => by
  unfold noDeferB at h
  rw [Array.all_eq_true] at h
  obtain ⟨hi, hg⟩ := Array.getElem?_eq_some_iff.1 ho
  have := h i hi
  rw [hg] at this
  simp only [e] at this
  cases this

/-- THE LAW, in a round. -/
theorem wpIn_region_order {n : Nat} {r : Option Nat} {id : Nat} {a : Act} {w : World} (path tail : List Nat) {l tl : List Oper} (hm : P.follows .mixedOrders = true) (hns : Region.noSelect ops = true) (hq : ¬ LetsOut Q) (hd : noDeferB ops = true) (ht : takeB .any ops (Array.replicate ops.size false) path = true) (hb : lastB .any ops (listedOf (Array.replicate ops.size false) path) tail = true)
    (hl : l = path.filterMap (fun i => ops[i]?)) (hll : l.length = path.length) (htl : tl = tail.filterMap (fun i => ops[i]?)) (htll : tl.length = tail.length) (hsz : tail.length + path.length = ops.size)
    (hQ : ∀ d v c a w, Q (.panic c) (Act.put a d v) w → Q (.panic c) a w) (hS : S w.drew) (h : YieldList P ops S (fun a => tailS P ops Q S tl a w.drew) l a) : (Code.region id ops true).wpIn { Fence.wide with round := r } n P Q a w :=
  wpIn_round_any hm hq (noDefer_spec hd) (wpAny_order path tail hns ht hb hl hll htl htll hsz hQ hS h)

theorem filterMap_range : ∀ (l : List Oper), (List.range l.length).filterMap (fun i => l[i]?) = l
  | [] => rfl
  | o :: l => by
    rw [List.length_cons, List.range_succ_eq_map, List.filterMap_cons]
    simp only [List.getElem?_cons_zero]
    rw [List.filterMap_map]
    congr 1
    exact filterMap_range l

theorem filterMap_same {f g : Nat → Option Oper} : ∀ {l : List Nat}, (∀ i, i ∈ l → f i = g i) → l.filterMap f = l.filterMap g
  | [], _ => rfl
  | i :: l, h => by
    rw [List.filterMap_cons, List.filterMap_cons, h i (by simp), filterMap_same fun j hj => h j (by simp [hj])]

theorem filterMap_text {l tl : List Oper} (h : ops.toList = l ++ tl) : l = (List.range l.length).filterMap (fun i => ops[i]?) ∧ tl = ((List.range tl.length).map (l.length + ·)).filterMap (fun i => ops[i]?) := by
  have hget : ∀ i, ops[i]? = (l ++ tl)[i]? := fun i => by rw [← h, Array.getElem?_toList]
  constructor
  · refine (filterMap_range l).symm.trans (filterMap_same fun i hi => ?_)
    rw [hget, List.getElem?_append_left (by simpa using hi)]
  · rw [List.filterMap_map]
    refine (filterMap_range tl).symm.trans (filterMap_same fun i hi => ?_)
    show _ = ops[l.length + i]?
    rw [hget, List.getElem?_append_right (by omega), Nat.add_sub_cancel_left]

/-- THE LAW, in the order of the text. -/
theorem wpAny_text {a : Act} {w : World} {l tl : List Oper} (hops : ops.toList = l ++ tl) (hns : Region.noSelect ops = true) (ht : takeB .any ops (Array.replicate ops.size false) (List.range l.length) = true) (hb : lastB .any ops (listedOf (Array.replicate ops.size false) (List.range l.length)) ((List.range tl.length).map (l.length + ·)) = true)
    (hQ : ∀ d v c a w, Q (.panic c) (Act.put a d v) w → Q (.panic c) a w) (hS : S w) (h : YieldList P ops S (fun a => tailS P ops Q S tl a w) l a) : wpAny P .any ops Q ops.size (Array.replicate ops.size false) a w :=
  wpAny_order (List.range l.length) ((List.range tl.length).map (l.length + ·)) hns ht hb (filterMap_text hops).1 (by simp) (filterMap_text hops).2 (by simp) (by rw [← Array.length_toList, hops]; simp; omega) hQ hS h

theorem wp_region_text {id : Nat} {a : Act} {w : World} {l tl : List Oper} (hm : P.follows .mixedOrders = true) (hops : ops.toList = l ++ tl) (hns : Region.noSelect ops = true) (ht : takeB .any ops (Array.replicate ops.size false) (List.range l.length) = true) (hb : lastB .any ops (listedOf (Array.replicate ops.size false) (List.range l.length)) ((List.range tl.length).map (l.length + ·)) = true)
    (hQ : ∀ d v c a w, Q (.panic c) (Act.put a d v) w → Q (.panic c) a w) (hS : S w.drew) (h : YieldList P ops S (fun a => tailS P ops Q S tl a w.drew) l a) : (Code.region id ops true).wp P Q a w :=
  wp_region_any hm (wpAny_text hops hns ht hb hQ hS h)

theorem wpIn_region_text {n : Nat} {r : Option Nat} {id : Nat} {a : Act} {w : World} {l tl : List Oper} (hm : P.follows .mixedOrders = true) (hops : ops.toList = l ++ tl) (hns : Region.noSelect ops = true) (hq : ¬ LetsOut Q) (hd : noDeferB ops = true) (ht : takeB .any ops (Array.replicate ops.size false) (List.range l.length) = true) (hb : lastB .any ops (listedOf (Array.replicate ops.size false) (List.range l.length)) ((List.range tl.length).map (l.length + ·)) = true)
    (hQ : ∀ d v c a w, Q (.panic c) (Act.put a d v) w → Q (.panic c) a w) (hS : S w.drew) (h : YieldList P ops S (fun a => tailS P ops Q S tl a w.drew) l a) : (Code.region id ops true).wpIn { Fence.wide with round := r } n P Q a w :=
  wpIn_round_any hm hq (noDefer_spec hd) (wpAny_text hops hns ht hb hQ hS h)

theorem YieldList.cons {E : Act → Prop} {o : Oper} {rest : List Oper} {a : Act} (v : Value) (h : YieldsIf P ops S o v a) (hr : YieldList P ops S E rest (a.put o.dst v)) : YieldList P ops S E (o :: rest) a := ⟨v, h, hr⟩
theorem YieldList.done {E : Act → Prop} {a : Act} (h : E a) : YieldList P ops S E [] a := h
theorem YieldsIf.val {o : Oper} {v : Value} {a : Act} (hw : Region.wanted o (yielded ops a.tmps) = true) (h : ∀ w, S w → (execOp a.eval o).run P w = .ok (.value v) w) : YieldsIf P ops S o v a := .inl ⟨hw, h⟩
theorem YieldsIf.load {o : Oper} {v : Value} {a : Act} (hw : Region.wanted o (yielded ops a.tmps) = true) (ty : TypeId) (x : Operand) (ho : o.op = .load ty x) (ad : Addr) (hx : a.eval x = .pointer (some ad)) (h : ∀ w, S w → (loadVar ty ad).run P w = .ok v w) : YieldsIf P ops S o v a :=
  YieldsIf.val hw fun w hS => by
    unfold execOp
    simp only [ho, hx, Instr.loadAt, Instr.sureAddr, Sem.run_bind, Sem.run_pure, Result.andThen_ok, h w hS]
end
end Go.Proofs.YtmhcnkjmnbnldaaDoor
