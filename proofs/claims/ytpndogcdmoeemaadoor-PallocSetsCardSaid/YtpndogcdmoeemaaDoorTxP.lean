/-
  Layer 4 (tx): Pairs.
-/
import Derived.Test.YtpndogcdmoeemaaDoorTxC
import Derived.BigRegion
import Derived.Deep.LoopGhost
namespace Go.Proofs.YtpndogcdmoeemaaDoor
open Go.RowKit

theorem index_words (X : List Int) (k : Nat) (hx : X.length = 3128) (hk : k < 3128) (w : World) : (Instr.index 50 (.agg (u64s X).toArray) (.int .i64 (k : Int))).run Tryd.prog w = .ok (.int .u64 (X.getD k 0)) w := by
  have hu := run_underlying (P := Tryd.prog) Tryd.underlying50
  have he := run_underlying (P := Tryd.prog) Tryd.underlying22
  obtain ⟨i0, hi, hz0, hz1, hz2⟩ := info_parts Tryd.info_u64
  have hc : (u64s X)[k]? = some (.int .u64 (X.getD k 0)) := u64s_get (by omega)
  have h0 : (0 : Int) ≤ (k : Int) := by omega
  generalize X.getD k 0 = x at *
  simp [Instr.index, asIntOf, hu, h0, hk, sizeOf, typeInfo, hi, hz1, part, isAgg, he, hc]

set_option maxRecDepth 100000 in
set_option maxHeartbeats 2000000 in
theorem txPairs_raw {w : World} {b gp : Nat} {B X : List Int} {us : List (Int × Int)} (h : ShRaw w b gp B X us) :
    Calls Tryd.prog 12 #[.pointer (some ⟨b, 0, none⟩)] w (MadePairs w (diffTo B X 3128)) := by
  obtain ⟨i0, hi, hz0, hz1, hz2⟩ := info_parts Tryd.info_pair
  have H := Lib.hid h
  have HLX := Lib.hid h.lx
  have hbl := h.lt
  obtain ⟨lb, lx, vp, h1, h2, h3⟩ := h
  have HL := Lib.hid (load_words h1 lb lx)
  clear lb lx h1 h2 h3 vp
  have HIX := Lib.hid (fun (k : Nat) (hk : k < 3128) => index_words X k HLX.out hk)
  generalize (u64s X).toArray = Y at *
  go_enter Tryd.func12, Tryd.ntmps12
  go_wp2_with ((with_reducible show wpList _ _ _ (⟨_, .load 50 (.tmp 8), _, _, _, _⟩ :: _) _ _); refine wpList_load_any rfl 50 (.tmp 8) rfl _ rfl _ HL.out ?_)
  clear HL
  go_loopg [3, 10] 3128 (fun gh s3 s10 wx => ∃ k : Nat, k + gh = 3128 ∧ s10 = .int .i64 (k : Int) ∧
    Hid (wx.ownsRow w.heap.size 55 2 s3 (diffTo B X k).length (pcells (diffTo B X k)) ∧ Keeps [] w wx))
  case atStart => exact ⟨0, by omega, rfl, ⟨rfl, .inl ⟨rfl, rfl⟩⟩, Keeps.refl _ _⟩
  case round =>
    obtain ⟨k, hk, rfl, HR⟩ := hrel
    cases gk with
    | zero =>
      obtain rfl : k = 3128 := by omega
      have HM : Hid (MadePairs w (diffTo B X 3128) (.returned u3) wr) := by
        obtain ⟨hr, hkp⟩ := HR.out
        obtain ⟨g', ho, hb⟩ := Owns.of_row hr
        by_cases e : (diffTo B X 3128).length = 0
        · exact MadePairs.mk (ho.anyG e w.heap.size) rfl (Nat.le_refl _) hkp
        · exact MadePairs.mk ho rfl (hb e).1 hkp
      clear hk
      go_wp2_with fail
      go_ret
      exact HM.out
    | succ gg =>
      have hk3 : k < 3128 := by omega
      have hlt : (k : Int) < 3128 := by omega
      have hk0 : (0 : Int) ≤ (k : Int) := by omega
      obtain ⟨hown, hkp⟩ := HR.out
      have c0 := (H.out.keep hkp (by simp) (by simp)).cell0 (i := k) hk3
      have hix := HIX.out k hk3
      have hle := diffTo_len B X k
      have hws := hkp.size
      have HOWN := Lib.hid hown
      have HKP := Lib.hid hkp
      clear hown hkp HR
      by_cases hx : X.getD k 0 = B.getD k 0
      · have HD := Lib.hid (diffTo_same B X k hx)
        have e1 : (X.getD k 0 != B.getD k 0) = false := by simpa using hx
        clear hx
        generalize X.getD k 0 = x at *
        generalize B.getD k 0 = y at *
        go_wp2_with fail
        go_roundg gg
        case measure => omega
        case rel => exact ⟨k + 1, by omega, by go_num, by rw [HD.out]; exact HOWN.out, HKP.out⟩
      · have HD := Lib.hid (diffTo_new B X k hx)
        have e1 : (X.getD k 0 != B.getD k 0) = true := by simpa using hx
        clear hx
        generalize X.getD k 0 = x at *
        generalize B.getD k 0 = y at *
        go_wp2_with (at_builtin; refine wpList_append_own _ rfl _ _ 37 rfl w.heap.size 55 i0 (.agg #[.int .i64 0, .int .u64 0]) 2 16 Tryd.underlying37 hi hz0 hz1 hz2 rfl (by decide) u3 (diffTo B X k).length _ rfl (HOWN.out.alloc _) ⟨wr.heap.size, 0, none⟩ 1 1 [.int .i64 (k : Int), .int .u64 x] rfl rfl ?c1 ?c2 (by unfold maxLen; omega) (by omega) (by simp; omega) ?_)
        case c1 => exact new_cells _ [_, _] _ _ rfl
        case c2 => simp [Value.oneCell']
        intro v' w1 hown1 hgrow _
        have HO1 := Lib.hid hown1
        have HK1 := Lib.hid ((HKP.out.alloc _).grown hgrow (ownsRow_block HOWN.out))
        clear hown1 hgrow
        go_wp2_with fail
        go_roundg gg
        case measure => omega
        case rel =>
          refine ⟨k + 1, by omega, by go_num, ?_, HK1.out⟩
          have := HO1.out
          rw [HD.out, List.length_append, pcells_append]
          exact this

theorem txPairs_at {w : World} {b gp : Nat} {B : List Int} {ps : List (Int × Int)} (h : ShAt w b gp B ps) :
    Calls Tryd.prog 12 #[.pointer (some ⟨b, 0, none⟩)] w (MadePairs w (diffTo B (putAll B ps) 3128)) := txPairs_raw h.raw

end Go.Proofs.YtpndogcdmoeemaaDoor
