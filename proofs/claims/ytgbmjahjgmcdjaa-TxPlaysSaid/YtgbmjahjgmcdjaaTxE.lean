/-
  Layer 4 (tx): Words, Pairs, Block, Inode.
-/
import Derived.Test.YtgbmjahjgmcdjaaTxD
namespace Go.Proofs.Ytgbmjahjgmcdjaa
open Go.RowKit

theorem zero_words (w : World) : (zeroValue 42).run Try.prog w = .ok (.agg (u64s (padW [])).toArray) w := by kernel_rfl

/-- A new array is stored whole. -/
theorem store_array {w : World} {g : Nat} {X : List Int} (hb : Blk w g (u64s X).toArray 42) (lx : X.length = 3128) (Y : List Int) (ly : Y.length = 3128) :
    ∃ w', (storeVar 42 ⟨g, 0, none⟩ (.agg (u64s Y).toArray)).run Try.prog w = .ok () w' ∧ Blk w' g (u64s Y).toArray 42 ∧ Keeps [g] w w' := by
  refine ⟨_, run_storeVar_cells g 0 (u64s Y) _ (by rw [u64s_len, ly]; exact size_words) hb (by rw [List.size_toArray, u64s_len, u64s_len]; omega) (u64s_one Y), ?_, (Keeps.refl _ _).setRow (by simp) _⟩
  have e : ((u64s X).toArray.toList.take 0 ++ u64s Y ++ (u64s X).toArray.toList.drop (0 + (u64s Y).length)).toArray = (u64s Y).toArray := by
    rw [List.take_zero, List.nil_append, List.drop_of_length_le (by rw [u64s_len, u64s_len]; omega), List.append_nil]
  rw [e]
  exact setRow_blk hb

theorem blk_reads {w : World} {g T : Nat} {Y : List Int} {n : Nat} (hb : Blk w g (u64s Y).toArray T) (hn : Y.length = n) (hm : n ≤ maxLen) : Reads w (.slice (some ⟨g, 0, none⟩) n n) g (u64s Y) := by
  refine ⟨some ⟨g, 0, none⟩, n, by rw [u64s_len, hn], by rw [u64s_len, hn]; exact Nat.le_refl _, hm, fun _ => ⟨hb.lt, 0, rfl, fun j hj => ?_⟩⟩
  rw [hb.cell, Nat.zero_add]
  simp

set_option maxHeartbeats 1000000 in
theorem txWords_raw {w : World} {b gp : Nat} {B X : List Int} {us : List (Int × Int)} (h : ShRaw w b gp B X us) :
    Calls Try.prog 16 #[.pointer (some ⟨b, 0, none⟩)] w (MadeWords w X) := by
  obtain ⟨lb, lx, vp, h1, h2, h3⟩ := h
  have HL := Lib.hid (load_words h1 lb lx)
  have hz := zero_words
  obtain ⟨w2, hr2, hb2, hk2⟩ := store_array (Blk.new w (u64s (padW [])).toArray 42) (padW_len []) X lx
  have HR2 := Lib.hid hr2
  have HM : Hid (MadeWords w X (.returned (.slice (some ⟨w.heap.size, 0, none⟩) 3128 3128)) w2) :=
    ⟨_, w.heap.size, rfl, blk_reads hb2 lx (by simp [maxLen]), Nat.le_refl _, ((Keeps.refl [] w).alloc _).trans hk2 (by simp)⟩
  clear h1 h2 h3 hr2 hb2 hk2 lb lx
  generalize (u64s (padW [])).toArray = Z at *
  generalize (u64s X).toArray = Y at *
  go_enter Try.func16, Try.ntmps16
  go_wp2_with (first | ((with_reducible show wpList _ _ _ (⟨_, .load 42 (.tmp 6), _, _, _, _⟩ :: _) _ _); refine wpList_load_any rfl 42 (.tmp 6) rfl _ rfl _ HL.out ?_) | ((with_reducible show wpList _ _ _ (⟨_, .store 42 (.tmp 3) (.tmp 7), _, _, _, _⟩ :: _) _ _); refine wpList_store_any rfl 42 (.tmp 3) (.tmp 7) rfl _ rfl _ rfl _ HR2.out ?_))
  go_ret
  exact HM.out

theorem index_words (X : List Int) (k : Nat) (hx : X.length = 3128) (hk : k < 3128) (w : World) : (Instr.index 42 (.agg (u64s X).toArray) (.int .i64 (k : Int))).run Try.prog w = .ok (.int .u64 (X.getD k 0)) w := by
  have hu := run_underlying (P := Try.prog) Try.underlying42
  have he := run_underlying (P := Try.prog) Try.underlying28
  obtain ⟨i0, hi, hz0, hz1, hz2⟩ := info_parts Try.info_u64
  have hc : (u64s X)[k]? = some (.int .u64 (X.getD k 0)) := u64s_get (by omega)
  have h0 : (0 : Int) ≤ (k : Int) := by omega
  generalize X.getD k 0 = x at *
  simp [Instr.index, asIntOf, hu, h0, hk, sizeOf, typeInfo, hi, hz1, part, isAgg, he, hc]

set_option maxRecDepth 100000 in
set_option maxHeartbeats 2000000 in
theorem txPairs_raw {w : World} {b gp : Nat} {B X : List Int} {us : List (Int × Int)} (h : ShRaw w b gp B X us) :
    Calls Try.prog 17 #[.pointer (some ⟨b, 0, none⟩)] w (MadePairs w (diffTo B X 3128)) := by
  obtain ⟨i0, hi, hz0, hz1, hz2⟩ := info_parts Try.info_pair
  have H := Lib.hid h
  have HLX := Lib.hid h.lx
  have hbl := h.lt
  obtain ⟨lb, lx, vp, h1, h2, h3⟩ := h
  have HL := Lib.hid (load_words h1 lb lx)
  clear lb lx h1 h2 h3 vp
  have HIX := Lib.hid (fun (k : Nat) (hk : k < 3128) => index_words X k HLX.out hk)
  generalize (u64s X).toArray = Y at *
  go_enter Try.func17, Try.ntmps17
  go_wp2_with ((with_reducible show wpList _ _ _ (⟨_, .load 42 (.tmp 8), _, _, _, _⟩ :: _) _ _); refine wpList_load_any rfl 42 (.tmp 8) rfl _ rfl _ HL.out ?_)
  clear HL
  go_loopg [3, 10] 3128 (fun gh s3 s10 wx => ∃ k : Nat, k + gh = 3128 ∧ s10 = .int .i64 (k : Int) ∧
    Hid (wx.ownsRow w.heap.size 35 2 s3 (diffTo B X k).length (pcells (diffTo B X k)) ∧ Keeps [] w wx))
  case atStart => exact ⟨0, by omega, rfl, ⟨rfl, .inl ⟨rfl, rfl⟩⟩, Keeps.refl _ _⟩
  case round =>
    obtain ⟨k, hk, rfl, HR⟩ := hrel
    cases gk with
    | zero =>
      obtain rfl : k = 3128 := by omega
      have HM : Hid (MadePairs w (diffTo B X 3128) (.returned u3) wr) := by
        obtain ⟨hr, hkp⟩ := HR.out
        obtain ⟨g', ho, hb⟩ := Owns.of_row hr
        by_cases e : (diffTo B X 3128).length = 0
        · exact MadePairs.mk (ho.anyG e w.heap.size) rfl (Nat.le_refl _) hkp
        · exact MadePairs.mk ho rfl (hb e).1 hkp
      clear hk
      go_wp2_with fail
      go_ret
      exact HM.out
    | succ gg =>
      have hk3 : k < 3128 := by omega
      have hlt : (k : Int) < 3128 := by omega
      have hk0 : (0 : Int) ≤ (k : Int) := by omega
      obtain ⟨hown, hkp⟩ := HR.out
      have c0 := (H.out.keep hkp (by simp) (by simp)).cell0 (i := k) hk3
      have hix := HIX.out k hk3
      have hle := diffTo_len B X k
      have hws := hkp.size
      have HOWN := Lib.hid hown
      have HKP := Lib.hid hkp
      clear hown hkp HR
      by_cases hx : X.getD k 0 = B.getD k 0
      · have HD := Lib.hid (diffTo_same B X k hx)
        have e1 : (X.getD k 0 != B.getD k 0) = false := by simpa using hx
        clear hx
        generalize X.getD k 0 = x at *
        generalize B.getD k 0 = y at *
        go_wp2_with fail
        go_roundg gg
        case measure => omega
        case rel => exact ⟨k + 1, by omega, by go_num, by rw [HD.out]; exact HOWN.out, HKP.out⟩
      · have HD := Lib.hid (diffTo_new B X k hx)
        have e1 : (X.getD k 0 != B.getD k 0) = true := by simpa using hx
        clear hx
        generalize X.getD k 0 = x at *
        generalize B.getD k 0 = y at *
        go_wp2_with (at_builtin; refine wpList_append_own _ rfl _ _ 27 rfl w.heap.size 35 i0 (.agg #[.int .i64 0, .int .u64 0]) 2 16 Try.underlying27 hi hz0 hz1 hz2 rfl (by decide) u3 (diffTo B X k).length _ rfl (HOWN.out.alloc _) ⟨wr.heap.size, 0, none⟩ 1 1 [.int .i64 (k : Int), .int .u64 x] rfl rfl ?c1 ?c2 (by unfold maxLen; omega) (by omega) (by simp; omega) ?_)
        case c1 => exact new_cells _ [_, _] _ _ rfl
        case c2 => simp [Value.oneCell']
        intro v' w1 hown1 hgrow _
        have HO1 := Lib.hid hown1
        have HK1 := Lib.hid ((HKP.out.alloc _).grown hgrow (ownsRow_block HOWN.out))
        clear hown1 hgrow
        go_wp2_with fail
        go_roundg gg
        case measure => omega
        case rel =>
          refine ⟨k + 1, by omega, by go_num, ?_, HK1.out⟩
          have := HO1.out
          rw [HD.out, List.length_append, pcells_append]
          exact this

theorem txWords_at {w : World} {b gp : Nat} {B : List Int} {ps : List (Int × Int)} (h : ShAt w b gp B ps) :
    Calls Try.prog 16 #[.pointer (some ⟨b, 0, none⟩)] w (MadeWords w (putAll B ps)) := txWords_raw h.raw

theorem txPairs_at {w : World} {b gp : Nat} {B : List Int} {ps : List (Int × Int)} (h : ShAt w b gp B ps) :
    Calls Try.prog 17 #[.pointer (some ⟨b, 0, none⟩)] w (MadePairs w (diffTo B (putAll B ps) 3128)) := txPairs_raw h.raw

end Go.Proofs.Ytgbmjahjgmcdjaa
