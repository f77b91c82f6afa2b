/-
  Layer 2 (pack), as layer 3 calls it: Bytes, Sum, the reference's Sum (the texts of PkB and PkG for a seat that has no more of pack; byte lists are named c8s here, u8s is pmem's).
-/
import Derived.Test.YtopljfbgbiipiaaChecked
import Derived.Test.YtopljfbgbiipiaaRows
import Derived.Test.YtopljfbgbiipiaaPlM
import Derived.Test.YtopljfbgbiipiaaPmF
namespace Go.Proofs.Ytopljfbgbiipiaa
open Go.RowKit

def c8s (l : List Nat) : List Value := l.map fun c : Nat => Value.int .u8 (c : Int)

theorem c8s_len (l : List Nat) : (c8s l).length = l.length := by simp [c8s]
theorem c8s_get {l : List Nat} {j : Nat} (h : j < l.length) : (c8s l)[j]? = some (.int .u8 (l.getD j 0 : Nat)) := by simp [c8s, h]
theorem c8s_one (l : List Nat) : ∀ u ∈ c8s l, u.oneCell' = true := by
  intro u hu
  simp only [c8s, List.mem_map] at hu
  obtain ⟨x, -, rfl⟩ := hu
  rfl

theorem eightN {α : Type} {l : List α} (h : l.length = 8) : ∃ x0 x1 x2 x3 x4 x5 x6 x7, l = [x0, x1, x2, x3, x4, x5, x6, x7] := by
  match l, h with
  | [x0, x1, x2, x3, x4, x5, x6, x7], _ => exact ⟨x0, x1, x2, x3, x4, x5, x6, x7, rfl⟩

theorem index_bytes (l : List Nat) (h : l.length = 8) (k : Nat) (hk : k < 8) (w : World) : (Instr.index 77 (.agg (c8s l).toArray) (.int .i64 (k : Int))).run Try.prog w = .ok (.int .u8 (l.getD k 0 : Nat)) w := by
  obtain ⟨x0, x1, x2, x3, x4, x5, x6, x7, rfl⟩ := eightN h
  have hc : k = 0 ∨ k = 1 ∨ k = 2 ∨ k = 3 ∨ k = 4 ∨ k = 5 ∨ k = 6 ∨ k = 7 := by omega
  rcases hc with rfl | rfl | rfl | rfl | rfl | rfl | rfl | rfl <;> (show Sem.run _ _ _ = _; kernel_rfl)

theorem wrap64_nat (n : Nat) (h : n < 18446744073709551616) : IntKind.u64.wrap (n : Int) = (n : Int) := by rw [IntKind.wrap_u64]; omega
theorem wrap32_nat (n : Nat) (h : n < 4294967296) : IntKind.u32.wrap (n : Int) = (n : Int) := by rw [IntKind.wrap_u32']; omega

theorem pow8 (k : Nat) : 2 ^ (8 * k) = 256 ^ k := by rw [Nat.pow_mul]

theorem Try.info_bytes : (Try.prog.info? 77).map (·.size) = some 8 := by kernel_rfl

/-- The bytes that Bytes has laid, so far. -/
def bytTo (W k : Nat) : List Nat := (List.range 8).map fun j => if j < k then byt W j else 0

theorem bytTo_all (W : Nat) : bytTo W 8 = byts W := by
  unfold bytTo byts
  apply List.map_congr_left
  intro j hj
  rw [if_pos (by simpa using hj)]

theorem bytTo_set (W k : Nat) (hk : k < 8) : (c8s (bytTo W k)).set k (.int .u8 (byt W k : Nat)) = c8s (bytTo W (k + 1)) := by
  apply List.ext_getElem?
  intro j
  rw [List.getElem?_set]
  simp only [c8s, bytTo, List.getElem?_map, List.length_map, List.length_range]
  by_cases h : k = j
  · subst h
    simp [hk]
  · rw [if_neg h]
    by_cases hj : j < 8
    · simp only [hj, List.getElem?_range, Option.map_some]
      simp only [show j < k + 1 ↔ j < k by omega]
    · simp [hj]

theorem bytTo_len (W k : Nat) : (bytTo W k).length = 8 := by simp [bytTo]

theorem shr_nat (W k : Nat) : (W : Int) / 2 ^ (8 * k) % 256 = ((byt W k : Nat) : Int) := by
  rw [show (2 : Int) ^ (8 * k) = ((256 ^ k : Nat) : Int) by rw [← pow8]; simp]
  rfl

/-- The array's eight cells loaded as a whole. -/
theorem load_bytes {w : World} {b : Nat} {l : List Nat} (hl : l.length = 8) (h : Blk w b (c8s l).toArray 77) : (loadVar 77 ⟨b, 0, none⟩).run Try.prog w = .ok (.agg (c8s l).toArray) w :=
  run_loadVar_cells b 0 (c8s l) Try.underlying77 rfl (by rw [c8s_len, hl]; exact Try.info_bytes) fun j _ => by rw [h.cell]; simp

/-- .. and stored. -/
theorem store_bytes {w : World} {b : Nat} {l m : List Nat} (hl : l.length = 8) (hm : m.length = 8) (h : Blk w b (c8s l).toArray 77) :
    ∃ w', (storeVar 77 ⟨b, 0, none⟩ (.agg (c8s m).toArray)).run Try.prog w = .ok () w' ∧ Blk w' b (c8s m).toArray 77 ∧ Keeps [b] w w' := by
  have hr := run_storeVar_cells (P := Try.prog) (ty := 77) b 0 (c8s m) _ (by rw [c8s_len, hm]; exact Try.info_bytes) h (by simp [c8s_len, hl, hm]) (c8s_one m)
  refine ⟨_, hr, ?_, (Keeps.refl _ _).setRow (by simp) _⟩
  have := setRow_heap _ b _ (List.take 0 (c8s l).toArray.toList ++ c8s m ++ List.drop (0 + (c8s m).length) (c8s l).toArray.toList).toArray _ _ h
  unfold Blk
  rw [this]
  simp [List.drop_of_length_le, c8s_len, hl, hm]

theorem zero_bytes (W : Nat) : (#[.int .u8 0, .int .u8 0, .int .u8 0, .int .u8 0, .int .u8 0, .int .u8 0, .int .u8 0, .int .u8 0] : Array Value) = (c8s (bytTo W 0)).toArray := by
  simp [c8s, bytTo, List.range, List.range.loop]

set_option maxHeartbeats 1000000 in
theorem bytes_at (W : Nat) (w : World) :
    Calls Try.prog 48 #[.int .u64 (W : Int)] w fun e w' => e = .returned (.agg (c8s (byts W)).toArray) ∧ Keeps [] w w' := by
  go_enter Try.func48, Try.ntmps48
  go_wp2_with fail
  go_loopg [5] 8 (fun g s5 wx => ∃ k : Nat, k + g = 8 ∧ s5 = .int .i64 (k : Int) ∧ Hid (Blk wx (w.heap.size + 1) (c8s (bytTo W k)).toArray 77 ∧ Blk wx w.heap.size (c8s (bytTo W 0)).toArray 77 ∧ Keeps [] w wx))
  case atStart =>
    refine ⟨0, by omega, rfl, ?_, ?_, ((Keeps.refl _ _).alloc _).alloc _⟩
    · have := Blk.new (w.alloc (.cells (c8s (bytTo W 0)).toArray 77)) (c8s (bytTo W 0)).toArray 77
      simpa [zero_bytes W] using this
    · have := (Blk.new w (c8s (bytTo W 0)).toArray 77).alloc (.cells (c8s (bytTo W 0)).toArray 77)
      simpa [zero_bytes W] using this
  case round =>
    obtain ⟨k, hk8, rfl, HP⟩ := hrel
    cases gk with
    | zero =>
      obtain rfl : k = 8 := by omega
      have HL := Lib.hid (load_bytes (bytTo_len W 8) HP.out.1)
      obtain ⟨w2, hs, hb, hk⟩ := store_bytes (bytTo_len W 0) (bytTo_len W 8) HP.out.2.1
      have HS := Lib.hid hs
      rw [bytTo_all] at hb
      have HB : Hid (∀ j, j < 8 → w2.cell? ⟨w.heap.size, j, none⟩ = some (.int .u8 (byt W j : Nat))) := fun j hj => by
        rw [hb.cell, ← byts_get W j hj]
        simpa using c8s_get (l := byts W) (j := j) (by rw [byts_len]; omega)
      have HK := Lib.hid (HP.out.2.2.trans hk (by simp))
      clear hs hb hk HP
      rw [bytTo_all] at HL HS
      go_wp2_with (first | ((with_reducible show wpList _ _ _ (⟨_, .load 77 (.tmp 3), _, _, _, _⟩ :: _) _ _); refine wpList_load_any rfl 77 (.tmp 3) rfl _ rfl _ HL.out ?_) | ((with_reducible show wpList _ _ _ (⟨_, .store 77 (.tmp 2) (.tmp 16), _, _, _, _⟩ :: _) _ _); refine wpList_store_any rfl 77 (.tmp 2) (.tmp 16) rfl _ rfl _ rfl _ HS.out ?_))
      have hb := HB.out
      exact bodyPost_ret (v := .agg (c8s (byts W)).toArray) (by simp [results, Try.results48, go_sem, hb 0, hb 1, hb 2, hb 3, hb 4, hb 5, hb 6, hb 7, c8s, byts, List.range, List.range.loop]) rfl ⟨rfl, HK.out⟩
    | succ g =>
      have hlt : (k : Int) < 8 := by omega
      have hc : wr.cell? ⟨w.heap.size + 1, k, none⟩ = some (.int .u8 ((bytTo W k).getD k 0 : Nat)) := by
        rw [HP.out.1.cell]
        simpa using c8s_get (l := bytTo W k) (j := k) (by rw [bytTo_len]; omega)
      have hf : wr.frozen? ⟨w.heap.size + 1, k, none⟩ = false := HP.out.1.frozen _
      generalize (bytTo W k).getD k 0 = c at *
      go_wp2_with fail
      go_roundg g
      case measure => omega
      case rel =>
        refine ⟨k + 1, by omega, by go_num, ?_⟩
        rw [shr_nat]
        refine ⟨?_, HP.out.2.1.other (by simp) _, HP.out.2.2.setCell (.inr (by simp)) _⟩
        have := HP.out.1.set k (.int .u8 (byt W k : Nat))
        rw [List.setIfInBounds_toArray, bytTo_set W k (by omega)] at this
        exact this

def w64s (l : List Nat) : List Value := l.map fun n : Nat => Value.int .u64 (n : Int)

theorem w64s_len (l : List Nat) : (w64s l).length = l.length := by simp [w64s]
theorem w64s_get {l : List Nat} {j : Nat} (h : j < l.length) : (w64s l)[j]? = some (.int .u64 (l.getD j 0 : Nat)) := by simp [w64s, h]

theorem foldl_take_succ {β : Type} (f : β → Nat → β) (l : List Nat) (h : β) (k : Nat) (hk : k < l.length) : (l.take (k + 1)).foldl f h = f ((l.take k).foldl f h) (l.getD k 0) := by
  rw [List.take_succ_eq_append_getElem hk, List.foldl_append]
  simp [List.getD_eq_getElem?_getD, hk]

theorem fnv_u32 {h c : Nat} (hh : h < 4294967296) (hc : c < 256) : bits .xor .u32 (h : Int) (c : Int) * 16777619 % 4294967296 = ((fnv h c : Nat) : Int) := by
  rw [u32_xor_nat h c hh (by omega), fnv]
  rfl

theorem fnv_u64 {h y : Nat} (hh : h < 4294967296) : (IntKind.u64.wrap (bits .xor .u64 (h : Int) ((y : Int) % 256) * 16777619)).tmod 4294967296 = ((fnv h (y % 256) : Nat) : Int) := by
  have hc : y % 256 < 256 := Nat.mod_lt _ (by decide)
  have hx := xor_lt32 hh hc
  rw [show (y : Int) % 256 = ((y % 256 : Nat) : Int) from rfl, u64_xor_nat h (y % 256) (by omega) (by omega), show ((h ^^^ y % 256 : Nat) : Int) * 16777619 = (((h ^^^ y % 256) * 16777619 : Nat) : Int) by simp,
    wrap64_nat _ (by omega), Int.tmod_eq_emod_of_nonneg (by omega), fnv]
  rfl

set_option maxHeartbeats 2000000 in
theorem sum_at {w : World} {v : Value} {gb : Nat} {xs : List Nat} (h : Reads w v gb (w64s xs)) :
    Calls Try.prog 44 #[v] w fun e w' => e = .returned (.int .u32 (sumN xs : Nat)) ∧ Keeps [] w w' := by
  obtain ⟨a, cap, rfl, h1, h2, h3⟩ := h
  rw [w64s_len] at *
  unfold maxLen at h2
  have H3 : Hid (∀ k, k < xs.length → gb < w.heap.size ∧ ∃ off, a = some ⟨gb, off, none⟩ ∧ w.cell? ⟨gb, off + k, none⟩ = some (.int .u64 (xs.getD k 0 : Nat))) := fun k hk => by
    obtain ⟨hg, off, ho, hc⟩ := h3 (by intro e; have := congrArg List.length e; rw [w64s_len, List.length_nil] at this; omega)
    exact ⟨hg, off, ho, (hc k hk).trans (w64s_get hk)⟩
  clear h3
  go_enter Try.func44, Try.ntmps44
  go_wp2_with fail
  go_loopg [3, 10] xs.length (fun g s3 s10 wx => ∃ k : Nat, k + g = xs.length ∧ s10 = .int .i64 (k : Int) ∧ s3 = .int .u32 (((xs.take k).foldl sumW 2166136261 : Nat) : Int) ∧ Hid (Keeps [] w wx))
  case atStart => exact ⟨0, by omega, rfl, rfl, Keeps.refl _ _⟩
  case round =>
    obtain ⟨k, hk, rfl, rfl, HK⟩ := hrel
    cases gk with
    | zero =>
      obtain rfl : k = xs.length := by omega
      have hlt : ¬ (xs.length : Int) < (xs.length : Int) := by omega
      rw [List.take_of_length_le (Nat.le_refl _)]
      go_wp2_with fail
      go_ret
      exact ⟨rfl, HK.out⟩
    | succ g =>
      have hlt : (k : Int) < (xs.length : Int) := by omega
      obtain ⟨hg, off, rfl, hc⟩ := H3.out k (by omega)
      have hcr : wr.cell? ⟨gb, off + k, none⟩ = some (.int .u64 (xs.getD k 0 : Nat)) := by
        rw [World.cell?_of_block (w := w) (HK.out.block gb hg (by simp))]
        exact hc
      have hh := foldl_sumW_lt (xs.take k) 2166136261 (by decide)
      have HT := Lib.hid (foldl_take_succ sumW xs 2166136261 k (by omega))
      generalize (xs.take k).foldl sumW 2166136261 = h at *
      generalize xs.getD k 0 = x at *
      have HB := Lib.hid (bytes_at x wr)
      clear hc
      go_wp2_with (go_at_call 48; refine HB.out.mono ?_; rintro e w2 ⟨rfl, hk2⟩; have HK2 := Lib.hid (HK.out.trans hk2 (by simp)); clear hk2)
      obtain ⟨wo, rfl⟩ : ∃ wo : World, wo = wr := ⟨_, rfl⟩
      clear hcr
      go_loopg [3, 16] 8 (fun g2 s3 s16 wx => ∃ k2 : Nat, k2 + g2 = 8 ∧ s16 = .int .i64 (k2 : Int) ∧ s3 = .int .u32 ((((byts x).take k2).foldl fnv h : Nat) : Int) ∧ wx = w2)
      case atStart => exact ⟨0, by omega, rfl, rfl, rfl⟩
      case round =>
        obtain ⟨k2, hk2, rfl, rfl, rfl⟩ := hrel
        cases gk with
        | zero =>
          obtain rfl : k2 = 8 := by omega
          rw [List.take_of_length_le (by rw [byts_len]; omega)]
          go_wp2_with fail
          go_roundg g
          case measure => omega
          case rel => exact ⟨k + 1, by omega, by go_num, by rw [HT.out]; rfl, HK2.out⟩
        | succ g2 =>
          have hlt2 : (k2 : Int) < 8 := by omega
          have hix := index_bytes (byts x) (byts_len x) k2 (by omega)
          have HT2 := Lib.hid (foldl_take_succ fnv (byts x) h k2 (by rw [byts_len]; omega))
          have hh2 := foldl_fnv_lt ((byts x).take k2) h hh
          have hc2 : (byts x).getD k2 0 < 256 := by rw [byts_get x k2 (by omega)]; exact byt_lt _ _
          generalize ((byts x).take k2).foldl fnv h = h' at *
          generalize (byts x).getD k2 0 = c at *
          have HF := Lib.hid (fnv_u32 hh2 hc2)
          go_wp2_with fail
          go_roundg g2
          case measure => omega
          case rel =>
            refine ⟨k2 + 1, by omega, by go_num, ?_, rfl⟩
            rw [HT2.out, HF.out]

theorem foldl_pow_div (x k : Nat) : x / 256 ^ k / 256 = x / 256 ^ (k + 1) := by rw [Nat.div_div_eq_div_mul, Nat.pow_succ]

set_option maxHeartbeats 2000000 in
theorem refSum_at {w : World} {v : Value} {gb : Nat} {xs : List Nat} (h : Reads w v gb (w64s xs)) (hx : ∀ x ∈ xs, x < 18446744073709551616) :
    Calls Try.prog 37 #[v] w fun e w' => e = .returned (.int .u32 (sumN xs : Nat)) ∧ w = w' := by
  obtain ⟨a, cap, rfl, h1, h2, h3⟩ := h
  rw [w64s_len] at *
  unfold maxLen at h2
  have H3 : Hid (∀ k, k < xs.length → gb < w.heap.size ∧ ∃ off, a = some ⟨gb, off, none⟩ ∧ w.cell? ⟨gb, off + k, none⟩ = some (.int .u64 (xs.getD k 0 : Nat))) := fun k hk => by
    obtain ⟨hg, off, ho, hc⟩ := h3 (by intro e; have := congrArg List.length e; rw [w64s_len, List.length_nil] at this; omega)
    exact ⟨hg, off, ho, (hc k hk).trans (w64s_get hk)⟩
  have HX := Lib.hid hx
  clear h3 hx
  go_enter Try.func37, Try.ntmps37
  go_wp2_with fail
  go_loopg [3, 4] xs.length (fun g s3 s4 wx => ∃ k : Nat, k + g = xs.length ∧ s4 = .int .i64 (k : Int) ∧ s3 = .int .u64 (((xs.take k).foldl sumW 2166136261 : Nat) : Int) ∧ wx = w)
  case atStart => exact ⟨0, by omega, rfl, rfl, rfl⟩
  case round =>
    obtain ⟨k, hk, rfl, rfl, rfl⟩ := hrel
    have hh := foldl_sumW_lt (xs.take k) 2166136261 (by decide)
    cases gk with
    | zero =>
      obtain rfl : k = xs.length := by omega
      have hlt : ¬ (xs.length : Int) < (xs.length : Int) := by omega
      have HS : Hid ((xs.take xs.length).foldl sumW 2166136261 = sumN xs) := by rw [List.take_of_length_le (Nat.le_refl _)]; rfl
      generalize (xs.take xs.length).foldl sumW 2166136261 = h at *
      go_wp2_with fail
      go_ret
      exact ⟨by rw [← HS.out]; rfl, rfl⟩
    | succ g =>
      have hlt : (k : Int) < (xs.length : Int) := by omega
      obtain ⟨hg, off, rfl, hc⟩ := H3.out k (by omega)
      have hxk : xs.getD k 0 < 18446744073709551616 := by
        rw [List.getD_eq_getElem?_getD, List.getElem?_eq_getElem (by omega)]
        exact HX.out _ (List.getElem_mem _)
      have HT := Lib.hid (foldl_take_succ sumW xs 2166136261 k (by omega))
      generalize (xs.take k).foldl sumW 2166136261 = h at *
      generalize xs.getD k 0 = x at *
      go_wp2_with fail
      obtain ⟨wo, rfl⟩ : ∃ wo : World, wo = wr := ⟨_, rfl⟩
      clear hc
      go_loopg [3, 5, 6] 8 (fun g2 s3 s5 s6 wx => ∃ k2 : Nat, k2 + g2 = 8 ∧ s6 = .int .i64 (k2 : Int) ∧ s5 = .int .u64 ((x / 256 ^ k2 : Nat) : Int) ∧ s3 = .int .u64 ((((byts x).take k2).foldl fnv h : Nat) : Int) ∧ wx = wo)
      case atStart => exact ⟨0, by omega, rfl, by simp, rfl, rfl⟩
      case round =>
        obtain ⟨k2, hk2, rfl, rfl, rfl, rfl⟩ := hrel
        cases gk with
        | zero =>
          obtain rfl : k2 = 8 := by omega
          rw [List.take_of_length_le (by rw [byts_len]; omega)]
          go_wp2_with fail
          go_roundg g
          case measure => omega
          case rel => exact ⟨k + 1, by omega, by go_num, by rw [HT.out]; rfl, rfl⟩
        | succ g2 =>
          have hlt2 : (k2 : Int) < 8 := by omega
          have HT2 := Lib.hid (foldl_take_succ fnv (byts x) h k2 (by rw [byts_len]; omega))
          have hh2 := foldl_fnv_lt ((byts x).take k2) h hh
          have HF := Lib.hid (fnv_u64 (y := x / 256 ^ k2) hh2)
          have HG := Lib.hid (byts_get x k2 (by omega))
          have HY : Hid (byt x k2 = x / 256 ^ k2 % 256) := rfl
          have HD := Lib.hid (foldl_pow_div x k2)
          have hy : x / 256 ^ k2 < 18446744073709551616 := Nat.lt_of_le_of_lt (Nat.div_le_self _ _) hxk
          generalize ((byts x).take k2).foldl fnv h = h' at *
          generalize x / 256 ^ k2 = y at *
          go_wp2_with fail
          go_roundg g2
          case measure => omega
          case rel =>
            refine ⟨k2 + 1, by omega, by go_num, by rw [← HD.out]; rfl, ?_, rfl⟩
            rw [HT2.out, HG.out, HF.out, HY.out]


theorem u64s_w64s {xs : List Int} (h : u64P xs) : u64s xs = w64s (xs.map Int.toNat) := by
  rw [w64s, u64s, List.map_map]
  apply List.map_congr_left
  intro z hz
  have := h z hz
  simp only [Function.comp_apply]
  rw [Int.toNat_of_nonneg this.1]

theorem sum_atI {w : World} {v : Value} {gb : Nat} {xs : List Int} (h : Reads w v gb (u64s xs)) (hx : u64P xs) :
    Calls Try.prog 44 #[v] w fun e w' => e = .returned (.int .u32 (sumN (xs.map Int.toNat) : Nat)) ∧ Keeps [] w w' := by
  rw [u64s_w64s hx] at h
  exact sum_at h

theorem refSum_atI {w : World} {v : Value} {gb : Nat} {xs : List Int} (h : Reads w v gb (u64s xs)) (hx : u64P xs) :
    Calls Try.prog 37 #[v] w fun e w' => e = .returned (.int .u32 (sumN (xs.map Int.toNat) : Nat)) ∧ w = w' := by
  rw [u64s_w64s hx] at h
  refine refSum_at h fun x hx' => ?_
  obtain ⟨z, hz, rfl⟩ := List.mem_map.1 hx'
  have := hx z hz
  omega

end Go.Proofs.Ytopljfbgbiipiaa
