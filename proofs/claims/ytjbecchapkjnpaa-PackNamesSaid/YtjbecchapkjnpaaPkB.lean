/-
  Layer 2 (pack): Join, Bytes.
-/
import Derived.Test.YtjbecchapkjnpaaChecked
import Derived.Test.YtjbecchapkjnpaaRows
import Derived.Test.YtjbecchapkjnpaaPkM
import Derived.Test.YtjbecchapkjnpaaLaw
namespace Go.Proofs.Ytjbecchapkjnpaa
open Go.RowKit

def u8s (l : List Nat) : List Value := l.map fun c : Nat => Value.int .u8 (c : Int)

theorem u8s_len (l : List Nat) : (u8s l).length = l.length := by simp [u8s]
theorem u8s_get {l : List Nat} {j : Nat} (h : j < l.length) : (u8s l)[j]? = some (.int .u8 (l.getD j 0 : Nat)) := by simp [u8s, h]
theorem u8s_one (l : List Nat) : ∀ u ∈ u8s l, u.oneCell' = true := by
  intro u hu
  simp only [u8s, List.mem_map] at hu
  obtain ⟨x, -, rfl⟩ := hu
  rfl

theorem eightN {α : Type} {l : List α} (h : l.length = 8) : ∃ x0 x1 x2 x3 x4 x5 x6 x7, l = [x0, x1, x2, x3, x4, x5, x6, x7] := by
  match l, h with
  | [x0, x1, x2, x3, x4, x5, x6, x7], _ => exact ⟨x0, x1, x2, x3, x4, x5, x6, x7, rfl⟩

theorem index_bytes (l : List Nat) (h : l.length = 8) (k : Nat) (hk : k < 8) (w : World) : (Instr.index 34 (.agg (u8s l).toArray) (.int .i64 (k : Int))).run Try.prog w = .ok (.int .u8 (l.getD k 0 : Nat)) w := by
  obtain ⟨x0, x1, x2, x3, x4, x5, x6, x7, rfl⟩ := eightN h
  have hc : k = 0 ∨ k = 1 ∨ k = 2 ∨ k = 3 ∨ k = 4 ∨ k = 5 ∨ k = 6 ∨ k = 7 := by omega
  rcases hc with rfl | rfl | rfl | rfl | rfl | rfl | rfl | rfl <;> (show Sem.run _ _ _ = _; kernel_rfl)

theorem wrap64_nat (n : Nat) (h : n < 18446744073709551616) : IntKind.u64.wrap (n : Int) = (n : Int) := by rw [IntKind.wrap_u64]; omega
theorem wrap32_nat (n : Nat) (h : n < 4294967296) : IntKind.u32.wrap (n : Int) = (n : Int) := by rw [IntKind.wrap_u32']; omega

theorem pow8 (k : Nat) : 2 ^ (8 * k) = 256 ^ k := by rw [Nat.pow_mul]

theorem mul_pow_lt {c k : Nat} (hc : c < 256) (hk : k < 8) : c * 256 ^ k < 18446744073709551616 := by
  have h1 : 256 ^ k ≤ 256 ^ 7 := Nat.pow_le_pow_right (by decide) (by omega)
  have h2 : (256 : Nat) ^ 7 = 72057594037927936 := rfl
  rw [h2] at h1
  have := Nat.mul_le_mul (show c ≤ 255 by omega) h1
  omega

theorem shl_nat {c k : Nat} (hc : c < 256) (hk : k < 8) : IntKind.u64.wrap (IntKind.u64.wrap (c : Int) * 2 ^ (8 * k)) = ((c * 256 ^ k : Nat) : Int) := by
  rw [wrap64_nat c (by omega), show (2 : Int) ^ (8 * k) = ((256 ^ k : Nat) : Int) by rw [← pow8]; simp, ← Int.natCast_mul, wrap64_nat _ (mul_pow_lt hc hk)]

theorem or_step {l : List Nat} (hl : l.length = 8) (hb : ∀ c ∈ l, c < 256) {k : Nat} (hk : k < 8) :
    bits .or .u64 ((joinN (l.take k) : Nat) : Int) (IntKind.u64.wrap (IntKind.u64.wrap ((l.getD k 0 : Nat) : Int) * 2 ^ (8 * k))) = ((joinN (l.take (k + 1)) : Nat) : Int) := by
  have hc : l.getD k 0 < 256 := by
    rw [List.getD_eq_getElem?_getD, List.getElem?_eq_getElem (by omega)]
    exact hb _ (List.getElem_mem _)
  have hj := joinN_lt (take_lt hb k)
  rw [List.length_take, Nat.min_eq_left (by omega)] at hj
  have hp : 256 ^ k ≤ 256 ^ 7 := Nat.pow_le_pow_right (by decide) (by omega)
  rw [show (256 : Nat) ^ 7 = 72057594037927936 from rfl] at hp
  rw [shl_nat hc hk, u64_or_nat _ _ (by omega) (mul_pow_lt hc hk), joinN_take_succ l k (by omega), Nat.or_comm, nat_join (8 * k) _ _ (by rw [pow8]; exact Nat.mul_mod_left _ _) (by rw [pow8]; exact hj), Nat.add_comm]

set_option maxHeartbeats 1000000 in
theorem join_at (l : List Nat) (hl : l.length = 8) (hb : ∀ c ∈ l, c < 256) (w : World) :
    Calls Try.prog 15 #[.agg (u8s l).toArray] w fun e w' => e = .returned (.int .u64 (joinN l : Nat)) ∧ Keeps [] w w' := by
  have hix := fun k hk => index_bytes l hl k hk
  have hld : ∀ wz : World, (∀ j, j < 8 → wz.cell? ⟨w.heap.size, j, none⟩ = (u8s l)[j]?) → (loadVar 34 ⟨w.heap.size, 0, none⟩).run Try.prog wz = .ok (.agg (u8s l).toArray) wz := fun wz hc =>
    run_loadVar_cells w.heap.size 0 (u8s l) Try.underlying34 rfl (by rw [u8s_len, hl]; kernel_rfl) fun j hj => by
      rw [u8s_len, hl] at hj
      rw [Nat.zero_add]
      exact hc j hj
  have HLD := Lib.hid (hld (w.alloc (.cells (u8s l).toArray 34)) fun j hj => by rw [(Blk.new w (u8s l).toArray 34).cell]; simp)
  have HIX := Lib.hid hix
  clear hld hix
  go_enter Try.func15, Try.ntmps15
  go_wp2_with ((with_reducible show wpList _ _ _ (⟨_, .load 34 (.tmp 1), _, _, _, _⟩ :: _) _ _); refine wpList_load_any rfl 34 (.tmp 1) rfl _ rfl _ HLD.out ?_)
  clear HLD
  go_loop [3, 7] (fun s3 s7 => ∃ k : Nat, k ≤ 8 ∧ s7 = .int .i64 (k : Int) ∧ s3 = .int .u64 (joinN (l.take k) : Nat)) (fun _ i => 8 - (intOf i).toNat)
  case atStart => exact ⟨0, by omega, rfl, rfl⟩
  case round =>
    obtain ⟨k, hk, rfl, rfl⟩ := hrel
    by_cases hlt : k < 8
    · have hx := HIX.out k hlt
      have hlt' : (k : Int) < 8 := by omega
      have HO := Lib.hid (or_step hl hb hlt)
      generalize l.getD k 0 = c at *
      go_wp2_with fail
      go_round
      case rel =>
        refine ⟨k + 1, by omega, by go_num, ?_⟩
        rw [← HO.out]
      case measure => simp [intOf]; omega
    · have hlt' : ¬ (k : Int) < 8 := by omega
      obtain rfl : k = 8 := by omega
      rw [List.take_of_length_le (by omega)]
      go_wp2_with fail
      go_ret
      exact ⟨rfl, (Keeps.refl _ _).alloc _⟩

theorem Try.info_bytes : (Try.prog.info? 34).map (·.size) = some 8 := by kernel_rfl

/-- The bytes that Bytes has laid, so far. -/
def bytTo (W k : Nat) : List Nat := (List.range 8).map fun j => if j < k then byt W j else 0

theorem bytTo_all (W : Nat) : bytTo W 8 = byts W := by
  unfold bytTo byts
  apply List.map_congr_left
  intro j hj
  rw [if_pos (by simpa using hj)]

theorem bytTo_set (W k : Nat) (hk : k < 8) : (u8s (bytTo W k)).set k (.int .u8 (byt W k : Nat)) = u8s (bytTo W (k + 1)) := by
  apply List.ext_getElem?
  intro j
  rw [List.getElem?_set]
  simp only [u8s, bytTo, List.getElem?_map, List.length_map, List.length_range]
  by_cases h : k = j
  · subst h
    simp [hk]
  · rw [if_neg h]
    by_cases hj : j < 8
    · simp only [hj, List.getElem?_range, Option.map_some]
      simp only [show j < k + 1 ↔ j < k by omega]
    · simp [hj]

theorem bytTo_len (W k : Nat) : (bytTo W k).length = 8 := by simp [bytTo]

theorem shr_nat (W k : Nat) : (W : Int) / 2 ^ (8 * k) % 256 = ((byt W k : Nat) : Int) := by
  rw [show (2 : Int) ^ (8 * k) = ((256 ^ k : Nat) : Int) by rw [← pow8]; simp]
  rfl

/-- The array's eight cells loaded as a whole. -/
theorem load_bytes {w : World} {b : Nat} {l : List Nat} (hl : l.length = 8) (h : Blk w b (u8s l).toArray 34) : (loadVar 34 ⟨b, 0, none⟩).run Try.prog w = .ok (.agg (u8s l).toArray) w :=
  run_loadVar_cells b 0 (u8s l) Try.underlying34 rfl (by rw [u8s_len, hl]; exact Try.info_bytes) fun j _ => by rw [h.cell]; simp

/-- .. and stored. -/
theorem store_bytes {w : World} {b : Nat} {l m : List Nat} (hl : l.length = 8) (hm : m.length = 8) (h : Blk w b (u8s l).toArray 34) :
    ∃ w', (storeVar 34 ⟨b, 0, none⟩ (.agg (u8s m).toArray)).run Try.prog w = .ok () w' ∧ Blk w' b (u8s m).toArray 34 ∧ Keeps [b] w w' := by
  have hr := run_storeVar_cells (P := Try.prog) (ty := 34) b 0 (u8s m) _ (by rw [u8s_len, hm]; exact Try.info_bytes) h (by simp [u8s_len, hl, hm]) (u8s_one m)
  refine ⟨_, hr, ?_, (Keeps.refl _ _).setRow (by simp) _⟩
  have := setRow_heap _ b _ (List.take 0 (u8s l).toArray.toList ++ u8s m ++ List.drop (0 + (u8s m).length) (u8s l).toArray.toList).toArray _ _ h
  unfold Blk
  rw [this]
  simp [List.drop_of_length_le, u8s_len, hl, hm]

theorem zero_bytes (W : Nat) : (#[.int .u8 0, .int .u8 0, .int .u8 0, .int .u8 0, .int .u8 0, .int .u8 0, .int .u8 0, .int .u8 0] : Array Value) = (u8s (bytTo W 0)).toArray := by
  simp [u8s, bytTo, List.range, List.range.loop]

set_option maxHeartbeats 1000000 in
theorem bytes_at (W : Nat) (w : World) :
    Calls Try.prog 14 #[.int .u64 (W : Int)] w fun e w' => e = .returned (.agg (u8s (byts W)).toArray) ∧ Keeps [] w w' := by
  go_enter Try.func14, Try.ntmps14
  go_wp2_with fail
  go_loopg [5] 8 (fun g s5 wx => ∃ k : Nat, k + g = 8 ∧ s5 = .int .i64 (k : Int) ∧ Hid (Blk wx (w.heap.size + 1) (u8s (bytTo W k)).toArray 34 ∧ Blk wx w.heap.size (u8s (bytTo W 0)).toArray 34 ∧ Keeps [] w wx))
  case atStart =>
    refine ⟨0, by omega, rfl, ?_, ?_, ((Keeps.refl _ _).alloc _).alloc _⟩
    · have := Blk.new (w.alloc (.cells (u8s (bytTo W 0)).toArray 34)) (u8s (bytTo W 0)).toArray 34
      simpa [zero_bytes W] using this
    · have := (Blk.new w (u8s (bytTo W 0)).toArray 34).alloc (.cells (u8s (bytTo W 0)).toArray 34)
      simpa [zero_bytes W] using this
  case round =>
    obtain ⟨k, hk8, rfl, HP⟩ := hrel
    cases gk with
    | zero =>
      obtain rfl : k = 8 := by omega
      have HL := Lib.hid (load_bytes (bytTo_len W 8) HP.out.1)
      obtain ⟨w2, hs, hb, hk⟩ := store_bytes (bytTo_len W 0) (bytTo_len W 8) HP.out.2.1
      have HS := Lib.hid hs
      rw [bytTo_all] at hb
      have HB : Hid (∀ j, j < 8 → w2.cell? ⟨w.heap.size, j, none⟩ = some (.int .u8 (byt W j : Nat))) := fun j hj => by
        rw [hb.cell, ← byts_get W j hj]
        simpa using u8s_get (l := byts W) (j := j) (by rw [byts_len]; omega)
      have HK := Lib.hid (HP.out.2.2.trans hk (by simp))
      clear hs hb hk HP
      rw [bytTo_all] at HL HS
      go_wp2_with (first | ((with_reducible show wpList _ _ _ (⟨_, .load 34 (.tmp 3), _, _, _, _⟩ :: _) _ _); refine wpList_load_any rfl 34 (.tmp 3) rfl _ rfl _ HL.out ?_) | ((with_reducible show wpList _ _ _ (⟨_, .store 34 (.tmp 2) (.tmp 16), _, _, _, _⟩ :: _) _ _); refine wpList_store_any rfl 34 (.tmp 2) (.tmp 16) rfl _ rfl _ rfl _ HS.out ?_))
      have hb := HB.out
      exact bodyPost_ret (v := .agg (u8s (byts W)).toArray) (by simp [results, Try.results14, go_sem, hb 0, hb 1, hb 2, hb 3, hb 4, hb 5, hb 6, hb 7, u8s, byts, List.range, List.range.loop]) rfl ⟨rfl, HK.out⟩
    | succ g =>
      have hlt : (k : Int) < 8 := by omega
      have hc : wr.cell? ⟨w.heap.size + 1, k, none⟩ = some (.int .u8 ((bytTo W k).getD k 0 : Nat)) := by
        rw [HP.out.1.cell]
        simpa using u8s_get (l := bytTo W k) (j := k) (by rw [bytTo_len]; omega)
      have hf : wr.frozen? ⟨w.heap.size + 1, k, none⟩ = false := HP.out.1.frozen _
      generalize (bytTo W k).getD k 0 = c at *
      go_wp2_with fail
      go_roundg g
      case measure => omega
      case rel =>
        refine ⟨k + 1, by omega, by go_num, ?_⟩
        rw [shr_nat]
        refine ⟨?_, HP.out.2.1.other (by simp) _, HP.out.2.2.setCell (.inr (by simp)) _⟩
        have := HP.out.1.set k (.int .u8 (byt W k : Nat))
        rw [List.setIfInBounds_toArray, bytTo_set W k (by omega)] at this
        exact this

end Go.Proofs.Ytjbecchapkjnpaa
