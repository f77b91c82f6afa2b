/-
  Layer 2 (pack): Word, Name; the reference's Word and Byte.
-/
import Derived.Test.YtjbecchapkjnpaaPkC
import Derived.Lib.BufferWrite
import Derived.Laws.IdiomStrings
namespace Go.Proofs.Ytjbecchapkjnpaa
open Go.RowKit

/-- The string of such bytes. -/
def strN (l : List Nat) : ByteArray := ⟨(l.map UInt8.ofNat).toArray⟩

theorem bl_strN {l : List Nat} (h : ∀ c ∈ l, c < 256) : bl (strN l) = l := by
  simp only [bl, strN, List.map_map]
  conv => rhs; rw [← List.map_id l]
  apply List.map_congr_left
  intro c hc
  simp [Nat.mod_eq_of_lt (h c hc)]

theorem strN_bl (s : ByteArray) : strN (bl s) = s := bl_inj (bl_strN (bl_lt s))

theorem strN_size (l : List Nat) : (strN l).size = l.length := by simp [strN, ByteArray.size]

theorem Try.info_byte : (Try.prog.info? 5).map (·.size) = some 1 := by kernel_rfl

/-- What Word tells of a text. -/
def wordV (l : List Nat) : Nat := if goodN l = true then wordN l else 0

theorem pad_set {l : List Nat} (h : l.length ≤ 7) : (u8s (l ++ List.replicate (8 - l.length) 0)).set 7 (.int .u8 (l.length : Int)) = u8s (padN l) := by
  have e : List.replicate (8 - l.length) 0 = List.replicate (7 - l.length) 0 ++ [0] := by rw [show 8 - l.length = 7 - l.length + 1 by omega, List.replicate_succ']
  rw [e, ← List.append_assoc, padN]
  generalize hA : l ++ List.replicate (7 - l.length) 0 = A
  have hl : A.length = 7 := by rw [← hA]; simp; omega
  simp only [u8s, List.map_append, List.map_cons, List.map_nil]
  rw [List.set_append_right _ _ (by simp [hl])]
  simp [hl]

theorem copied {w : World} {b : Nat} {s : ByteArray} (h : s.size ≤ 7) (hb : Blk w b (u8s (List.replicate 8 0)).toArray 34) : ∃ w',
    (Builtin.copy_ #[39, 9] 3 #[.slice (some ⟨b, 0, none⟩) 8 8, .string s]).run Try.prog w = .ok (goInt s.size) w' ∧ Blk w' b (u8s (bl s ++ List.replicate (8 - s.size) 0)).toArray 34 ∧ Keeps [b] w w' := by
  have hr := Lib.run_copy_row_string (P := Try.prog) w 39 9 3 5 b 0 8 8 s _ _ Try.underlying39 Try.info_byte hb (by omega) (by simp [u8s]; omega)
  refine ⟨_, hr, ?_, (Keeps.refl _ _).setRow (by simp) _⟩
  unfold Blk
  rw [setRow_heap _ b _ _ _ _ hb]
  have e1 : List.take 0 (u8s (List.replicate 8 0)).toArray.toList ++ Lib.byteCells s.data.toList ++ List.drop (0 + s.size) (u8s (List.replicate 8 0)).toArray.toList = u8s (bl s ++ List.replicate (8 - s.size) 0) := by
    have e2 : u8s (List.replicate 8 0) = List.replicate 8 (Value.int .u8 0) := by simp only [u8s, List.map_replicate]; rfl
    rw [e2, Nat.zero_add, List.take_zero, List.nil_append, List.drop_replicate]
    simp only [u8s, bl, Lib.byteCells, List.map_append, List.map_map, List.map_replicate]
    rfl
  rw [e1]

theorem wpList_copy_any {P : Program} {w : World} {ops : Array Oper} {rest : List Oper} {o : Oper} {a : Act} {Q : Exit → Act → World → Prop} (hgd : o.guard = none) (d x : Operand) (t t' : TypeId)
    (ho : o.op = .call { callee := .builtin .copy, args := #[d, x], argTypes := #[t, t'] }) (v u : Value) (hd : a.eval d = v) (hx : a.eval x = u) {v' : Value} {w' : World}
    (hr : (Builtin.copy_ #[t, t'] o.type #[v, u]).run P w = .ok v' w') (h : wpList P ops Q rest (a.put o.dst v') w') : wpList P ops Q (o :: rest) a w :=
  wpList_plain hgd fun _ hK => by
    unfold Oper.wp execOp
    simp only [ho, resolve, invoke, builtin, Sem.run_bind, Sem.run_pure, Result.andThen_ok, List.map_toArray, List.map_cons, List.map_nil, hd, hx, hr]
    exact hK _ _ h

theorem zero_eight : (#[.int .u8 0, .int .u8 0, .int .u8 0, .int .u8 0, .int .u8 0, .int .u8 0, .int .u8 0, .int .u8 0] : Array Value) = (u8s (List.replicate 8 0)).toArray := rfl

set_option maxHeartbeats 1000000 in
theorem word_at (s : ByteArray) (hs : s.size ≤ 9223372036854775807) (w : World) : Calls Try.prog 7 #[.string s] w fun e w' => e = .returned (.tuple #[.int .u64 (wordV (bl s) : Nat), .bool (goodN (bl s))]) ∧ Keeps [] w w' := by
  have HG := Lib.hid (good_at s hs w)
  unfold wordV
  cases hg : goodN (bl s)
  · rw [hg] at HG
    clear hg
    go_enter Try.func7, Try.ntmps7
    go_wp2_with (go_at_call 8; refine HG.out.mono ?_; rintro e w' ⟨rfl, rfl⟩)
    go_ret2
    exact ⟨rfl, Keeps.refl _ _⟩
  · rw [hg] at HG
    rw [if_pos rfl]
    obtain ⟨l1, l2⟩ := goodN_len hg
    rw [bl_len] at l1 l2
    clear hg
    obtain ⟨w2, hc, hb, hk⟩ := copied l2 (Blk.new w (u8s (List.replicate 8 0)).toArray 34)
    have hc7 : w2.cell? ⟨w.heap.size, 7, none⟩ = some (.int .u8 ((bl s ++ List.replicate (8 - s.size) 0).getD 7 0 : Nat)) := by
      rw [hb.cell]
      simpa using u8s_get (l := bl s ++ List.replicate (8 - s.size) 0) (j := 7) (by simp [bl_len]; omega)
    have hf7 : w2.frozen? ⟨w.heap.size, 7, none⟩ = false := hb.frozen 7
    have hb3 := hb.set 7 (.int .u8 (s.size : Int))
    rw [List.setIfInBounds_toArray, ← bl_len, pad_set (by rw [bl_len]; exact l2), bl_len] at hb3
    have HL := Lib.hid (load_bytes (padN_len (by rw [bl_len]; exact l2)) hb3)
    have HC := Lib.hid hc
    have HK := Lib.hid ((((Keeps.refl [] w).alloc (.cells (u8s (List.replicate 8 0)).toArray 34)).trans hk (by simp)).setCell (p := ⟨w.heap.size, 7, none⟩) (.inr (Nat.le_refl _)) (.int .u8 (s.size : Int)))
    have HJ := fun wz => join_at (padN (bl s)) (padN_len (by rw [bl_len]; exact l2)) (padN_lt (by rw [bl_len]; exact l2) (bl_lt s)) wz
    rw [joinN_padN (by rw [bl_len]; exact l2)] at HJ
    have HJ := Lib.hid HJ
    generalize (bl s ++ List.replicate (8 - s.size) 0).getD 7 0 = c at *
    clear hc hb hb3 hk
    go_enter Try.func7, Try.ntmps7
    go_wp2_with (first | (go_at_call 8; refine HG.out.mono ?_; rintro e w' ⟨rfl, rfl⟩) | ((with_reducible show wpList _ _ _ (⟨some 10, _, _, _, _, _⟩ :: _) _ _); refine wpList_copy_any rfl (.tmp 8) (.tmp 9) 39 9 rfl _ _ rfl rfl HC.out ?_) | ((with_reducible show wpList _ _ _ (⟨_, .load 34 (.tmp 4), _, _, _, _⟩ :: _) _ _); refine wpList_load_any rfl 34 (.tmp 4) rfl _ rfl _ HL.out ?_) | (go_at_call 15; refine (HJ.out _).mono ?_; rintro e w' ⟨rfl, hk4⟩; have HK4 := Lib.hid hk4; clear hk4))
    go_ret2
    exact ⟨rfl, HK.out.trans HK4.out (by simp)⟩

end Go.Proofs.Ytjbecchapkjnpaa
