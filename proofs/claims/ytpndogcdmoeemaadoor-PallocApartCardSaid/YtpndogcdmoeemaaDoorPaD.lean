/-
  Layer 5 (palloc): what puts leave (Onto), empty, Free.
-/
import Derived.Test.YtpndogcdmoeemaaDoorPaC
import Derived.BigRegion
import Derived.Deep.LoopGhost
namespace Go.Proofs.YtpndogcdmoeemaaDoor
open Go.RowKit

/-- The sheet has these puts now; its notes may lie elsewhere. -/
def Onto (w : World) (b gp : Nat) (B : List Int) (ps : List (Int × Int)) (w' : World) : Prop :=
  ∃ gp', (gp' = gp ∨ (w.heap.size ≤ gp' ∧ gp' < w'.heap.size)) ∧ ShAt w' b gp' B ps ∧ Keeps [b, gp] w w'

theorem Onto.refl {w : World} {b gp : Nat} {B : List Int} {ps : List (Int × Int)} (h : ShAt w b gp B ps) : Onto w b gp B ps w := ⟨gp, .inl rfl, h, Keeps.refl _ _⟩

theorem Onto.post {w w' : World} {b gp : Nat} {B : List Int} {ps : List (Int × Int)} (h : Onto w b gp B ps w') : PutPost w b gp B ps (.returned (.tuple #[])) w' := ⟨rfl, h⟩

/-- Further puts. -/
theorem Onto.trans {w w1 w2 : World} {b gp gp1 : Nat} {B : List Int} {qs : List (Int × Int)} (hg : gp1 = gp ∨ (w.heap.size ≤ gp1 ∧ gp1 < w1.heap.size)) (hk : Keeps [b, gp] w w1) (h : Onto w1 b gp1 B qs w2) : Onto w b gp B qs w2 := by
  obtain ⟨gp2, h1, h2, h3⟩ := h
  have z1 := hk.size
  have z2 := h3.size
  refine ⟨gp2, by omega, h2, hk.trans h3 fun x hx => ?_⟩
  simp only [List.mem_cons, List.not_mem_nil, or_false] at hx ⊢
  omega

theorem Onto.mono {w w1 w2 : World} {b gp : Nat} {B : List Int} {qs : List (Int × Int)} (hk : Keeps [] w w1) (hgp : gp < w.heap.size) (h : Onto w1 b gp B qs w2) : Onto w b gp B qs w2 := by
  obtain ⟨gp2, h1, h2, h3⟩ := h
  have z1 := hk.size
  exact ⟨gp2, by omega, h2, (hk.mono (by simp)).trans h3 fun x hx => .inl hx⟩

theorem emptyPut (ps : List (Int × Int)) (c k : Nat) (hc : c < 256) (hk : k < 8) : putN (ps ++ emptyTo c k) ((1080 + c * 8 + k : Nat) : Int) 0 = ps ++ emptyTo c (k + 1) := by
  unfold putN
  rw [if_pos (inB_iff.2 ⟨by omega, by omega⟩), emptyTo_succ, List.append_assoc]

set_option maxHeartbeats 1000000 in
theorem paEmpty_at {w : World} {b gp : Nat} {B : List Int} {ps : List (Int × Int)} (h : ShAt w b gp B ps) (hn : ps.length ≤ 999000) (c : Nat) (hc : c < 256) :
    Calls Tryd.prog 17 #[.pointer (some ⟨b, 0, none⟩), .int .i64 (c : Int)] w (PutPost w b gp B (ps ++ emptyPs c)) := by
  have HS := Lib.hid h
  have HN := Lib.hid hn
  have HBL : ∀ w', Hid (Calls Tryd.prog 24 #[.int .i64 (c : Int)] w' fun e w'' => e = .returned (.int .i64 ((1080 + c * 8 : Nat) : Int)) ∧ w' = w'') := fun w' => by
    have := txBlock_at (c : Int) w'
    rw [show blockN (c : Int) = ((1080 + c * 8 : Nat) : Int) by unfold blockN; rw [if_neg (by omega)]; omega] at this
    exact this
  clear h hn
  go_enter Tryd.func17, Tryd.ntmps17
  go_wp2_with fail
  go_loopg [5] 8 (fun gh s5 wx => ∃ k : Nat, k + gh = 8 ∧ s5 = .int .i64 (k : Int) ∧ Hid (Onto w b gp B (ps ++ emptyTo c k) wx))
  case atStart => exact ⟨0, by omega, rfl, by show Onto _ _ _ _ _ _; rw [show emptyTo c 0 = [] from rfl, List.append_nil]; exact Onto.refl HS.out⟩
  case round =>
    obtain ⟨k, hk, rfl, HR⟩ := hrel
    cases gk with
    | zero =>
      obtain rfl : k = 8 := by omega
      clear hk
      go_wp2_with fail
      go_end0
      exact Onto.post HR.out
    | succ gg =>
      have hk8 : k < 8 := by omega
      have hlt : (k : Int) < 8 := by omega
      have hk0 : (0 : Int) ≤ (k : Int) := by omega
      have HP : Hid (∀ x : Int, x = ((1080 + c * 8 + k : Nat) : Int) → Calls Tryd.prog 22 #[.pointer (some ⟨b, 0, none⟩), .int .i64 x, .int .u64 0] wr fun e w' => e = .returned (.tuple #[]) ∧ Hid (Onto w b gp B (ps ++ emptyTo c (k + 1)) w')) := by
        intro x hx
        subst hx
        obtain ⟨gp1, h1, h2, h3⟩ := HR.out
        refine (txPut_at h2 (by rw [List.length_append, emptyTo_len]; have := HN.out; omega) _ 0).mono ?_
        rintro e w' ⟨rfl, h4⟩
        rw [emptyPut ps c k hc hk8] at h4
        exact ⟨rfl, Onto.trans h1 h3 h4⟩
      have HB := HBL wr
      clear HR HBL
      go_wp2_with fail
      refine HB.out.mono ?_; rintro e w' ⟨rfl, rfl⟩
      go_wp2_with fail
      refine (HP.out _ (by omega)).mono ?_; rintro e w' ⟨rfl, HQ⟩
      go_wp2_with fail
      go_roundg gg
      case measure => omega
      case rel => exact ⟨k + 1, by omega, by go_num, HQ⟩

theorem freeTo_le (X : List Int) (n : Nat) : (freeTo X n).length ≤ n := by
  unfold freeTo
  have := List.length_filter_le (fun b => b != 0 && !usedN X b) (List.range n)
  simpa using this

set_option maxHeartbeats 1000000 in
theorem paFree_at {w : World} {b gp : Nat} {B : List Int} {ps : List (Int × Int)} (h : ShAt w b gp B ps) (h64 : In64 (putAll B ps)) :
    Calls Tryd.prog 7 #[.pointer (some ⟨b, 0, none⟩)] w fun e w' => e = .returned (.int .i64 (((freeL (putAll B ps)).length : Nat) : Int)) ∧ w = w' := by
  have HS := Lib.hid h
  have H64 := Lib.hid h64
  clear h h64
  go_enter Tryd.func7, Tryd.ntmps7
  go_wp2_with fail
  go_loop [3, 5] (fun s3 s5 => ∃ k : Nat, k ≤ 4 ∧ s5 = .int .i64 (k : Int) ∧ s3 = .int .i64 (((freeTo (putAll B ps) (64 * k)).length : Nat) : Int)) (fun _ s5 => 4 - (intOf s5).toNat)
  case atStart => exact ⟨0, by omega, rfl, rfl⟩
  case round =>
    obtain ⟨k, hk, rfl, rfl⟩ := hrel
    by_cases hlt : k < 4
    · have hlt' : (k : Int) < 4 := by omega
      have hk0 : (0 : Int) ≤ (k : Int) := by omega
      have HL := Lib.hid (freeTo_len H64.out k)
      have hle := freeTo_le (putAll B ps) (64 * k)
      have hle2 := freeTo_le (putAll B ps) (64 * (k + 1))
      have e := HL.out
      have HI := Lib.hid (paFreeIn_at HS.out H64.out k hlt)
      have HO := Lib.hid (ones_at (frW (putAll B ps) k) (frW_lt (putAll B ps) k) w)
      have ho : ones 64 (frW (putAll B ps) k) ≤ 256 := by omega
      rw [e] at hle2
      clear e hle2
      generalize ones 64 (frW (putAll B ps) k) = o at *
      generalize hf : frW (putAll B ps) k = f at *
      clear hf
      generalize hq : (freeTo (putAll B ps) (64 * k)).length = q at *
      clear hq
      go_wp2_with fail
      refine HI.out.mono ?_; rintro e w' ⟨rfl, rfl⟩
      go_wp2_with fail
      refine HO.out.mono ?_; rintro e w' ⟨rfl, rfl⟩
      go_wp2_with fail
      go_round
      case rel => exact ⟨k + 1, by omega, by go_num, by rw [HL.out]; go_num⟩
      case measure => simp [intOf]; omega
    · obtain rfl : k = 4 := by omega
      go_wp2_with fail
      go_ret
      exact ⟨rfl, rfl⟩

end Go.Proofs.YtpndogcdmoeemaaDoor
