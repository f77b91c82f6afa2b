/-
  Layer 5 (palloc): Take.
-/
import Derived.Test.YtpndogcdmoeemaaDoorPaE
namespace Go.Proofs.YtpndogcdmoeemaaDoor
open Go.RowKit

set_option maxHeartbeats 1000000 in
theorem paTake_less {w : World} {b gp : Nat} {B : List Int} {ps : List (Int × Int)} (h : ShAt w b gp B ps) (h64 : In64 (putAll B ps)) (n : Nat) (hn : (freeL (putAll B ps)).length < n) :
    Calls Tryd.prog 8 #[.pointer (some ⟨b, 0, none⟩), .int .i64 (n : Int)] w fun e w' => e = .returned (.tuple #[.slice none 0 0, .int .i64 7]) ∧ w = w' := by
  have HF := Lib.hid (paFree_at h h64)
  generalize (freeL (putAll B ps)).length = f at *
  have h0 : ¬ (n : Int) < 0 := by omega
  have h1 : (f : Int) < (n : Int) := by omega
  clear h h64
  go_enter Tryd.func8, Tryd.ntmps8
  go_wp2_with fail
  refine HF.out.mono ?_; rintro e w' ⟨rfl, rfl⟩
  go_wp2_with fail
  go_ret2
  exact ⟨rfl, rfl⟩

/-- What Take leaves that gives out. -/
def TakePost (w : World) (b gp : Nat) (B : List Int) (ps : List (Int × Int)) (l : List Nat) (e : Ending) (w' : World) : Prop :=
  ∃ v g, e = .returned (.tuple #[v, .int .i64 0]) ∧ Reads w' v g (i64s l) ∧ w.heap.size ≤ g ∧ g < w'.heap.size ∧ (∃ gp', (gp' = gp ∨ (w.heap.size ≤ gp' ∧ gp' < w'.heap.size)) ∧ gp' ≠ g ∧ ShAt w' b gp' B (ps ++ takePs (putAll B ps) l) ∧ Keeps [b, gp] w w')

theorem takePs_take_succ (X : List Int) (l : List Nat) (k : Nat) (hk : k < l.length) : takePs X (l.take (k + 1)) = takePs X (l.take k) ++ (setPs (putAll X (takePs X (l.take k))) (l.getD k 0) true ++ emptyPs (l.getD k 0)) := by
  rw [List.take_succ_eq_append_getElem hk, takePs_snoc]
  simp [List.getD_eq_getElem?_getD, hk]

set_option maxRecDepth 100000 in
set_option maxHeartbeats 4000000 in
theorem paTake_ok {w : World} {b gp : Nat} {B : List Int} {ps : List (Int × Int)} (h : ShAt w b gp B ps) (h64 : In64 (putAll B ps)) (hT : TabAt w) (hgp : gp < w.heap.size) (hps : ps.length ≤ 900000) (n : Nat) (hn : n ≤ (freeL (putAll B ps)).length) :
    Calls Tryd.prog 8 #[.pointer (some ⟨b, 0, none⟩), .int .i64 (n : Int)] w (TakePost w b gp B ps ((freeL (putAll B ps)).take n)) := by
  have HF := Lib.hid (paFree_at h h64)
  have hfl := freeL_len (putAll B ps)
  have HFF := Lib.hid (paFirstFree_at h h64 hT n (by omega))
  have HIN : Hid (∀ c ∈ (freeL (putAll B ps)).take n, c ≠ 0 ∧ c < 256) := fun c hc => by
    have := freeTo_mem.1 (List.mem_of_mem_take hc)
    exact ⟨this.2.1, this.1⟩
  have HLEN : Hid (((freeL (putAll B ps)).take n).length = n) := by show _ = _; rw [List.length_take, Nat.min_eq_left hn]
  have HS := Lib.hid h
  have H64 := Lib.hid h64
  have HLX : Hid ((putAll B ps).length = 3128) := h.raw.lx
  have hbl := h.raw.lt
  have HPS := Lib.hid hps
  generalize (freeL (putAll B ps)).take n = l at *
  generalize (freeL (putAll B ps)).length = f at *
  clear h h64 hT hps
  have h0 : ¬ (n : Int) < 0 := by omega
  have h1 : ¬ (f : Int) < (n : Int) := by omega
  go_enter Tryd.func8, Tryd.ntmps8
  go_wp2_with fail
  refine HF.out.mono ?_; rintro e w' ⟨rfl, rfl⟩
  go_wp2_with fail
  refine HFF.out.mono ?_; rintro e w1 ⟨v, g, rfl, hr, hg1, hg2, hk1⟩
  clear HF HFF h1 h0
  have hrv := hr
  obtain ⟨a, cap, rfl, q1, q2, -⟩ := hrv
  rw [i64s_len, HLEN.out] at hr ⊢
  rw [i64s_len, HLEN.out] at q1
  have HR := Lib.hid hr
  have HK1 := Lib.hid hk1
  have hz := hk1.size
  clear hr hk1
  unfold maxLen at q2
  go_wp2_with fail
  go_loopg [20] n (fun gh s20 wx => ∃ k : Nat, k + gh = n ∧ s20 = .int .i64 (k : Int) ∧ Hid (Onto w1 b gp B (ps ++ takePs (putAll B ps) (l.take k)) wx))
  case atStart => exact ⟨0, by omega, rfl, by show Onto _ _ _ _ _ _; rw [List.take_zero, show takePs (putAll B ps) [] = [] from rfl, List.append_nil]; exact Onto.refl (HS.out.keep HK1.out (by simp) (by simp))⟩
  case round =>
    obtain ⟨k, hk, rfl, HQ⟩ := hrel
    have hgne : ∀ x, x ∈ [b, gp] → g ≠ x := by
      intro x hx
      simp only [List.mem_cons, List.not_mem_nil, or_false] at hx
      omega
    obtain ⟨gp1, p1, p2, p3⟩ := HQ.out
    have HR1 := Lib.hid (HR.out.keep p3 (fun hm => hgne g hm rfl))
    have hz1 := p3.size
    cases gk with
    | zero =>
      obtain rfl : k = n := by omega
      have HM : Hid (TakePost w b gp B ps l (.returned (.tuple #[.slice a k cap, .int .i64 0])) wr) := by
        rw [List.take_of_length_le (by rw [HLEN.out]; omega)] at p2
        exact ⟨_, g, rfl, HR1.out, hg1, by omega, gp1, by omega, by omega, p2, (HK1.out.mono (by simp)).trans p3 fun x hx => .inl hx⟩
      have hlt : ¬ (k : Int) < (k : Int) := by omega
      clear p1 p2 p3 hgne hk
      go_wp2_with fail
      go_ret2
      exact HM.out
    | succ gg =>
      have hkn : k < n := by omega
      have hlt : (k : Int) < (n : Int) := by omega
      have hk0 : (0 : Int) ≤ (k : Int) := by omega
      have hkl : k < l.length := by rw [HLEN.out]; exact hkn
      have hc := HIN.out (l.getD k 0) (by rw [List.getD_eq_getElem?_getD, List.getElem?_eq_getElem hkl]; exact List.getElem_mem _)
      have hst := takePs_state (l.take k) (putAll B ps) H64.out HLX.out fun c hc => HIN.out c (List.mem_of_mem_take hc)
      have hpl := takePs_len (l.take k) (putAll B ps) fun c hc => HIN.out c (List.mem_of_mem_take hc)
      have hll : (l.take k).length ≤ 255 := by rw [List.length_take]; omega
      have HTS := Lib.hid (takePs_take_succ (putAll B ps) l k hkl)
      obtain ⟨a', cap', hv', r1, r2, r3⟩ := HR1.out
      cases hv'
      obtain ⟨hg3, off, rfl, r4⟩ := r3 (by intro e; have := congrArg List.length e; rw [i64s_len, List.length_nil] at this; omega)
      have hcell := (r4 k (by rw [i64s_len]; exact hkl)).trans (i64s_get hkl)
      generalize l.getD k 0 = c at *
      have HSET : Hid (Calls Tryd.prog 11 #[.pointer (some ⟨b, 0, none⟩), .int .i64 (c : Int), .bool true] wr (PutPost wr b gp1 B ((ps ++ takePs (putAll B ps) (l.take k)) ++ setPs (putAll (putAll B ps) (takePs (putAll B ps) (l.take k))) c true))) := by
        have := paSet_at p2 (by rw [putAll_append]; exact hst.1) (by rw [List.length_append, hpl]; have := HPS.out; omega) (c : Int) true
        rw [putAll_append, Int.toNat_natCast] at this
        exact this
      have HEM : ∀ (w' : World) (gp' : Nat), ShAt w' b gp' B ((ps ++ takePs (putAll B ps) (l.take k)) ++ setPs (putAll (putAll B ps) (takePs (putAll B ps) (l.take k))) c true) → Hid (Calls Tryd.prog 17 #[.pointer (some ⟨b, 0, none⟩), .int .i64 (c : Int)] w' (PutPost w' b gp' B (ps ++ takePs (putAll B ps) (l.take (k + 1))))) := by
        intro w' gp' hsh
        have := paEmpty_at hsh (by rw [List.length_append, List.length_append, hpl, setPs_len _ c hc.1 hc.2]; have := HPS.out; omega) c hc.2
        rw [HTS.out]
        show Calls _ _ _ _ _
        simpa only [List.append_assoc] using this
      have P1 := Lib.hid p1
      have P3 := Lib.hid p3
      have HEMH := Lib.hid HEM
      clear p1 p2 p3 hgne hc hst hpl hll r1 r2 r3 r4 hkl HR1 HQ HEM
      go_wp2_with fail
      refine HSET.out.mono ?_; rintro e w2 ⟨rfl, gp2, s1, s2, s3⟩
      have HE := (HEMH.out w2 gp2 s2)
      have S1 := Lib.hid s1
      have S3 := Lib.hid s3
      clear s1 s2 s3 HEMH HSET
      go_wp2_with fail
      refine HE.out.mono ?_; rintro e w3 ⟨rfl, t1⟩
      have HO : Hid (Onto w1 b gp B (ps ++ takePs (putAll B ps) (l.take (k + 1))) w3) := Onto.trans P1.out P3.out (Onto.trans S1.out S3.out t1)
      clear t1
      go_wp2_with fail
      go_roundg gg
      case measure => omega
      case rel => exact ⟨k + 1, by omega, by go_num, HO⟩

end Go.Proofs.YtpndogcdmoeemaaDoor
