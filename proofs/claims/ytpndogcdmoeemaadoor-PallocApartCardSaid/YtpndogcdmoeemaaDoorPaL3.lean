/-
  Layer 5: the law PallocApart, walked.
-/
import Derived.Test.YtpndogcdmoeemaaDoorPaL1
import Derived.BigQuiet
namespace Go.Proofs.YtpndogcdmoeemaaDoor
open Go.RowKit

/-- What Take leaves, whether it gives out or not. -/
def TakeAny (w : World) (b gp : Nat) (B : List Int) (ps : List (Int × Int)) (n : Nat) (e : Ending) (w' : World) : Prop :=
  ∃ v g l ec qs gp', e = .returned (.tuple #[v, .int .i64 ec]) ∧ Reads w' v g (i64s l) ∧ w.heap.size ≤ g ∧ g ≠ b ∧ g ≠ gp' ∧ Keeps [b, gp] w w' ∧ ShAt w' b gp' B qs ∧ gp' < w'.heap.size ∧ (gp' = gp ∨ w.heap.size ≤ gp') ∧
    In64 (putAll B qs) ∧ freeL (putAll B qs) = (freeL (putAll B ps)).drop l.length ∧ qs.length ≤ ps.length + 2295 ∧ l = (freeL (putAll B ps)).take l.length ∧ l.length ≤ (freeL (putAll B ps)).length ∧
    ((ec = 0 ∧ n ≤ (freeL (putAll B ps)).length) ∨ (ec = 7 ∧ (freeL (putAll B ps)).length < n))

theorem paTake_any {w : World} {b gp : Nat} {B : List Int} {ps : List (Int × Int)} (h : ShAt w b gp B ps) (h64 : In64 (putAll B ps)) (hT : TabAt w) (hgp : gp < w.heap.size) (hps : ps.length ≤ 900000) (n : Nat) :
    Calls Tryd.prog 8 #[.pointer (some ⟨b, 0, none⟩), .int .i64 (n : Int)] w (TakeAny w b gp B ps n) := by
  have hb := h.raw.lt
  by_cases hn : n ≤ (freeL (putAll B ps)).length
  · refine (paTake_ok h h64 hT hgp hps n hn).mono ?_
    rintro e w' ⟨v, g, rfl, hr, hg1, hg2, gp', p1, p2, hs, hk⟩
    obtain ⟨k1, k2, k3⟩ := freeL_take h64 h.raw.lx n
    have hl : ((freeL (putAll B ps)).take n).length = n := by rw [List.length_take, Nat.min_eq_left hn]
    have hz := hk.size
    have hfl := freeL_len (putAll B ps)
    refine ⟨v, g, _, 0, _, gp', rfl, hr, hg1, by omega, fun e => p2 e.symm, hk, hs, by omega, by omega, by rw [putAll_append]; exact k1, by rw [putAll_append, hl]; exact k3, ?_, by rw [hl], by rw [hl]; exact hn, .inl ⟨rfl, hn⟩⟩
    rw [List.length_append, takePs_len _ _ fun c hc => by have := freeTo_mem.1 (List.mem_of_mem_take hc); exact ⟨this.2.1, this.1⟩, hl]
    omega
  · refine (paTake_less h h64 n (by omega)).mono ?_
    rintro e w' ⟨rfl, rfl⟩
    exact ⟨_, w.heap.size, [], 7, ps, gp, rfl, ⟨none, 0, rfl, by simp [i64s], by simp [maxLen], fun h => absurd rfl h⟩, Nat.le_refl _, by omega, by omega, Keeps.refl _ _, h, hgp, .inl rfl, h64, by simp, by omega, by simp, by simp, .inr ⟨rfl, by omega⟩⟩

theorem apart_ne {F X Y : List Nat} (hn : F.Nodup) (hx : X = F.take X.length) (hy : Y = (F.drop X.length).take Y.length) {i k : Nat} (hi : i < X.length) (hk : k < Y.length) : X.getD i 0 ≠ Y.getD k 0 := by
  have h1 : X.getD i 0 ∈ F.take X.length := by
    rw [← hx, List.getD_eq_getElem?_getD, List.getElem?_eq_getElem hi]
    exact List.getElem_mem _
  have h2 : Y.getD k 0 ∈ F.drop X.length := by
    have : Y.getD k 0 ∈ Y := by
      rw [List.getD_eq_getElem?_getD, List.getElem?_eq_getElem hk]
      exact List.getElem_mem _
    have h3 : ∀ y, y ∈ Y → y ∈ F.drop X.length := fun y h => by
      rw [hy] at h
      exact List.mem_of_mem_take h
    exact h3 _ this
  rw [← List.take_append_drop X.length F] at hn
  exact fun e => (List.nodup_append.1 hn).2.2 _ h1 _ h2 e

/-- The numbers of the law's first test. -/
theorem apart_nums {f lx ly f2 : Nat} {a c ec ed : Int} {A C : Nat} (hf : f ≤ 255) (h1 : lx ≤ f) (h2 : ly ≤ f - lx) (h3 : f - lx - ly = f2) (ha : a = (A : Int)) (hc : c = (C : Int)) (hx : (ec = 0 ∧ A ≤ f) ∨ (ec = 7 ∧ f < A)) (hy : (ed = 0 ∧ C ≤ f - lx) ∨ (ed = 7 ∧ f - lx < C)) :
    ((lx : Int) + (ly : Int) + (f2 : Int) != (f : Int)) = false ∧ (f : Int) ≤ 255 ∧ (lx : Int) ≤ 255 ∧ (ly : Int) ≤ 255 ∧ (f2 : Int) ≤ 255 ∧ ((ec = 0 ∧ a ≤ (f : Int) ∧ decide (A ≤ f) = true) ∨ (ec = 7 ∧ ¬ a ≤ (f : Int) ∧ decide (A ≤ f) = false)) ∧ ((ed = 0 ∧ c ≤ (f : Int) - (lx : Int)) ∨ (ed = 7 ∧ ¬ c ≤ (f : Int) - (lx : Int))) := by
  refine ⟨?_, by omega, by omega, by omega, by omega, ?_, by omega⟩
  · have : (lx : Int) + (ly : Int) + (f2 : Int) = (f : Int) := by omega
    rw [this]
    simp
  · rcases hx with ⟨h, k⟩ | ⟨h, k⟩
    · exact .inl ⟨h, by omega, by simpa using k⟩
    · exact .inr ⟨h, by omega, by simp; omega⟩

set_option maxRecDepth 100000 in
set_option maxHeartbeats 4000000 in
theorem paApart_at (ws : List Nat) (hws : ∀ i, ws.getD i 0 < 18446744073709551616) (a c : Nat) (ha : a ≤ 255) (hc : c ≤ 255) (w : World) (hT : TabAt w) :
    Calls Tryd.prog 3 #[.agg (w4 ws), .int .u8 (a : Int), .int .u8 (c : Int)] w fun e w' => e = .returned (.bool true) ∧ Below w.heap.size w w' := by
  have HT := Lib.hid hT
  have HWS := Lib.hid hws
  have HB0 := Lib.hid (Blk.new w (w4 ws) 23)
  have HK0 : Hid (Keeps [] w (w.alloc (.cells (w4 ws) 23))) := (Keeps.refl [] w).alloc _
  have HLOAD := Lib.hid (fun (wx : World) (hb : Blk wx w.heap.size (w4 ws) 23) => load_w4 hb)
  have HSH := Lib.hid (fun wx => sheet_at ws wx)
  clear hT hws
  generalize w4 ws = Z at *
  have HA := Lib.hid (paAwake_at _ (HT.out.keep HK0.out))
  have ha0 : (0 : Int) ≤ (a : Int) := by omega
  have ha1 : (a : Int) ≤ 255 := by omega
  have hc0 : (0 : Int) ≤ (c : Int) := by omega
  have hc1 : (c : Int) ≤ 255 := by omega
  go_enter Tryd.func3, Tryd.ntmps3
  go_wp2_with fail
  refine HA.out.mono ?_; rintro e w1 ⟨rfl, hk1⟩
  have HB1 := Lib.hid (HB0.out.keep hk1 (by simp))
  have HK1 := Lib.hid (HK0.out.trans hk1 (by simp))
  have HL1 := Lib.hid (HLOAD.out w1 HB1.out)
  clear hk1 HB0 HK0 HA
  go_wp2_with ((with_reducible show wpList _ _ _ (⟨_, .load 23 (.tmp 3), _, _, _, _⟩ :: _) _ _); refine wpList_load_any rfl 23 (.tmp 3) rfl _ rfl _ HL1.out ?_)
  refine (HSH.out w1).mono ?_; rintro e w2 ⟨b, rfl, hb0, hs2, hk2⟩
  have HK2 := Lib.hid (HK1.out.trans hk2 (by simp))
  have HLO : Hid (w.heap.size ≤ b) := Nat.le_trans HK1.out.size hb0
  have H64 := Lib.hid (sheetW_64 ws HWS.out)
  have HF := Lib.hid (paFree_at hs2 H64.out)
  have HT1 := Lib.hid (paTake_any hs2 H64.out (HT.out.keep HK2.out) hs2.raw.lt (by simp) a)
  have hb2 := hs2.raw.lt
  clear hk2 hs2 hb0 HB1 HK1 HL1 HLOAD HSH
  have HND := Lib.hid (freeTo_nodup (putAll (sheetW ws) []) 256)
  have HFL : Hid (freeL (putAll (sheetW ws) []) = freeTo (putAll (sheetW ws) []) 256) := rfl
  go_wp2_with fail
  refine HF.out.mono ?_; rintro e w' ⟨rfl, rfl⟩
  go_wp2_with fail
  refine HT1.out.mono ?_
  rintro e w3 ⟨vx, gx, X, ec, qs, gp1, rfl, hrx, x1, x2, x3, x4, x5, x6, x7, x8, x9, x10, x11, x12, x13⟩
  have HK3 : Hid (Keeps [] w w3) := HK2.out.trans x4 fun x hx => by
    have := HLO.out
    simp only [List.mem_cons, List.not_mem_nil, or_false] at hx
    omega
  have HT2 := Lib.hid (paTake_any x5 x8 (HT.out.keep HK3.out) x6 (by simp only [List.length_nil] at x10; omega) c)
  have HX9 := Lib.hid x9
  have HX11 := Lib.hid x11
  have HRX := Lib.hid hrx
  clear HT1 HF x4 x5 x8 x9 x10 x11 hrx
  go_wp2_with fail
  refine HT2.out.mono ?_
  rintro e w4 ⟨vy, gy, Y, ed, rs, gp2, rfl, hry, y1, y2, y3, y4, y5, y6, y7, y8, y9, y10, y11, y12, y13⟩
  have hz2 := HK2.out.size
  have HK4 : Hid (Keeps [] w w4) := HK3.out.trans y4 fun x hx => by
    have := HLO.out
    simp only [List.mem_cons, List.not_mem_nil, or_false] at hx
    omega
  have HRX4 : Hid (Reads w4 vx gx (i64s X)) := HRX.out.keep y4 (by simp only [List.mem_cons, List.not_mem_nil, or_false]; omega)
  have HF2 := Lib.hid (paFree_at y5 y8)
  rw [HX9.out] at y9 y11 y12 y13
  rw [y9] at HF2
  have HNE : Hid (∀ i k, i < X.length → k < Y.length → X.getD i 0 ≠ Y.getD k 0) := fun i k hi hk => apart_ne HND.out HX11.out y11 hi hk
  obtain ⟨ax, capx, rfl, p1, p2, HCX⟩ := ints_cell HRX4.out
  obtain ⟨ay, capy, rfl, q1, q2, HCY⟩ := ints_cell hry
  rw [List.length_drop] at y12 y13
  rw [List.length_drop, List.length_drop] at HF2
  clear HT2 HRX HX9 HX11 HFL HND y4 y5 y6 y7 y8 y9 y10 y11 hry HRX4 x6 x7 y1 y2 y3 x1 x2 x3
  have hfl := freeL_len (putAll (sheetW ws) [])
  generalize (freeL (putAll (sheetW ws) [])).length = f at *
  generalize hlx : X.length = lx at *
  generalize hly : Y.length = ly at *
  have HLX := Lib.hid hlx
  have HLY := Lib.hid hly
  clear hlx hly
  obtain ⟨f2, hf2⟩ : ∃ f2, f - lx - ly = f2 := ⟨_, rfl⟩
  rw [hf2] at HF2
  obtain ⟨es, bf, blx, bly, bf2, he, hd⟩ := apart_nums hfl x12 y12 hf2 (a := (a : Int)) (c := (c : Int)) rfl rfl x13 y13
  clear x13 y13 x12 y12 hf2 hfl
  unfold maxLen at p2 q2
  rcases he with ⟨rfl, he, heb⟩ | ⟨rfl, he, heb⟩ <;> rcases hd with ⟨rfl, hd⟩ | ⟨rfl, hd⟩
  all_goals
    go_wp2_with fail
    refine HF2.out.mono ?_; rintro e w' ⟨rfl, rfl⟩
    go_wp2_with fail
    go_loopg [13] lx (fun gh s13 wx => ∃ i : Nat, i + gh = lx ∧ s13 = .int .i64 (i : Int) ∧ Hid (Keeps [] w4 wx))
    case atStart => exact ⟨0, by omega, rfl, Keeps.refl _ _⟩
    case round =>
      obtain ⟨i, hi, rfl, HR⟩ := hrel
      cases gk with
      | zero =>
        obtain rfl : i = lx := by omega
        have hlt : ¬ (i : Int) < (i : Int) := by omega
        have HB : Hid (Below w.heap.size w wr) := (HK4.out.trans HR.out (by simp)).below (Nat.le_refl _) (by simp)
        clear hi
        go_wp2_with fail
        go_ret
        exact ⟨rfl, HB.out⟩
      | succ gg =>
        have hi1 : i < lx := by omega
        have hlt : (i : Int) < (lx : Int) := by omega
        have hi0 : (0 : Int) ≤ (i : Int) := by omega
        go_wp2_with fail
        go_loopg [14] ly (fun gh s14 wx => ∃ k : Nat, k + gh = ly ∧ s14 = .int .i64 (k : Int) ∧ Hid (Keeps [] w4 wx))
        case atStart => exact ⟨0, by omega, rfl, HR.out⟩
        case round =>
          clear HR
          obtain ⟨k, hk, rfl, HR⟩ := hrel
          cases gk with
          | zero =>
            obtain rfl : k = ly := by omega
            have hltk : ¬ (k : Int) < (k : Int) := by omega
            clear hk
            go_wp2_with fail
            go_roundg gg
            case measure => omega
            case rel => exact ⟨i + 1, by omega, by go_num, HR.out⟩
          | succ g2 =>
            have hk1 : k < ly := by omega
            have hltk : (k : Int) < (ly : Int) := by omega
            have hk0 : (0 : Int) ≤ (k : Int) := by omega
            obtain ⟨gx1, offx, rfl, cx⟩ := HCX.out i hi1
            obtain ⟨gy1, offy, rfl, cy⟩ := HCY.out k hk1
            have cx2 : wr.cell? ⟨gx, offx + i, none⟩ = some (.int .i64 ((X.getD i 0 : Nat) : Int)) := (World.cell?_of_block (w := w4) (a := ⟨gx, offx + i, none⟩) (HR.out.block gx gx1 (by simp))).trans cx
            have cy2 : wr.cell? ⟨gy, offy + k, none⟩ = some (.int .i64 ((Y.getD k 0 : Nat) : Int)) := (World.cell?_of_block (w := w4) (a := ⟨gy, offy + k, none⟩) (HR.out.block gy gy1 (by simp))).trans cy
            have hne := HNE.out i k hi1 hk1
            clear cx cy gx1 gy1
            generalize X.getD i 0 = x at *
            generalize Y.getD k 0 = y at *
            have e1 : ((x : Int) == (y : Int)) = false := by simp; omega
            have e2 : (x == y) = false := by simpa using hne
            clear hne
            go_wp2_with fail
            go_quiet (fail)
            go_wp2_with fail
            go_roundg g2
            case measure => omega
            case rel => exact ⟨k + 1, by omega, by go_num, HR.out.drewN _⟩

end Go.Proofs.YtpndogcdmoeemaaDoor
