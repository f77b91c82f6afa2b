/-
  Layer 6, the reference: Right. Layer 6: the laws' sheet. Layer 4 (tx): Words. Layer 4 (tx): Mark. Layer 6: the law Fmt1Lays. An array of thirteen numbers as an argument is read. An inode (api.Inode), and a list of its entries, as an argument is read; so pairs.
-/
import Derived.Test.YtmhcnkjmnbnldaaDoorG05
import Derived.Test.YtmhcnkjmnbnldaaDoorG06
import Derived.BigQuiet
import Derived.Test.YtmhcnkjmnbnldaaDoorG03
import Derived.Test.YtmhcnkjmnbnldaaDoorG00
import Derived.Test.YtmhcnkjmnbnldaaDoorG08
namespace Go.Proofs.YtmhcnkjmnbnldaaDoor
open Go.RowKit

/-- What the reference asks of each number. -/
def NumR (n : Ino) (k : Nat) : Prop := (0 ≤ n.B.getD k 0 ∧ n.B.getD k 0 ≤ 255) ∧ (0 < n.B.getD k 0 → n.K ≠ 2 ∧ 64 * (k : Int) < n.S ∧ ∀ j, j < k → n.B.getD j 0 ≠ n.B.getD k 0)

theorem right_num {n : Ino} (hB : n.B.length = 13) (h : RightP n) : ∀ k, k < 13 → NumR n k := by
  intro k hk
  rcases h.2.2 with ⟨hK, h1, h2, h3, h4⟩ | ⟨hK, h1, h2, h3, h4⟩
  · have h5 := h4 k hk
    refine ⟨by omega, fun h0 => ⟨by omega, ?_, fun j hj => h5.2 (by omega) j hj⟩⟩
    rcases Nat.lt_or_ge k (partsN n.S.toNat) with hp | hp
    · unfold partsN at hp; omega
    · have hp13 : partsN n.S.toNat ≤ 13 := by unfold partsN; omega
      rw [h3, uptoL_get hB hp13, if_neg (by omega)] at h0
      omega
  · have e : n.B.getD k 0 = 0 := by
      rw [h3, List.getD_eq_getElem?_getD, List.getElem?_replicate]
      split <;> rfl
    exact ⟨by omega, fun h0 => by omega⟩

theorem num_file {n : Ino} (hB : n.B.length = 13) (hF : n.F = 1 ∨ n.F = 2) (hL : 0 ≤ n.L ∧ n.L ≤ 65535) (hK : n.K = 1) (h : ∀ k, k < 13 → NumR n k) : RightP n ↔ (0 ≤ n.S ∧ n.S ≤ 832 ∧ n.E.length = 0) := by
  constructor
  · intro hr
    rcases hr.2.2 with ⟨_, h1, h2, h3, h4⟩ | ⟨hK', _⟩
    · exact ⟨h1.1, h1.2, h2⟩
    · omega
  · rintro ⟨h1, h2, h3⟩
    have hp13 : partsN n.S.toNat ≤ 13 := by unfold partsN; omega
    refine ⟨hF, hL, .inl ⟨hK, ⟨h1, h2⟩, h3, z_ext (by rw [hB, uptoL_len hB hp13]) fun k hk => ?_, fun k hk => ?_⟩⟩
    · rw [hB] at hk
      rw [uptoL_get hB hp13]
      split
      · rfl
      · rename_i hp
        have h5 := h k hk
        rcases Int.lt_or_le 0 (n.B.getD k 0) with h0 | h0
        · have := (h5.2 h0).2.1
          unfold partsN at hp
          omega
        · have := h5.1.1
          omega
    · have h5 := h k hk
      refine ⟨⟨h5.1.1, by have := h5.1.2; omega⟩, fun h0 => (h5.2 (by have := h5.1.1; omega)).2.2⟩

theorem num_dir {n : Ino} (hB : n.B.length = 13) (hF : n.F = 1 ∨ n.F = 2) (hL : 0 ≤ n.L ∧ n.L ≤ 65535) (hK : n.K = 2) (h : ∀ k, k < 13 → NumR n k) : RightP n ↔ (n.E.length ≤ 24 ∧ n.S = n.E.length) ∧ ∀ k, k < n.E.length → EntP n.E k := by
  constructor
  · intro hr
    rcases hr.2.2 with ⟨hK', _⟩ | ⟨_, h1, h2, h3, h4⟩
    · omega
    · exact ⟨⟨h1, h2⟩, h4⟩
  · rintro ⟨⟨h1, h2⟩, h3⟩
    refine ⟨hF, hL, .inr ⟨hK, h1, h2, z_ext (by rw [hB]; rfl) fun k hk => ?_, h3⟩⟩
    rw [hB] at hk
    have h5 := h k hk
    have e : (List.replicate 13 (0 : Int)).getD k 0 = 0 := by
      rw [List.getD_eq_getElem?_getD, List.getElem?_replicate]
      split <;> rfl
    rw [e]
    rcases Int.lt_or_le 0 (n.B.getD k 0) with h0 | h0
    · exact absurd hK (h5.2 h0).1
    · have := h5.1.1
      omega

set_option maxRecDepth 100000 in
set_option maxHeartbeats 8000000 in
theorem refRight_at (n : Ino) (v : Value) (g : Nat) (hB : n.B.length = 13) (w : World) (hE : EReads w v g n.E) (hN : ∀ k, k < n.E.length → (enm n.E k).size ≤ 9223372036854775807) :
    Calls Tryd.prog 15 #[.agg (inoC n v)] w fun e w' => e = .returned (.bool (decide (RightP n))) ∧ Keeps [] w w' := by
  obtain ⟨a, cap, rfl, hcap, hmax, HEC⟩ := hE.open
  have HN := Lib.hid hN
  unfold maxLen at hmax
  obtain ⟨Z, hZ⟩ : ∃ Z, Z = inoC n (.slice a n.E.length cap) := ⟨_, rfl⟩
  have hat : InoAt Z n (.slice a n.E.length cap) := by rw [hZ]; exact inoAt _ hB
  rw [← hZ]
  have hb0 := Blk.new w Z 25
  have c0 : (w.alloc (.cells Z 25)).cell? ⟨w.heap.size, 0, none⟩ = some (.int .i64 n.F) := by rw [hb0.cell]; exact hat.f0
  have c1 : (w.alloc (.cells Z 25)).cell? ⟨w.heap.size, 1, none⟩ = some (.int .i64 n.K) := by rw [hb0.cell]; exact hat.f1
  have c2 : (w.alloc (.cells Z 25)).cell? ⟨w.heap.size, 2, none⟩ = some (.int .i64 n.L) := by rw [hb0.cell]; exact hat.f2
  have c3 : (w.alloc (.cells Z 25)).cell? ⟨w.heap.size, 3, none⟩ = some (.int .i64 n.S) := by rw [hb0.cell]; exact hat.f3
  have c17 : (w.alloc (.cells Z 25)).cell? ⟨w.heap.size, 17, none⟩ = some (.slice a n.E.length cap) := by rw [hb0.cell]; exact hat.f5
  have HCB : Hid (∀ k, k < 13 → (w.alloc (.cells Z 25)).cell? ⟨w.heap.size, 4 + k, none⟩ = some (.int .i64 (n.B.getD k 0))) := fun k hk => by rw [hb0.cell]; exact hat.f4 k hk
  have HK : Hid (Keeps [] w (w.alloc (.cells Z 25))) := (Keeps.refl [] w).alloc _
  have HB0 := Lib.hid hb0
  have H3 := Lib.hid hat.f3
  have H17 := Lib.hid hat.f5
  have HR := Lib.hid (right_num hB)
  have HRP : Hid (RightP n → (n.F = 1 ∨ n.F = 2) ∧ (n.K = 1 ∨ n.K = 2) ∧ 0 ≤ n.L ∧ n.L ≤ 65535) := fun h => ⟨h.1, h.2.2.imp (·.1) (·.1), h.2.1⟩
  have HNF := Lib.hid (num_file hB)
  have HND := Lib.hid (num_dir hB)
  have HNR : Hid (∀ k, NumR n k ↔ (0 ≤ n.B.getD k 0 ∧ n.B.getD k 0 ≤ 255) ∧ (0 < n.B.getD k 0 → n.K ≠ 2 ∧ 64 * (k : Int) < n.S ∧ ∀ j, j < k → n.B.getD j 0 ≠ n.B.getD k 0)) := fun _ => Iff.rfl
  clear hb0 hat hZ hB hE hN
  generalize hfe : n.F = f at *
  generalize hke : n.K = kd at *
  generalize hle : n.L = lk at *
  generalize hse : n.S = sz at *
  generalize hme : n.E.length = m at *
  clear hfe hke hle hse hme
  by_cases f1 : f < 1
  · have HF : Hid (decide (RightP n) = false) := decide_eq_false fun h => by have := HRP.out h; omega
    clear HRP HNF HND HNR HR HEC HN HCB
    go_enter Tryd.func15, Tryd.ntmps15
    go_wp2_with fail
    go_ret
    exact ⟨by rw [HF.out]; rfl, HK.out⟩
  · skip
    by_cases f2 : 2 < f
    · have HF : Hid (decide (RightP n) = false) := decide_eq_false fun h => by have := HRP.out h; omega
      clear HRP HNF HND HNR HR HEC HN HCB
      go_enter Tryd.func15, Tryd.ntmps15
      go_wp2_with fail
      go_ret
      exact ⟨by rw [HF.out]; rfl, HK.out⟩
    · skip
      by_cases k1 : kd < 1
      · have HF : Hid (decide (RightP n) = false) := decide_eq_false fun h => by have := HRP.out h; omega
        clear HRP HNF HND HNR HR HEC HN HCB
        go_enter Tryd.func15, Tryd.ntmps15
        go_wp2_with fail
        go_ret
        exact ⟨by rw [HF.out]; rfl, HK.out⟩
      · skip
        by_cases k2 : 2 < kd
        · have HF : Hid (decide (RightP n) = false) := decide_eq_false fun h => by have := HRP.out h; omega
          clear HRP HNF HND HNR HR HEC HN HCB
          go_enter Tryd.func15, Tryd.ntmps15
          go_wp2_with fail
          go_ret
          exact ⟨by rw [HF.out]; rfl, HK.out⟩
        · skip
          by_cases l1 : lk < 0
          · have HF : Hid (decide (RightP n) = false) := decide_eq_false fun h => by have := HRP.out h; omega
            clear HRP HNF HND HNR HR HEC HN HCB
            go_enter Tryd.func15, Tryd.ntmps15
            go_wp2_with fail
            go_ret
            exact ⟨by rw [HF.out]; rfl, HK.out⟩
          · skip
            by_cases l2 : 65535 < lk
            · have HF : Hid (decide (RightP n) = false) := decide_eq_false fun h => by have := HRP.out h; omega
              clear HRP HNF HND HNR HR HEC HN HCB
              go_enter Tryd.func15, Tryd.ntmps15
              go_wp2_with fail
              go_ret
              exact ⟨by rw [HF.out]; rfl, HK.out⟩
            · skip
              have hfo : f = 1 ∨ f = 2 := by omega
              have hlo : 0 ≤ lk ∧ lk ≤ 65535 := by omega
              have HNF' : Hid (kd = 1 → (∀ k, k < 13 → NumR n k) → (RightP n ↔ (0 ≤ sz ∧ sz ≤ 832 ∧ m = 0))) := HNF.out hfo hlo
              have HND' : Hid (kd = 2 → (∀ k, k < 13 → NumR n k) → (RightP n ↔ (m ≤ 24 ∧ sz = m) ∧ ∀ k, k < m → EntP n.E k)) := HND.out hfo hlo
              have HKD : Hid (kd = 1 ∨ kd = 2) := by show _ ∨ _; omega
              clear HRP HNF HND hfo hlo
              go_enter Tryd.func15, Tryd.ntmps15
              go_wp2_with fail
              clear c0 c2 f1 f2 k1 k2 l1 l2
              go_loopg [3] 13 (fun gh s3 wx => ∃ k : Nat, k + gh = 13 ∧ s3 = .int .i64 (k : Int) ∧ wx = (w.alloc (.cells Z 25)) ∧ Hid (∀ i, i < k → NumR n i))
              case atStart => exact ⟨0, by omega, rfl, rfl, by intro i hi; omega⟩
              case round =>
                obtain ⟨k, hk, rfl, rfl, HP⟩ := hrel
                cases gk with
                | succ gg =>
                  have hk13 : k < 13 := by omega
                  have hlt : (k : Int) < 13 := by omega
                  have hk0 : (0 : Int) ≤ (k : Int) := by omega
                  have hcb := HCB.out k hk13
                  have hw64 : wrap64 (64 * (k : Int)) = 64 * (k : Int) := by unfold wrap64; omega
                  have HNO : Hid (¬ NumR n k → decide (RightP n) = false) := fun h => decide_eq_false fun hr => h (HR.out hr k hk13)
                  have HNK := Lib.hid (HNR.out k)
                  generalize hx : n.B.getD k 0 = x at *
                  by_cases x0 : x < 0
                  · have HF : Hid (decide (RightP n) = false) := HNO.out fun h => by have := HNK.out.1 h; omega
                    clear HNO HNK HNR HNF' HND' HR HEC HN HP hk
                    go_wp2_with fail
                    go_ret
                    exact ⟨by rw [HF.out]; rfl, HK.out⟩
                  · by_cases x1 : 255 < x
                    · have HF : Hid (decide (RightP n) = false) := HNO.out fun h => by have := HNK.out.1 h; omega
                      clear HNO HNK HNR HNF' HND' HR HEC HN HP hk
                      go_wp2_with fail
                      go_ret
                      exact ⟨by rw [HF.out]; rfl, HK.out⟩
                    · by_cases x2 : 0 < x
                      · by_cases x3 : kd = 2
                        · have HF : Hid (decide (RightP n) = false) := HNO.out fun h => (HNK.out.1 h).2 x2 |>.1 x3
                          subst x3
                          clear HNO HNK HNR HNF' HND' HR HEC HN HP hk
                          go_wp2_with fail
                          go_ret
                          exact ⟨by rw [HF.out]; rfl, HK.out⟩
                        · have x3' : (kd == 2) = false := by simpa using x3
                          by_cases x4 : sz ≤ 64 * (k : Int)
                          · have HF : Hid (decide (RightP n) = false) := HNO.out fun h => by have := ((HNK.out.1 h).2 x2).2.1; omega
                            clear HNO HNK HNR HNF' HND' HR HEC HN HP hk
                            go_wp2_with fail
                            go_ret
                            exact ⟨by rw [HF.out]; rfl, HK.out⟩
                          · have HSTEP : Hid ((∀ j, j < k → n.B.getD j 0 ≠ x) → ∀ i, i < k + 1 → NumR n i) := fun h i hi => by
                              by_cases e : i = k
                              · subst e; exact HNK.out.2 ⟨by omega, fun _ => ⟨x3, by omega, h⟩⟩
                              · exact HP.out i (by omega)
                            have HNE : Hid (∀ j, j < k → n.B.getD j 0 = x → decide (RightP n) = false) := fun j hj he => HNO.out fun h => ((HNK.out.1 h).2 x2).2.2 j hj he
                            clear HNO HNK HP
                            go_wp2_with fail
                            go_loopg [5] k (fun gh s5 wx => ∃ j : Nat, j + gh = k ∧ s5 = .int .i64 (j : Int) ∧ wx = (w.alloc (.cells Z 25)) ∧ Hid (∀ i, i < j → n.B.getD i 0 ≠ x))
                            case atStart => exact ⟨0, by omega, rfl, rfl, by intro i hi; omega⟩
                            case round =>
                              obtain ⟨j, hj, rfl, rfl, HQ⟩ := hrel
                              cases gk with
                              | zero =>
                                obtain rfl : j = k := by omega
                                have HNX := Lib.hid (HSTEP.out HQ.out)
                                clear HSTEP HNE HQ hj hw64 x3' x4
                                go_wp2_with fail
                                go_roundg gg
                                case measure => omega
                                case rel => exact ⟨j + 1, by omega, by go_num, rfl, HNX.out⟩
                              | succ g2 =>
                                have hjk : (j : Int) < (k : Int) := by omega
                                have hj0 : (0 : Int) ≤ (j : Int) := by omega
                                have hj13 : (j : Int) < 13 := by omega
                                have hcj := HCB.out j (by omega)
                                generalize hy : n.B.getD j 0 = y at *
                                by_cases e : y = x
                                · have HF := Lib.hid (HNE.out j (by omega) (by rw [hy, e]))
                                  subst e
                                  clear HSTEP HNE HQ HNR HNF' HND' HR HEC HN hj hk
                                  go_wp2_with fail
                                  go_ret
                                  exact ⟨by rw [HF.out]; rfl, HK.out⟩
                                · have e' : (y == x) = false := by simpa using e
                                  have HQ2 : Hid (∀ i, i < j + 1 → n.B.getD i 0 ≠ x) := fun i hi => by
                                    by_cases e2 : i = j
                                    · subst e2; rw [hy]; exact e
                                    · exact HQ.out i (by omega)
                                  clear HQ HSTEP
                                  go_wp2_with fail
                                  go_roundg g2
                                  case measure => omega
                                  case rel => exact ⟨j + 1, by omega, by go_num, rfl, HQ2.out⟩
                      · obtain rfl : x = 0 := by omega
                        have HNX : Hid (∀ i, i < k + 1 → NumR n i) := fun i hi => by
                          by_cases e : i = k
                          · subst e; exact HNK.out.2 ⟨by omega, fun h => by omega⟩
                          · exact HP.out i (by omega)
                        clear HNO HNK HP x0 x1 x2
                        go_wp2_with fail
                        go_loopg [5] k (fun gh s5 wx => ∃ j : Nat, j + gh = k ∧ s5 = .int .i64 (j : Int) ∧ wx = (w.alloc (.cells Z 25)))
                        case atStart => exact ⟨0, by omega, rfl, rfl⟩
                        case round =>
                          obtain ⟨j, hj, rfl, rfl⟩ := hrel
                          cases gk with
                          | zero =>
                            obtain rfl : j = k := by omega
                            clear hj
                            go_wp2_with fail
                            go_roundg gg
                            case measure => omega
                            case rel => exact ⟨j + 1, by omega, by go_num, rfl, HNX.out⟩
                          | succ g2 =>
                            have hjk : (j : Int) < (k : Int) := by omega
                            have hj0 : (0 : Int) ≤ (j : Int) := by omega
                            clear HNX
                            go_wp2_with fail
                            go_roundg g2
                            case measure => omega
                            case rel => exact ⟨j + 1, by omega, by go_num, rfl⟩
                | zero =>
                  obtain rfl : k = 13 := by omega
                  clear hk HR HNR HCB
                  rcases HKD.out with rfl | rfl
                  · have HD := Lib.hid (HNF'.out rfl HP.out)
                    clear HNF' HND' HP HKD HEC HN
                    by_cases s1 : sz < 0
                    · have HF : Hid (decide (RightP n) = false) := decide_eq_false fun h => by have := HD.out.1 h; omega
                      clear HD
                      go_wp2_with fail
                      go_ret
                      exact ⟨by rw [HF.out]; rfl, HK.out⟩
                    · by_cases s2 : 832 < sz
                      · have HF : Hid (decide (RightP n) = false) := decide_eq_false fun h => by have := HD.out.1 h; omega
                        clear HD
                        go_wp2_with fail
                        go_ret
                        exact ⟨by rw [HF.out]; rfl, HK.out⟩
                      · by_cases s3 : m = 0
                        · have HF : Hid (decide (RightP n) = true) := decide_eq_true (HD.out.2 ⟨by omega, by omega, s3⟩)
                          subst s3
                          clear HD
                          go_wp2_with fail
                          go_ret
                          exact ⟨by rw [HF.out]; rfl, HK.out⟩
                        · have HF : Hid (decide (RightP n) = false) := decide_eq_false fun h => by have := HD.out.1 h; omega
                          have s3' : ((m : Int) == 0) = false := by simp; omega
                          clear HD
                          go_wp2_with fail
                          go_ret
                          exact ⟨by rw [HF.out]; rfl, HK.out⟩
                  · have HD := Lib.hid (HND'.out rfl HP.out)
                    clear HNF' HND' HP HKD
                    go_wp2_with fail
                    clear c1 c3 c17
                    go_loopg [6] m (fun gh s6 wx => ∃ k : Nat, k + gh = m ∧ s6 = .int .i64 (k : Int) ∧ Hid ((∀ i, i < k → EntP n.E i) ∧ Keeps [] (w.alloc (.cells Z 25)) wx))
                    case atStart => exact ⟨0, by omega, rfl, by simp, Keeps.refl _ _⟩
                    case round =>
                      obtain ⟨k, hk, rfl, HR⟩ := hrel
                      have hbr := HB0.out.keep HR.out.2 (by simp)
                      have c17 : wr.cell? ⟨w.heap.size, 17, none⟩ = some (.slice a m cap) := by rw [hbr.cell]; exact H17.out
                      have c3 : wr.cell? ⟨w.heap.size, 3, none⟩ = some (.int .i64 sz) := by rw [hbr.cell]; exact H3.out
                      cases gk with
                      | zero =>
                        obtain rfl : k = m := by omega
                        have HKP := Lib.hid (HK.out.trans' HR.out.2)
                        have HD2 : Hid (RightP n ↔ (k ≤ 24 ∧ sz = k)) := by
                          show _ ↔ _
                          rw [HD.out]
                          exact ⟨fun h => h.1, fun h => ⟨h, HR.out.1⟩⟩
                        clear HR hk HD hbr HEC HN
                        by_cases s1 : 24 < k
                        · have HF : Hid (decide (RightP n) = false) := decide_eq_false fun h => by have := HD2.out.1 h; omega
                          clear HD2
                          go_wp2_with fail
                          go_ret
                          exact ⟨by rw [HF.out]; rfl, HKP.out⟩
                        · by_cases s2 : sz = k
                          · have HF : Hid (decide (RightP n) = true) := decide_eq_true (HD2.out.2 ⟨by omega, s2⟩)
                            have s2' : (sz == (k : Int)) = true := by simpa using s2
                            clear HD2 s2
                            go_wp2_with fail
                            go_ret
                            exact ⟨by rw [HF.out]; rfl, HKP.out⟩
                          · have HF : Hid (decide (RightP n) = false) := decide_eq_false fun h => s2 (HD2.out.1 h).2
                            have s2' : (sz == (k : Int)) = false := by simpa using s2
                            clear HD2
                            go_wp2_with fail
                            go_ret
                            exact ⟨by rw [HF.out]; rfl, HKP.out⟩
                      | succ gg =>
                        clear hbr c3
                        have hkm : k < m := by omega
                        have hlt : (k : Int) < (m : Int) := by omega
                        have hk0 : (0 : Int) ≤ (k : Int) := by omega
                        obtain ⟨hg, off, rfl, e0, e1⟩ := HEC.out k hkm
                        have hkw := HK.out.trans' HR.out.2
                        have HLE : Hid ((loadVar 57 ⟨g, off + k * 2, none⟩).run Tryd.prog wr = .ok (.agg #[.string (enm n.E k), .int .i64 (eno n.E k)]) wr) := load_entry ((World.cell?_of_block (hkw.block g hg (by simp))).trans e0) ((World.cell?_of_block (hkw.block g hg (by simp))).trans e1)
                        have HG := Lib.hid (fun wx => refGood_at (enm n.E k) (HN.out k hkm) wx)
                        have HEP : Hid (EntP n.E k ↔ goodN (bl (enm n.E k)) = true ∧ (0 ≤ eno n.E k ∧ eno n.E k ≤ 31) ∧ (0 < k → leB (enm n.E k) (enm n.E (k - 1)) = false)) := Iff.rfl
                        have HNO : Hid (¬ EntP n.E k → decide (RightP n) = false) := fun h => decide_eq_false fun hd => h ((HD.out.1 hd).2 k hkm)
                        have HKW := Lib.hid hkw
                        have HPRE := Lib.hid HR.out.1
                        have HKR := Lib.hid HR.out.2
                        have HPV : Hid (∀ q, k = q + 1 → wr.cell? ⟨g, off + q * 2, none⟩ = some (.string (enm n.E q))) := fun q hq => by
                          obtain ⟨-, off', ho', f0, -⟩ := HEC.out q (by omega)
                          cases ho'
                          exact (World.cell?_of_block (w := w) (a := ⟨g, off + q * 2, none⟩) (hkw.block g hg (by simp))).trans f0
                        have hza : ∀ w : World, (zeroValue 57).run Tryd.prog w = .ok (.agg #[.string ⟨#[]⟩, .int .i64 0]) w := fun w => by kernel_rfl
                        clear hkw e0 e1 HEC HR HD
                        generalize hnm : enm n.E k = nm at *
                        generalize eno n.E k = ino at *
                        go_wp2_with ((with_reducible show wpList _ _ _ (⟨_, .load 57 (.tmp 108), _, _, _, _⟩ :: _) _ _); refine wpList_load_any rfl 57 (.tmp 108) rfl _ rfl _ HLE.out ?_)
                        cases hgd : goodN (bl nm)
                        · have HF : Hid (decide (RightP n) = false) := HNO.out fun h => by have := (HEP.out.1 h).1; rw [hgd] at this; cases this
                          rw [hgd] at HG
                          clear HEP HNO hgd hk HPV HPRE HKR HN
                          refine wp_region_each (S := fun wx => wx = _) (by kernel_rfl) (by kernel_rfl) (fun d _ _ _ _ h => by cases d <;> exact h) rfl (by kernel_rfl) ?_
                          repeat (first
                            | (refine EachList.cons (.bool false) (EachIf.call rfl 46 #[.string nm] ?he ?h) ?_; (case he => (intro wz; go_simp)); (case h => exact fun wx hx => (HG.out wx).mono fun e w' he => ⟨he.1, he.2 ▸ hx⟩); simp only [Act.put, List.setIfInBounds_toArray, List.set_cons_zero, List.set_cons_succ])
                            | (refine EachList.cons undef (EachIf.off rfl) ?_; simp only [Act.put, List.setIfInBounds_toArray, List.set_cons_zero, List.set_cons_succ])
                            | ((with_reducible show EachList _ _ _ _ (⟨_, _, 4, _, _, _⟩ :: _) _); refine EachList.cons (.bool true) (EachIf.val rfl ?h) ?_; (case h => (intro wx hx; subst hx; first | (go_simp; done) | (go_simp; simp [*]; done))); simp only [Act.put, List.setIfInBounds_toArray, List.set_cons_zero, List.set_cons_succ])
                            | ((with_reducible show EachList _ _ _ _ (⟨_, _, 4, _, _, _⟩ :: _) _); refine EachList.cons (.bool false) (EachIf.val rfl ?h) ?_; (case h => (intro wx hx; subst hx; first | (go_simp; done) | (go_simp; simp [*]; done))); simp only [Act.put, List.setIfInBounds_toArray, List.set_cons_zero, List.set_cons_succ])
                            | (refine EachList.cons ?_ (EachIf.val rfl ?h) ?_; (case h => (intro wx hx; subst hx; go_simp; rfl)); simp only [Act.put, List.setIfInBounds_toArray, List.set_cons_zero, List.set_cons_succ]))
                          refine EachList.done fun wx hx => ?_
                          subst hx
                          go_wp2_with fail
                          go_ret
                          exact ⟨by rw [HF.out]; rfl, (HKW.out.alloc _).drew⟩
                        · rw [hgd] at HG
                          by_cases hi0 : ino < 0
                          · have HF : Hid (decide (RightP n) = false) := HNO.out fun h => by have := (HEP.out.1 h).2.1.1; omega
                            clear HEP HNO hgd hk HPV HPRE HKR HN
                            refine wp_region_each (S := fun wx => wx = _) (by kernel_rfl) (by kernel_rfl) (fun d _ _ _ _ h => by cases d <;> exact h) rfl (by kernel_rfl) ?_
                            repeat (first
                              | (refine EachList.cons (.bool true) (EachIf.call rfl 46 #[.string nm] ?he ?h) ?_; (case he => (intro wz; go_simp)); (case h => exact fun wx hx => (HG.out wx).mono fun e w' he => ⟨he.1, he.2 ▸ hx⟩); simp only [Act.put, List.setIfInBounds_toArray, List.set_cons_zero, List.set_cons_succ])
                              | (refine EachList.cons undef (EachIf.off rfl) ?_; simp only [Act.put, List.setIfInBounds_toArray, List.set_cons_zero, List.set_cons_succ])
                              | ((with_reducible show EachList _ _ _ _ (⟨_, _, 4, _, _, _⟩ :: _) _); refine EachList.cons (.bool true) (EachIf.val rfl ?h) ?_; (case h => (intro wx hx; subst hx; first | (go_simp; done) | (go_simp; simp [*]; done))); simp only [Act.put, List.setIfInBounds_toArray, List.set_cons_zero, List.set_cons_succ])
                              | ((with_reducible show EachList _ _ _ _ (⟨_, _, 4, _, _, _⟩ :: _) _); refine EachList.cons (.bool false) (EachIf.val rfl ?h) ?_; (case h => (intro wx hx; subst hx; first | (go_simp; done) | (go_simp; simp [*]; done))); simp only [Act.put, List.setIfInBounds_toArray, List.set_cons_zero, List.set_cons_succ])
                              | (refine EachList.cons ?_ (EachIf.val rfl ?h) ?_; (case h => (intro wx hx; subst hx; go_simp; rfl)); simp only [Act.put, List.setIfInBounds_toArray, List.set_cons_zero, List.set_cons_succ]))
                            refine EachList.done fun wx hx => ?_
                            subst hx
                            go_wp2_with fail
                            go_ret
                            exact ⟨by rw [HF.out]; rfl, (HKW.out.alloc _).drew⟩
                          · by_cases hi1 : 31 < ino
                            · have HF : Hid (decide (RightP n) = false) := HNO.out fun h => by have := (HEP.out.1 h).2.1.2; omega
                              clear HEP HNO hgd hk HPV HPRE HKR HN
                              refine wp_region_each (S := fun wx => wx = _) (by kernel_rfl) (by kernel_rfl) (fun d _ _ _ _ h => by cases d <;> exact h) rfl (by kernel_rfl) ?_
                              repeat (first
                                | (refine EachList.cons (.bool true) (EachIf.call rfl 46 #[.string nm] ?he ?h) ?_; (case he => (intro wz; go_simp)); (case h => exact fun wx hx => (HG.out wx).mono fun e w' he => ⟨he.1, he.2 ▸ hx⟩); simp only [Act.put, List.setIfInBounds_toArray, List.set_cons_zero, List.set_cons_succ])
                                | (refine EachList.cons undef (EachIf.off rfl) ?_; simp only [Act.put, List.setIfInBounds_toArray, List.set_cons_zero, List.set_cons_succ])
                                | ((with_reducible show EachList _ _ _ _ (⟨_, _, 4, _, _, _⟩ :: _) _); refine EachList.cons (.bool true) (EachIf.val rfl ?h) ?_; (case h => (intro wx hx; subst hx; first | (go_simp; done) | (go_simp; simp [*]; done))); simp only [Act.put, List.setIfInBounds_toArray, List.set_cons_zero, List.set_cons_succ])
                                | ((with_reducible show EachList _ _ _ _ (⟨_, _, 4, _, _, _⟩ :: _) _); refine EachList.cons (.bool false) (EachIf.val rfl ?h) ?_; (case h => (intro wx hx; subst hx; first | (go_simp; done) | (go_simp; simp [*]; done))); simp only [Act.put, List.setIfInBounds_toArray, List.set_cons_zero, List.set_cons_succ])
                                | (refine EachList.cons ?_ (EachIf.val rfl ?h) ?_; (case h => (intro wx hx; subst hx; go_simp; rfl)); simp only [Act.put, List.setIfInBounds_toArray, List.set_cons_zero, List.set_cons_succ]))
                              refine EachList.done fun wx hx => ?_
                              subst hx
                              go_wp2_with fail
                              go_ret
                              exact ⟨by rw [HF.out]; rfl, (HKW.out.alloc _).drew⟩
                            · by_cases hkz : k = 0
                              · have HPN : Hid (∀ i, i < k + 1 → EntP n.E i) := fun i hi => by
                                  obtain rfl : i = k := by omega
                                  exact HEP.out.2 ⟨hgd, ⟨by omega, by omega⟩, fun h => absurd h (by omega)⟩
                                have hkn : ¬ (0 : Int) < (k : Int) := by omega
                                have hkd : decide (0 < k) = false := decide_eq_false (by omega)
                                clear HEP HNO hgd HPV HPRE hkz HN
                                refine wp_region_each (S := fun wx => wx = _) (by kernel_rfl) (by kernel_rfl) (fun d _ _ _ _ h => by cases d <;> exact h) rfl (by kernel_rfl) ?_
                                repeat (first
                                  | (refine EachList.cons (.bool true) (EachIf.call rfl 46 #[.string nm] ?he ?h) ?_; (case he => (intro wz; go_simp)); (case h => exact fun wx hx => (HG.out wx).mono fun e w' he => ⟨he.1, he.2 ▸ hx⟩); simp only [Act.put, List.setIfInBounds_toArray, List.set_cons_zero, List.set_cons_succ])
                                  | (refine EachList.cons undef (EachIf.off rfl) ?_; simp only [Act.put, List.setIfInBounds_toArray, List.set_cons_zero, List.set_cons_succ])
                                  | ((with_reducible show EachList _ _ _ _ (⟨_, _, 4, _, _, _⟩ :: _) _); refine EachList.cons (.bool true) (EachIf.val rfl ?h) ?_; (case h => (intro wx hx; subst hx; first | (go_simp; done) | (go_simp; simp [*]; done))); simp only [Act.put, List.setIfInBounds_toArray, List.set_cons_zero, List.set_cons_succ])
                                  | ((with_reducible show EachList _ _ _ _ (⟨_, _, 4, _, _, _⟩ :: _) _); refine EachList.cons (.bool false) (EachIf.val rfl ?h) ?_; (case h => (intro wx hx; subst hx; first | (go_simp; done) | (go_simp; simp [*]; done))); simp only [Act.put, List.setIfInBounds_toArray, List.set_cons_zero, List.set_cons_succ])
                                  | (refine EachList.cons ?_ (EachIf.val rfl ?h) ?_; (case h => (intro wx hx; subst hx; go_simp; rfl)); simp only [Act.put, List.setIfInBounds_toArray, List.set_cons_zero, List.set_cons_succ]))
                                refine EachList.done fun wx hx => ?_
                                subst hx
                                go_wp2_with fail
                                go_roundg gg
                                case measure => omega
                                case rel => exact ⟨k + 1, by omega, by go_num, HPN.out, (HKR.out.alloc _).drew⟩
                              · obtain ⟨q, hq⟩ : ∃ q, k = q + 1 := ⟨k - 1, by omega⟩
                                have hpv0 := HPV.out q hq
                                have hpv : ∀ o, (wr.alloc o).cell? ⟨g, off + q * 2, none⟩ = some (.string (enm n.E q)) := fun o => by
                                  rw [World.cell?_alloc_some _ _ _ (by rw [hpv0]; rfl)]
                                  exact hpv0
                                have c17a : ∀ o, (wr.alloc o).cell? ⟨w.heap.size, 17, none⟩ = some (.slice (some ⟨g, off, none⟩) m cap) := fun o => by
                                  rw [World.cell?_alloc_some _ _ _ (by rw [c17]; rfl)]
                                  exact c17
                                clear hpv0
                                have hkp : (0 : Int) < (k : Int) := by omega
                                have hkd : decide (0 < k) = true := decide_eq_true (by omega)
                                have hkq : (k : Int) - 1 = (q : Int) := by omega
                                have hqm : (q : Int) < (m : Int) := by omega
                                have hq0 : (0 : Int) ≤ (q : Int) := by omega
                                have hwq : IntKind.i64.wrap (q : Int) = (q : Int) := IntWalk.i64_in _ (by omega)
                                have hlb : ∀ b, leB nm (enm n.E q) = b → (Op.bytesLess nm.toList (enm n.E q).toList || (nm.toList == (enm n.E q).toList)) = b := fun b h => h
                                have HEP2 : Hid (EntP n.E k ↔ leB nm (enm n.E q) = false) := by
                                  show _ ↔ _
                                  rw [HEP.out, show k - 1 = q by omega]
                                  exact ⟨fun h => h.2.2 (by omega), fun h => ⟨hgd, ⟨by omega, by omega⟩, fun _ => h⟩⟩
                                generalize enm n.E q = pm at *
                                cases hle : leB nm pm
                                · have HPN : Hid (∀ i, i < k + 1 → EntP n.E i) := fun i hi => by
                                    by_cases e : i = k
                                    · subst e; exact HEP2.out.2 hle
                                    · exact HPRE.out i (by omega)
                                  have hlb2 := hlb _ hle
                                  clear HEP HEP2 HNO hgd HPV HPRE hkz hlb hle hq HN
                                  refine wp_region_each (S := fun wx => wx = _) (by kernel_rfl) (by kernel_rfl) (fun d _ _ _ _ h => by cases d <;> exact h) rfl (by kernel_rfl) ?_
                                  repeat (first
                                    | (refine EachList.cons (.bool true) (EachIf.call rfl 46 #[.string nm] ?he ?h) ?_; (case he => (intro wz; go_simp)); (case h => exact fun wx hx => (HG.out wx).mono fun e w' he => ⟨he.1, he.2 ▸ hx⟩); simp only [Act.put, List.setIfInBounds_toArray, List.set_cons_zero, List.set_cons_succ])
                                    | (refine EachList.cons undef (EachIf.off rfl) ?_; simp only [Act.put, List.setIfInBounds_toArray, List.set_cons_zero, List.set_cons_succ])
                                    | ((with_reducible show EachList _ _ _ _ (⟨_, _, 4, _, _, _⟩ :: _) _); refine EachList.cons (.bool true) (EachIf.val rfl ?h) ?_; (case h => (intro wx hx; subst hx; first | (go_simp; done) | (go_simp; simp [*]; done))); simp only [Act.put, List.setIfInBounds_toArray, List.set_cons_zero, List.set_cons_succ])
                                    | ((with_reducible show EachList _ _ _ _ (⟨_, _, 4, _, _, _⟩ :: _) _); refine EachList.cons (.bool false) (EachIf.val rfl ?h) ?_; (case h => (intro wx hx; subst hx; first | (go_simp; done) | (go_simp; simp [*]; done))); simp only [Act.put, List.setIfInBounds_toArray, List.set_cons_zero, List.set_cons_succ])
                                    | ((with_reducible show EachList _ _ _ _ (⟨some 133, _, _, _, _, _⟩ :: _) _); refine EachList.cons (.int .i64 (q : Int)) (EachIf.val rfl ?h) ?_; (case h => (intro wx hx; subst hx; go_simp; done)); simp only [Act.put, List.setIfInBounds_toArray, List.set_cons_zero, List.set_cons_succ])
                                    | (refine EachList.cons ?_ (EachIf.val rfl ?h) ?_; (case h => (intro wx hx; subst hx; go_simp; rfl)); simp only [Act.put, List.setIfInBounds_toArray, List.set_cons_zero, List.set_cons_succ]))
                                  refine EachList.done fun wx hx => ?_
                                  subst hx
                                  go_wp2_with fail
                                  go_roundg gg
                                  case measure => omega
                                  case rel => exact ⟨k + 1, by omega, by go_num, HPN.out, (HKR.out.alloc _).drew⟩
                                · have HF : Hid (decide (RightP n) = false) := HNO.out fun h => by
                                    have := HEP2.out.1 h
                                    rw [hle] at this
                                    cases this
                                  have hlb2 := hlb _ hle
                                  clear HEP HEP2 HNO hgd HPV HPRE hkz hlb hle hq hk HKR HN
                                  refine wp_region_each (S := fun wx => wx = _) (by kernel_rfl) (by kernel_rfl) (fun d _ _ _ _ h => by cases d <;> exact h) rfl (by kernel_rfl) ?_
                                  repeat (first
                                    | (refine EachList.cons (.bool true) (EachIf.call rfl 46 #[.string nm] ?he ?h) ?_; (case he => (intro wz; go_simp)); (case h => exact fun wx hx => (HG.out wx).mono fun e w' he => ⟨he.1, he.2 ▸ hx⟩); simp only [Act.put, List.setIfInBounds_toArray, List.set_cons_zero, List.set_cons_succ])
                                    | (refine EachList.cons undef (EachIf.off rfl) ?_; simp only [Act.put, List.setIfInBounds_toArray, List.set_cons_zero, List.set_cons_succ])
                                    | ((with_reducible show EachList _ _ _ _ (⟨_, _, 4, _, _, _⟩ :: _) _); refine EachList.cons (.bool true) (EachIf.val rfl ?h) ?_; (case h => (intro wx hx; subst hx; first | (go_simp; done) | (go_simp; simp [*]; done))); simp only [Act.put, List.setIfInBounds_toArray, List.set_cons_zero, List.set_cons_succ])
                                    | ((with_reducible show EachList _ _ _ _ (⟨_, _, 4, _, _, _⟩ :: _) _); refine EachList.cons (.bool false) (EachIf.val rfl ?h) ?_; (case h => (intro wx hx; subst hx; first | (go_simp; done) | (go_simp; simp [*]; done))); simp only [Act.put, List.setIfInBounds_toArray, List.set_cons_zero, List.set_cons_succ])
                                    | ((with_reducible show EachList _ _ _ _ (⟨some 133, _, _, _, _, _⟩ :: _) _); refine EachList.cons (.int .i64 (q : Int)) (EachIf.val rfl ?h) ?_; (case h => (intro wx hx; subst hx; go_simp; done)); simp only [Act.put, List.setIfInBounds_toArray, List.set_cons_zero, List.set_cons_succ])
                                    | (refine EachList.cons ?_ (EachIf.val rfl ?h) ?_; (case h => (intro wx hx; subst hx; go_simp; rfl)); simp only [Act.put, List.setIfInBounds_toArray, List.set_cons_zero, List.set_cons_succ]))
                                  refine EachList.done fun wx hx => ?_
                                  subst hx
                                  go_wp2_with fail
                                  go_ret
                                  exact ⟨by rw [HF.out]; rfl, (HKW.out.alloc _).drew⟩

end Go.Proofs.YtmhcnkjmnbnldaaDoor

namespace Go.Proofs.YtmhcnkjmnbnldaaDoor
open Go.RowKit

set_option maxRecDepth 100000 in
set_option maxHeartbeats 4000000 in
theorem sheet6_at (ws : List Nat) (w : World) : Calls Tryd.prog 10 #[.agg (w4 ws)] w (MadeSheet w (laidX ws 4 1080)) := by
  have hcell := fun k hk => w4_get ws k hk
  have HC := Lib.hid hcell
  clear hcell
  generalize w4 ws = Z at *
  obtain ⟨mc, hmk, hoz⟩ := make_zeroW (w.alloc (.cells Z 31))
  have hz : (w.alloc (.cells Z 31)).heap.size = w.heap.size + 1 := by simp
  rw [hz] at hmk hoz
  have HO := Lib.hid hoz
  have HB : Hid (Blk ((w.alloc (.cells Z 31)).alloc (.cells mc 30)) w.heap.size Z 31) := (Blk.new w Z _).alloc _
  have HK : Hid (Keeps [] w ((w.alloc (.cells Z 31)).alloc (.cells mc 30))) := ((Keeps.refl [] w).alloc _).alloc _
  clear hoz hz
  go_enter Tryd.func10, Tryd.ntmps10
  go_wp2_with fail
  clear hmk
  go_loopg [4] 4 (fun gh s4 wx => ∃ k : Nat, k + gh = 4 ∧ s4 = .int .i64 (k : Int) ∧ Hid (Owns wx (.slice (some ⟨w.heap.size + 1, 0, none⟩) 3128 3128) (w.heap.size + 1) 30 1 3128 (u64s (laidX ws k 1080)) ∧ Blk wx w.heap.size Z 31 ∧ Keeps [] w wx))
  case atStart => exact ⟨0, by omega, rfl, by rw [← laidX_zero]; exact HO.out, HB.out, HK.out⟩
  case round =>
    clear HO HB HK
    obtain ⟨k, hk, rfl, HR⟩ := hrel
    cases gk with
    | zero =>
      obtain rfl : k = 4 := by omega
      have HN := Lib.hid (txNew_at (HR.out.1.reads))
      have HKP := Lib.hid HR.out.2.2
      clear hk HR
      go_wp2_with fail
      refine HN.out.mono ?_; rintro e w1 ⟨b, rfl, h1, h2, h3⟩
      have HM : Hid (MadeSheet w (laidX ws 4 1080) (.returned (.pointer (some ⟨b, 0, none⟩))) w1) := by
        have h2' : ShAt w1 b b (padW (laidX ws 4 1080)) [] := h2
        have hp : padW (laidX ws 4 1080) = laidX ws 4 1080 := by
          unfold padW
          rw [laidX_len, List.take_of_length_le (by rw [laidX_len]; omega), Nat.sub_self, List.replicate_zero, List.append_nil]
        rw [hp] at h2'
        exact ⟨b, rfl, Nat.le_trans HKP.out.size h1, h2', HKP.out.trans h3 (by simp)⟩
      clear h1 h2 h3
      go_wp2_with fail
      go_ret
      exact HM.out
    | succ gg =>
      have hk4 : k < 4 := by omega
      have hlt : (k : Int) < 4 := by omega
      have hk0 : (0 : Int) ≤ (k : Int) := by omega
      obtain ⟨ho, hb, hkp⟩ := HR.out
      obtain ⟨-, hc, hf⟩ := u64s_getO ho (laidX_len _ _ _) (show 816 + k < 3128 by omega)
      have c0 : wr.cell? ⟨w.heap.size, k, none⟩ = some (.int .u64 ((ws.getD k 0 : Nat) : Int)) := by rw [hb.cell, HC.out k hk4]
      have HS : Hid (Owns (wr.setCell ⟨w.heap.size + 1, 816 + k, none⟩ (.int .u64 ((ws.getD k 0 : Nat) : Int))) (.slice (some ⟨w.heap.size + 1, 0, none⟩) 3128 3128) (w.heap.size + 1) 30 1 3128 (u64s (laidX ws (k + 1) 1080))) := by
        show Owns _ _ _ _ _ _ _
        rw [← laidX_word ws k hk4]
        exact ho.set64 _ _
      have HBN : Hid (Blk (wr.setCell ⟨w.heap.size + 1, 816 + k, none⟩ (.int .u64 ((ws.getD k 0 : Nat) : Int))) w.heap.size Z 31) := hb.other (by simp) _
      have HKP := Lib.hid hkp
      clear ho hb hkp HR
      generalize (laidX ws k 1080).getD (816 + k) 0 = old at *
      generalize ws.getD k 0 = x at *
      go_wp2_with fail
      go_roundg gg
      case measure => omega
      case rel => exact ⟨k + 1, by omega, by go_num, HS.out, HBN.out, HKP.out.setCell (by simp) _⟩

end Go.Proofs.YtmhcnkjmnbnldaaDoor

namespace Go.Proofs.YtmhcnkjmnbnldaaDoor
open Go.RowKit

theorem zero_words (w : World) : (zeroValue 74).run Tryd.prog w = .ok (.agg (u64s (padW [])).toArray) w := by kernel_rfl

/-- A new array is stored whole. -/
theorem store_array {w : World} {g : Nat} {X : List Int} (hb : Blk w g (u64s X).toArray 74) (lx : X.length = 3128) (Y : List Int) (ly : Y.length = 3128) :
    ∃ w', (storeVar 74 ⟨g, 0, none⟩ (.agg (u64s Y).toArray)).run Tryd.prog w = .ok () w' ∧ Blk w' g (u64s Y).toArray 74 ∧ Keeps [g] w w' := by
  refine ⟨_, run_storeVar_cells g 0 (u64s Y) _ (by rw [u64s_len, ly]; exact size_words) hb (by rw [List.size_toArray, u64s_len, u64s_len]; omega) (u64s_one Y), ?_, (Keeps.refl _ _).setRow (by simp) _⟩
  have e : ((u64s X).toArray.toList.take 0 ++ u64s Y ++ (u64s X).toArray.toList.drop (0 + (u64s Y).length)).toArray = (u64s Y).toArray := by
    rw [List.take_zero, List.nil_append, List.drop_of_length_le (by rw [u64s_len, u64s_len]; omega), List.append_nil]
  rw [e]
  exact setRow_blk hb

theorem blk_reads {w : World} {g T : Nat} {Y : List Int} {n : Nat} (hb : Blk w g (u64s Y).toArray T) (hn : Y.length = n) (hm : n ≤ maxLen) : Reads w (.slice (some ⟨g, 0, none⟩) n n) g (u64s Y) := by
  refine ⟨some ⟨g, 0, none⟩, n, by rw [u64s_len, hn], by rw [u64s_len, hn]; exact Nat.le_refl _, hm, fun _ => ⟨hb.lt, 0, rfl, fun j hj => ?_⟩⟩
  rw [hb.cell, Nat.zero_add]
  simp

set_option maxHeartbeats 1000000 in
theorem txWords_raw {w : World} {b gp : Nat} {B X : List Int} {us : List (Int × Int)} (h : ShRaw w b gp B X us) :
    Calls Tryd.prog 20 #[.pointer (some ⟨b, 0, none⟩)] w (MadeWords w X) := by
  obtain ⟨lb, lx, vp, h1, h2, h3⟩ := h
  have HL := Lib.hid (load_words h1 lb lx)
  have hz := zero_words
  obtain ⟨w2, hr2, hb2, hk2⟩ := store_array (Blk.new w (u64s (padW [])).toArray 74) (padW_len []) X lx
  have HR2 := Lib.hid hr2
  have HM : Hid (MadeWords w X (.returned (.slice (some ⟨w.heap.size, 0, none⟩) 3128 3128)) w2) :=
    ⟨_, w.heap.size, rfl, blk_reads hb2 lx (by simp [maxLen]), Nat.le_refl _, ((Keeps.refl [] w).alloc _).trans hk2 (by simp)⟩
  clear h1 h2 h3 hr2 hb2 hk2 lb lx
  generalize (u64s (padW [])).toArray = Z at *
  generalize (u64s X).toArray = Y at *
  go_enter Tryd.func20, Tryd.ntmps20
  go_wp2_with (first | ((with_reducible show wpList _ _ _ (⟨_, .load 74 (.tmp 6), _, _, _, _⟩ :: _) _ _); refine wpList_load_any rfl 74 (.tmp 6) rfl _ rfl _ HL.out ?_) | ((with_reducible show wpList _ _ _ (⟨_, .store 74 (.tmp 3) (.tmp 7), _, _, _, _⟩ :: _) _ _); refine wpList_store_any rfl 74 (.tmp 3) (.tmp 7) rfl _ rfl _ rfl _ HR2.out ?_))
  go_ret
  exact HM.out

theorem txWords_at {w : World} {b gp : Nat} {B : List Int} {ps : List (Int × Int)} (h : ShAt w b gp B ps) :
    Calls Tryd.prog 20 #[.pointer (some ⟨b, 0, none⟩)] w (MadeWords w (putAll B ps)) := txWords_raw h.raw

end Go.Proofs.YtmhcnkjmnbnldaaDoor

namespace Go.Proofs.YtmhcnkjmnbnldaaDoor
open Go.RowKit

set_option maxHeartbeats 400000 in
theorem txMark_raw {w : World} {b gp : Nat} {B X : List Int} {us : List (Int × Int)} (h : ShRaw w b gp B X us) :
    Calls Tryd.prog 16 #[.pointer (some ⟨b, 0, none⟩)] w fun e w' => e = .returned (.int .i64 (us.length : Int)) ∧ w = w' := by
  obtain ⟨lb, lx, vp, h1, h2, h3⟩ := h
  have hc : w.cell? ⟨b, 6256, none⟩ = some vp := by rw [h1.cell, shCells_2 _ lb lx]
  obtain ⟨a, cap, rfl, q1, q2⟩ := ownsRow_val h2
  clear h1 h2 h3 lb lx
  generalize us.length = n at *
  go_enter Tryd.func16, Tryd.ntmps16
  go_wp2
  go_ret
  exact ⟨rfl, rfl⟩

theorem txMark_at {w : World} {b gp : Nat} {B : List Int} {ps : List (Int × Int)} (h : ShAt w b gp B ps) :
    Calls Tryd.prog 16 #[.pointer (some ⟨b, 0, none⟩)] w fun e w' => e = .returned (.int .i64 (ps.length : Int)) ∧ w = w' := by
  have := txMark_raw h.raw
  rw [notesN_len] at this
  exact this

end Go.Proofs.YtmhcnkjmnbnldaaDoor

namespace Go.Proofs.YtmhcnkjmnbnldaaDoor
open Go.RowKit

theorem laidX_64 (ws : List Nat) (h : ∀ i, ws.getD i 0 < 18446744073709551616) : In64 (laidX ws 4 1080) := fun j => by
  by_cases hj : j < 3128
  · rw [laidX_get _ _ _ _ hj]
    split
    · have := h (j - 816); omega
    · rw [if_neg (by omega)]; omega
  · rw [List.getD_eq_getElem?_getD, List.getElem?_eq_none (by rw [laidX_len]; omega)]
    simp

theorem laidX_0 (ws : List Nat) {j : Nat} (hj : 820 ≤ j) : (laidX ws 4 1080).getD j 0 = 0 := by
  by_cases h : j < 3128
  · rw [laidX_get _ _ _ _ h, if_neg (by omega), if_neg (by omega)]
  · rw [List.getD_eq_getElem?_getD, List.getElem?_eq_none (by rw [laidX_len]; omega)]
    simp

/-- All that is known of words that were laid over noughts. -/
theorem laid_all {X : List Int} (h64 : In64 X) (hX : X.length = 3128) {i : Int} {n : Ino} (hB : n.B.length = 13) (hok : LayP i n) (hn : needN n ≤ (freeL X).length) :
    LaidAt (putAll X (layPs X i.toNat n ((freeL X).take (needN n)))) (824 + 8 * i.toNat) n ((freeL X).take (needN n)) ∧ In64 (putAll X (layPs X i.toNat n ((freeL X).take (needN n)))) ∧
    (∀ k, 820 ≤ k → ¬ (824 + 8 * i.toNat ≤ k ∧ k < 824 + 8 * i.toNat + 8) → ¬ (1080 ≤ k ∧ (k - 1080) / 8 ∈ (freeL X).take (needN n)) → (putAll X (layPs X i.toNat n ((freeL X).take (needN n)))).getD k 0 = X.getD k 0) := by
  have hbl := blocks_le hok.2.2
  have hcn := need_le n
  have hol := own_len hn
  have hi := hok.1
  refine ⟨?_, lay_64 h64 hX hB hok.2.2 (by omega) own_in, fun k hk h1 h2 => lay_other (by omega) own_in hk h2 (by omega)⟩
  unfold layPs
  rw [putAll_append]
  exact laid_put (by rw [putAll_len, hX]) _ (by omega) hB hbl.2.1 (by omega) (by omega) own_nodup own_in

/-- What is known of a slice of words. -/
theorem words_cell {w : World} {v : Value} {g : Nat} {l : List Int} (h : Reads w v g (u64s l)) : ∃ a cap, v = .slice a l.length cap ∧ l.length ≤ cap ∧ cap ≤ maxLen ∧
    Hid (∀ k, k < l.length → g < w.heap.size ∧ ∃ off, a = some ⟨g, off, none⟩ ∧ w.cell? ⟨g, off + k, none⟩ = some (.int .u64 (l.getD k 0))) := by
  obtain ⟨a, cap, h0, h1, h2, h3⟩ := h
  rw [u64s_len] at *
  refine ⟨a, cap, h0, h1, h2, fun k hk => ?_⟩
  obtain ⟨hg, off, ho, hc⟩ := h3 (by intro e; have := congrArg List.length e; rw [u64s_len, List.length_nil] at this; omega)
  exact ⟨hg, off, ho, (hc k hk).trans (u64s_get hk)⟩

set_option maxRecDepth 100000 in
set_option maxHeartbeats 8000000 in
theorem f1Lays_at (ws : List Nat) (hws : ∀ i, ws.getD i 0 < 18446744073709551616) (i : Int) (n : Ino) (v : Value) (g : Nat) (hB : n.B.length = 13) (w : World) (hE : EReads w v g n.E) (hT : TabAt w) :
    Calls Tryd.prog 4 #[.agg (w4 ws), .int .i64 i, .agg (inoC n v)] w fun e w' => e = .returned (.bool true) ∧ Keeps [] w w' := by
  have hat := inoAt v hB
  have HB := Lib.hid hB
  have HEH := Lib.hid hE
  have HTT := Lib.hid hT
  have HWS := Lib.hid hws
  have HBI : Hid (inoC n v = inoC n v) := rfl
  have HLI0 : Hid (∀ wx, Blk wx (w.heap.size + 1) (inoC n v) 25 → (loadVar 25 ⟨w.heap.size + 1, 0, none⟩).run Tryd.prog wx = .ok (.agg (inoC n v)) wx) := fun wx hb => load_ino hb hB
  have HL40 : Hid (∀ wx, Blk wx w.heap.size (w4 ws) 31 → (loadVar 31 ⟨w.heap.size, 0, none⟩).run Tryd.prog wx = .ok (.agg (w4 ws)) wx) := fun wx hb => load_w4 hb
  have HAW := Lib.hid (fun wx => f1Awake_at wx)
  have HFEW : Hid (∀ wx, Keeps [] w wx → Calls Tryd.prog 9 #[.agg (inoC n v)] wx (FewPost wx n)) := fun wx hk => refFew_at n v g hB wx (hE.keep hk (by simp))
  have HSH := Lib.hid (fun wx => sheet6_at ws wx)
  have HBITS := Lib.hid (fun wx => bits_at ws hws wx)
  have HRT : Hid ((∀ k, k < n.E.length → (enm n.E k).size ≤ 9223372036854775807) → ∀ wx, Keeps [] w wx → Calls Tryd.prog 14 #[.agg (inoC n v)] wx fun e w' => e = .returned (.bool (decide (RightP n))) ∧ Keeps [] wx w') := fun h wx hk => right_at n v g hB wx (hE.keep hk (by simp)) h
  have HRR : Hid ((∀ k, k < n.E.length → (enm n.E k).size ≤ 9223372036854775807) → ∀ wx, Keeps [] w wx → Calls Tryd.prog 15 #[.agg (inoC n v)] wx fun e w' => e = .returned (.bool (decide (RightP n))) ∧ Keeps [] wx w') := fun h wx hk => refRight_at n v g hB wx (hE.keep hk (by simp)) h
  have HLAY : Hid ((∀ k, k < n.E.length → (enm n.E k).size ≤ 9223372036854775807) → ∀ wx b, Keeps [] w wx → w.heap.size ≤ b → ShAt wx b b (laidX ws 4 1080) [] → Calls Tryd.prog 11 #[.pointer (some ⟨b, 0, none⟩), .int .i64 i, .agg (inoC n v)] wx (LayPost wx b b (laidX ws 4 1080) [] i n)) := fun h wx b hk hb hs =>
    lay_any hs (laidX_64 ws hws) (hT.keep hk) hs.raw.lt (by simp) i n v g hB (hE.keep hk (by simp)) h (fun h0 => by
      have := hE.apart (l := [b]) (fun x hx => by rw [List.mem_singleton] at hx; omega) h0
      rw [List.mem_singleton] at this
      exact ⟨this, this⟩)
  have HNEED : Hid (n.E.length ≤ 40 → ∀ wx, Calls Tryd.prog 19 #[.agg (inoC n v)] wx fun e w' => e = .returned (.tuple #[.int .i64 ((blocksN n.E.length : Nat) : Int), .int .i64 ((needL n : Nat) : Int)]) ∧ Keeps [] wx w') := fun h wx => by
    obtain ⟨a, cap, rfl, -⟩ := hE
    exact refNeed_at n a cap hB (by omega) wx
  have HWORD : Hid (RightP n → ∀ own vo go p k, own.length = needN n → (∀ c ∈ own, c ≠ 0 ∧ c < 256) → own.Nodup → p < 3128 → k < 3128 → ∀ wx, Keeps [] w wx → Reads wx vo go (i64s own) → Calls Tryd.prog 21 #[.agg (inoC n v), .int .i64 ((p : Nat) : Int), vo, .int .i64 ((k : Nat) : Int)] wx (WantPost wx n own p k)) := fun hR own vo go p k h1 h2 h3 h4 h5 wx hk hO =>
    refWordI_at n v g own vo go p k hB hR h1 h2 h3 h4 h5 wx (hE.keep hk (by simp)) hO
  have HSAME : Hid (∀ vm gm wx, Keeps [] w wx → EReads wx vm gm n.E → Calls Tryd.prog 13 #[.agg (inoC n vm), .agg (inoC n v)] wx fun e w' => e = .returned (.bool true) ∧ Keeps [] wx w') := fun vm gm wx hk h => refSame_at n vm v gm g hB wx h (hE.keep hk (by simp))
  have hz4 : ∃ Z4, w4 ws = Z4 := ⟨_, rfl⟩
  obtain ⟨Z4, hZ4⟩ := hz4
  obtain ⟨Z, hZ⟩ : ∃ Z, inoC n v = Z := ⟨_, rfl⟩
  have HZI := Lib.hid hZ
  rw [hZ4] at HSH HBITS HL40 ⊢
  rw [hZ] at hat HLI0 HFEW HRT HRR HLAY HNEED HWORD HSAME ⊢
  have hb4 := (Blk.new w Z4 31).alloc (.cells Z 25)
  have hbi := Blk.new (w.alloc (.cells Z4 31)) Z 25
  rw [show (w.alloc (.cells Z4 31)).heap.size = w.heap.size + 1 by simp] at hbi
  have HK0 : Hid (Keeps [] w ((w.alloc (.cells Z4 31)).alloc (.cells Z 25))) := ((Keeps.refl [] w).alloc _).alloc _
  have HLI : Hid (∀ wx, Keeps [] ((w.alloc (.cells Z4 31)).alloc (.cells Z 25)) wx → (loadVar 25 ⟨w.heap.size + 1, 0, none⟩).run Tryd.prog wx = .ok (.agg Z) wx) := fun wx hk => HLI0.out wx (hbi.keep hk (by simp))
  have HL4 : Hid (∀ wx, Keeps [] ((w.alloc (.cells Z4 31)).alloc (.cells Z 25)) wx → (loadVar 31 ⟨w.heap.size, 0, none⟩).run Tryd.prog wx = .ok (.agg Z4) wx) := fun wx hk => HL40.out wx (hb4.keep hk (by simp))
  have HC0 : Hid (∀ wx, Keeps [] ((w.alloc (.cells Z4 31)).alloc (.cells Z 25)) wx → wx.cell? ⟨w.heap.size + 1, 0, none⟩ = some (.int .i64 n.F)) := fun wx hk => by rw [(hbi.keep hk (by simp)).cell]; exact hat.f0
  have HZ0 : Hid (((w.alloc (.cells Z4 31)).alloc (.cells Z 25)).heap.size = w.heap.size + 1 + 1) := by show _ = _; simp
  clear hat hbi hb4 hB hE hT hws HBI HLI0 HL40 hZ hZ4 HZI
  go_enter Tryd.func4, Tryd.ntmps4
  go_wp2_with fail
  refine (HAW.out _).mono ?_; rintro e w1 ⟨rfl, hk1⟩
  have HK1 := Lib.hid hk1
  have HL1 := Lib.hid (HLI.out w1 hk1)
  clear hk1
  go_wp2_with ((with_reducible show wpList _ _ _ (⟨_, .load 25 (.tmp 5), _, _, _, _⟩ :: _) _ _); refine wpList_load_want (by first | rfl | simp [Region.wanted, yielded]) 25 (.tmp 5) rfl _ rfl _ HL1.out ?_)
  refine (HFEW.out w1 (HK0.out.trans' HK1.out)).mono ?_; rintro e w2 ⟨⟨fb, rfl, hfb⟩, hk2⟩
  have HK2 := Lib.hid (HK1.out.trans' hk2)
  have HFB := Lib.hid hfb
  clear hk2 hfb HK1 HL1 HFEW
  cases fb
  · clear HLAY HWORD HSAME HRT HRR HNEED HBITS HSH
    go_wp2_with fail
    refine (HAW.out w2).mono ?_; rintro e w3 ⟨rfl, hk3⟩
    have HK3 := Lib.hid (HK0.out.trans' (HK2.out.trans' hk3))
    clear hk3
    go_wp2_with fail
    go_ret
    exact ⟨rfl, HK3.out⟩
  · have hfb := HFB.out rfl
    have HNS : Hid (∀ k, k < n.E.length → (enm n.E k).size ≤ 9223372036854775807) := fun k hk => by have := hfb.2 k hk; omega
    have HRT := Lib.hid (HRT.out HNS.out)
    have HRR := Lib.hid (HRR.out HNS.out)
    have HLAY := Lib.hid (HLAY.out HNS.out)
    have HNEED := Lib.hid (HNEED.out hfb.1)
    have HL2 := Lib.hid (HL4.out w2 HK2.out)
    clear hfb HFB HNS
    go_wp2_with ((with_reducible show wpList _ _ _ (⟨_, .load 31 (.tmp 3), _, _, _, _⟩ :: _) _ _); refine wpList_load_want (by first | rfl | simp [Region.wanted, yielded]) 31 (.tmp 3) rfl _ rfl _ HL2.out ?_)
    refine (HSH.out w2).mono ?_; rintro e w3 ⟨b, rfl, hb3, hs3, hk3⟩
    have HK3 := Lib.hid (HK2.out.trans' hk3)
    have HL3 := Lib.hid (HLI.out w3 HK3.out)
    have hbw : ((w.alloc (.cells Z4 31)).alloc (.cells Z 25)).heap.size ≤ b := Nat.le_trans HK2.out.size hb3
    have hbw2 : w.heap.size ≤ b := by rw [HZ0.out] at hbw; omega
    have HLY := Lib.hid (HLAY.out w3 b (HK0.out.trans' HK3.out) hbw2 hs3)
    clear hk3 hs3 hb3 HLAY HSH HK2 HL2
    go_wp2_with ((with_reducible show wpList _ _ _ (⟨_, .load 25 (.tmp 5), _, _, _, _⟩ :: _) _ _); refine wpList_load_want (by first | rfl | simp [Region.wanted, yielded]) 25 (.tmp 5) rfl _ rfl _ HL3.out ?_)
    refine HLY.out.mono ?_; rintro e w4 ⟨r, qs, gp, rfl, hgp, hs4, hk4, hql, hr⟩
    have HK4 : Hid (Keeps [] ((w.alloc (.cells Z4 31)).alloc (.cells Z 25)) w4) := HK3.out.trans hk4 (by intro x hx; simp only [List.mem_cons, List.not_mem_nil, or_false] at hx; omega)
    rw [List.nil_append] at hs4
    have HS4 := Lib.hid hs4
    have HR := Lib.hid hr
    have HX64 := Lib.hid (laidX_64 ws HWS.out)
    have HX0 : Hid (∀ j, 820 ≤ j → (laidX ws 4 1080).getD j 0 = 0) := fun j hj => laidX_0 ws hj
    have HXL := Lib.hid (laidX_len ws 4 1080)
    have HFREE : Hid (∀ v' g' wx, Owns wx v' g' 4 1 256 (bools (bitsB ws 256)) → Calls Tryd.prog 17 #[v'] wx (FreePost wx (freeL (laidX ws 4 1080)))) := fun v' g' wx h => refFree_at ws v' g' wx h
    generalize laidX ws 4 1080 = X at *
    clear hs4 hk4 hgp hr HLY HL3 HK3 hbw hbw2
    have HMK : Hid (∀ wx, Keeps [] w4 wx → Calls Tryd.prog 16 #[.pointer (some ⟨b, 0, none⟩)] wx fun e w' => e = .returned (.int .i64 (qs.length : Int)) ∧ wx = w') := fun wx hk => txMark_at (HS4.out.keep hk (by simp) (by simp))
    obtain ⟨tR, htR⟩ : ∃ tR, decide (RightP n) = tR := ⟨_, rfl⟩
    rw [htR] at HRT HRR
    have HTR := Lib.hid htR
    clear htR
    go_wp2_with fail
    refine wp_region_each (S := fun wx => Keeps [] w4 wx) (by kernel_rfl) (by kernel_rfl) (fun d _ _ _ _ h => by cases d <;> exact h) ((Keeps.refl _ _).drew) (by kernel_rfl) ?_
    have hne : (tR != tR) = false := by cases tR <;> rfl
    repeat (first
      | (refine EachList.cons (.agg Z) (EachIf.load rfl 25 (.tmp 5) rfl _ rfl fun wx hx => HLI.out wx (HK4.out.trans' hx)) ?_; simp only [Act.put, List.setIfInBounds_toArray, List.set_cons_zero, List.set_cons_succ])
      | (refine EachList.cons (.bool tR) (EachIf.call rfl 14 #[.agg Z] ?he ?h) ?_; (case he => (intro wz; go_simp)); (case h => exact fun wx hx => (HRT.out wx (HK0.out.trans' (HK4.out.trans' hx))).mono fun e w' he => ⟨he.1, hx.trans' he.2⟩); simp only [Act.put, List.setIfInBounds_toArray, List.set_cons_zero, List.set_cons_succ])
      | (refine EachList.cons (.bool tR) (EachIf.call rfl 15 #[.agg Z] ?he ?h) ?_; (case he => (intro wz; go_simp)); (case h => exact fun wx hx => (HRR.out wx (HK0.out.trans' (HK4.out.trans' hx))).mono fun e w' he => ⟨he.1, hx.trans' he.2⟩); simp only [Act.put, List.setIfInBounds_toArray, List.set_cons_zero, List.set_cons_succ])
      | (refine EachList.cons (.bool false) (EachIf.val rfl ?h) ?_; (case h => (intro wx hx; clear hx; first | (go_simp; done) | (go_simp; simp; done))); simp only [Act.put, List.setIfInBounds_toArray, List.set_cons_zero, List.set_cons_succ]))
    refine EachList.done fun w5 hx => ?_
    have HK5 := Lib.hid hx
    clear hx hne
    rcases HR.out with ⟨rfl, hno, rfl⟩ | hyes
    · -- it may not be laid
      have HNO := Lib.hid hno
      clear hno HR HNEED HWORD HSAME HBITS HFREE HX64 HX0 HXL HRT HS4 HL4
      by_cases i0 : i < 0
      · go_wp2_with fail
        refine (HMK.out w5 HK5.out).mono ?_; rintro e w' ⟨rfl, rfl⟩
        go_wp2_with fail
        go_ret
        exact ⟨rfl, HK0.out.trans' (HK4.out.trans' HK5.out)⟩
      · by_cases i1 : 31 < i
        · go_wp2_with fail
          refine (HMK.out w5 HK5.out).mono ?_; rintro e w' ⟨rfl, rfl⟩
          go_wp2_with fail
          go_ret
          exact ⟨rfl, HK0.out.trans' (HK4.out.trans' HK5.out)⟩
        · have HL5 := Lib.hid (HLI.out w5 (HK4.out.trans' HK5.out))
          cases tR
          · go_wp2_with ((with_reducible show wpList _ _ _ (⟨_, .load 25 (.tmp 5), _, _, _, _⟩ :: _) _ _); refine wpList_load_want (by first | rfl | simp [Region.wanted, yielded]) 25 (.tmp 5) rfl _ rfl _ HL5.out ?_)
            refine (HRR.out w5 (HK0.out.trans' (HK4.out.trans' HK5.out))).mono ?_; rintro e w6 ⟨rfl, hk6⟩
            have HK6 := Lib.hid (HK5.out.trans' hk6)
            clear hk6
            go_wp2_with fail
            refine (HMK.out w6 HK6.out).mono ?_; rintro e w' ⟨rfl, rfl⟩
            go_wp2_with fail
            go_ret
            exact ⟨rfl, HK0.out.trans' (HK4.out.trans' HK6.out)⟩
          · have hF1 : (n.F == 1) = false := by
              have : ¬ n.F = 1 := fun h => HNO.out ⟨⟨by omega, by omega⟩, h, of_decide_eq_true HTR.out⟩
              simpa using this
            have hF2 : (n.F != 1) = true := by rw [bne, hF1]; rfl
            go_wp2_with ((with_reducible show wpList _ _ _ (⟨_, .load 25 (.tmp 5), _, _, _, _⟩ :: _) _ _); refine wpList_load_want (by first | rfl | simp [Region.wanted, yielded]) 25 (.tmp 5) rfl _ rfl _ HL5.out ?_)
            refine (HRR.out w5 (HK0.out.trans' (HK4.out.trans' HK5.out))).mono ?_; rintro e w6 ⟨rfl, hk6⟩
            have HK6 := Lib.hid (HK5.out.trans' hk6)
            have c0 := HC0.out w6 (HK4.out.trans' HK6.out)
            clear hk6
            generalize n.F = f at *
            go_wp2_with fail
            refine (HMK.out w6 HK6.out).mono ?_; rintro e w' ⟨rfl, rfl⟩
            go_wp2_with fail
            go_ret
            exact ⟨rfl, HK0.out.trans' (HK4.out.trans' HK6.out)⟩
    · have HYES := Lib.hid hyes
      have hok : LayP i n := by rcases hyes with h | h <;> exact h.2.1
      have HOK := Lib.hid hok
      obtain rfl : tR = true := by rw [← HTR.out]; exact decide_eq_true hok.2.2
      have HYE : Hid ((r = 7 ∧ (freeL X).length < needN n ∧ qs = []) ∨ (r = 0 ∧ needN n ≤ (freeL X).length ∧ qs = layPs X i.toNat n ((freeL X).take (needN n)))) := by
        rcases hyes with ⟨h1, _, h2, h3⟩ | ⟨h1, _, h2, h3⟩
        · exact .inl ⟨h1, h2, h3⟩
        · exact .inr ⟨h1, h2, h3⟩
      have hF : n.F = 1 := hok.2.1
      have hi := hok.1
      have hbl := blocks_le hok.2.2
      obtain ⟨hnl, hnl1⟩ := needL_need HB.out (fun k => (right_len hok.2.2 HB.out k).1)
      have HALL : Hid (needN n ≤ (freeL X).length → LaidAt (putAll X (layPs X i.toNat n ((freeL X).take (needN n)))) (824 + 8 * i.toNat) n ((freeL X).take (needN n)) ∧ In64 (putAll X (layPs X i.toNat n ((freeL X).take (needN n)))) ∧
          (∀ k, 820 ≤ k → ¬ (824 + 8 * i.toNat ≤ k ∧ k < 824 + 8 * i.toNat + 8) → ¬ (1080 ≤ k ∧ (k - 1080) / 8 ∈ (freeL X).take (needN n)) → (putAll X (layPs X i.toNat n ((freeL X).take (needN n)))).getD k 0 = X.getD k 0)) := fun h => laid_all HX64.out HXL.out HB.out hok h
      have HWRD := Lib.hid (HWORD.out hok.2.2)
      have HCN := Lib.hid (need_le n)
      have HRP := Lib.hid hok.2.2
      clear hyes hok HR HYES HWORD HTR HRT
      obtain ⟨iN, hiN⟩ := Int.eq_ofNat_of_zero_le hi.1
      subst hiN
      rw [Int.toNat_natCast] at HYE HALL
      have i32 : iN < 32 := by omega
      have i0 : ¬ (iN : Int) < 0 := by omega
      have i1 : ¬ 31 < (iN : Int) := by omega
      have HL5 := Lib.hid (HLI.out w5 (HK4.out.trans' HK5.out))
      clear hi
      go_wp2_with ((with_reducible show wpList _ _ _ (⟨_, .load 25 (.tmp 5), _, _, _, _⟩ :: _) _ _); refine wpList_load_want (by first | rfl | simp [Region.wanted, yielded]) 25 (.tmp 5) rfl _ rfl _ HL5.out ?_)
      refine (HRR.out w5 (HK0.out.trans' (HK4.out.trans' HK5.out))).mono ?_; rintro e w6 ⟨rfl, hk6⟩
      have HK6 := Lib.hid (HK5.out.trans' hk6)
      have c0 := HC0.out w6 (HK4.out.trans' HK6.out)
      rw [hF] at c0
      have HL6 := Lib.hid (HL4.out w6 (HK4.out.trans' HK6.out))
      clear hk6 HK5 HL5 hF HC0 HRR HAW
      go_wp2_with ((with_reducible show wpList _ _ _ (⟨_, .load 31 (.tmp 3), _, _, _, _⟩ :: _) _ _); refine wpList_load_want (by first | rfl | simp [Region.wanted, yielded]) 31 (.tmp 3) rfl _ rfl _ HL6.out ?_)
      clear c0
      refine (HBITS.out w6).mono ?_; rintro e w7 ⟨gb, rfl, hob, hgb, hk7⟩
      have HK7 := Lib.hid (HK6.out.trans' hk7)
      have HFR := Lib.hid (HFREE.out _ _ w7 hob)
      clear hob hk7 hgb HL6 HK6 HFREE HBITS HL4
      go_wp2_with fail
      refine HFR.out.mono ?_; rintro e w8 ⟨vf, gf, rfl, hrf, hgf, hk8⟩
      have HK8 := Lib.hid (HK7.out.trans' hk8)
      have HL8 := Lib.hid (HLI.out w8 (HK4.out.trans' HK8.out))
      have HRF := Lib.hid hrf
      obtain ⟨af, capf, rfl, hcapf, hmaxf, -⟩ := ints_cell hrf
      clear hk8 hrf HFR HK7
      go_wp2_with ((with_reducible show wpList _ _ _ (⟨_, .load 25 (.tmp 5), _, _, _, _⟩ :: _) _ _); refine wpList_load_want (by first | rfl | simp [Region.wanted, yielded]) 25 (.tmp 5) rfl _ rfl _ HL8.out ?_)
      refine (HNEED.out w8).mono ?_; rintro e w9 ⟨rfl, hk9⟩
      have HK9 := Lib.hid (HK8.out.trans' hk9)
      have HRF9 := Lib.hid (HRF.out.keep hk9 (by simp))
      clear hk9 HK8 HL8 HRF HNEED
      have hdl : ((blocksN n.E.length : Nat) : Int) + ((needL n : Nat) : Int) = ((needN n : Nat) : Int) := by omega
      have hwn : wrap64 ((needN n : Nat) : Int) = ((needN n : Nat) : Int) := w64_small _ (by omega)
      have HNB : Hid (needN n ≤ 7) := Nat.le_trans HCN.out.2 (Nat.succ_le_succ hbl.2.1)
      clear hnl hnl1 hbl
      generalize blocksN n.E.length = d at *
      generalize needL n = ld at *
      rcases HYE.out with ⟨rfl, hfew, rfl⟩ | ⟨rfl, hen, hq⟩
      · clear HALL HWRD HCN HSAME HYE HRF9
        generalize (freeL X).length = fl at *
        generalize needN n = nn at *
        have hfi : (fl : Int) < (nn : Int) := by omega
        go_wp2_with fail
        refine (HMK.out w9 HK9.out).mono ?_; rintro e w' ⟨rfl, rfl⟩
        go_wp2_with fail
        go_ret
        exact ⟨rfl, HK0.out.trans' (HK4.out.trans' HK9.out)⟩
      · obtain ⟨hla, hl64, hl0⟩ := HALL.out hen
        rw [← hq] at hla hl64 hl0
        have HOI : Hid (∀ c ∈ (freeL X).take (needN n), c ≠ 0 ∧ c < 256) := own_in
        have HON : Hid ((freeL X).take (needN n)).Nodup := own_nodup
        have HOL := Lib.hid (own_len hen)
        have HRO := Lib.hid (reads_take HRF9.out hen)
        have hnc : needN n ≤ capf := by omega
        have hsu := slice_upto af (freeL X).length capf (needN n) hnc
        have HWS4 : Hid (∀ wx, Keeps [] w4 wx → Calls Tryd.prog 20 #[.pointer (some ⟨b, 0, none⟩)] wx (MadeWords wx (putAll X qs))) := fun wx hk => txWords_at (HS4.out.keep hk (by simp) (by simp))
        have HREAD : Hid (∀ wx, Keeps [] w4 wx → Calls Tryd.prog 12 #[.pointer (some ⟨b, 0, none⟩), .int .i64 ((iN : Nat) : Int)] wx (ReadPost wx (putAll X qs) ((iN : Nat) : Int))) := fun wx hk => read_at (HS4.out.keep hk (by simp) (by simp)) hl64 _
        have HYL : Hid ((putAll X qs).length = 3128) := by show _ = _; rw [putAll_len, HXL.out]
        have HY0 : Hid (∀ k, 820 ≤ k → ¬ (824 + 8 * iN ≤ k ∧ k < 824 + 8 * iN + 8) → ¬ (1080 ≤ k ∧ (k - 1080) / 8 ∈ (freeL X).take (needN n)) → (putAll X qs).getD k 0 = 0) := fun k h1 h2 h3 => by rw [hl0 k h1 h2 h3, HX0.out k h1]
        have HLA := Lib.hid hla
        clear hla hl64 hl0 hq HALL HYE HS4 HX64 HX0 HXL HMK HRF9
        generalize putAll X qs = Y at *
        generalize hown : (freeL X).take (needN n) = own at *
        clear hown
        generalize (freeL X).length = fl at *
        have hp : 824 + 8 * iN < 3128 := by omega
        have hs8 : 824 + 8 * (iN : Int) = ((824 + 8 * iN : Nat) : Int) := by omega
        have hm8 : wrap64 (8 * (iN : Int)) = 8 * (iN : Int) := by unfold wrap64; omega
        have hwp : wrap64 ((824 + 8 * iN : Nat) : Int) = ((824 + 8 * iN : Nat) : Int) := w64_small _ (by omega)
        have HROW : Hid (inoAtX Y ((iN : Nat) : Int) = rowL Y (824 + 8 * iN)) := by show rowL _ _ = _; rw [Int.toNat_natCast]
        generalize 824 + 8 * iN = p at *
        have HND := Lib.hid HOL.out
        generalize hnn : needN n = nn at *
        have HNN := Lib.hid hnn
        have hfi : ¬ (fl : Int) < (nn : Int) := fun h => absurd (Int.ofNat_lt.1 h) (Nat.not_lt.2 hen)
        clear hnn
        go_wp2_with fail
        refine (HWS4.out w9 HK9.out).mono ?_; rintro e w10 ⟨vw, gw, rfl, hrw, hgw, hk10⟩
        have HK10 := Lib.hid (HK9.out.trans' hk10)
        have HRO10 := Lib.hid (HRO.out.keep hk10 (by simp))
        obtain ⟨aw, cw, rfl, hcw, hmw, HWC⟩ := words_cell hrw
        rw [HYL.out] at hcw
        clear hk10 hrw HRO HWS4 hsu HK9 hdl hwn hfi
        rw [HYL.out]
        go_wp2_with fail
        go_loopg [14] 2308 (fun gh s14 wx => ∃ k : Nat, k + gh = 3128 ∧ 820 ≤ k ∧ s14 = .int .i64 (k : Int) ∧ Hid (Keeps [] w10 wx))
        case atStart => exact ⟨820, by omega, by omega, rfl, Keeps.refl _ _⟩
        case round =>
          obtain ⟨k, hk, hk820, rfl, HP⟩ := hrel
          have HKR := Lib.hid (HK10.out.trans' HP.out)
          have HRR := Lib.hid (HRO10.out.keep HP.out (by simp))
          cases gk with
          | zero =>
            obtain rfl : k = 3128 := by omega
            clear hk hk820 hm8 hs8 hwp HWRD
            go_wp2_with fail
            refine (HREAD.out wr HKR.out).mono ?_
            rintro e w11 ⟨m, vm, gm, ow, va, ga, ok, rfl, hmB, hme, hgm, hra, hga, hokt, hokf, hk11⟩
            obtain ⟨r1, r2, r3⟩ := read_laid HB.out HRP.out HOK.out.2.1 (HOL.out.trans HNN.out.symm) HOI.out HLA.out
            rw [← HROW.out] at r1 r2 r3
            cases ok
            · exact absurd ⟨⟨by omega, by omega⟩, r1⟩ (hokf rfl).1
            · obtain ⟨-, -, rfl, rfl⟩ := hokt rfl
              rw [r2] at hme hmB ⊢
              rw [r3] at hra
              have HK11 := Lib.hid (HKR.out.trans' hk11)
              have HRO11 := Lib.hid (HRR.out.keep hk11 (by simp))
              have hzi := zero_ino
              obtain ⟨w12, hst, hb12, hk12⟩ := store_ino (n := n) (v := vm) (Blk.new w11 (inoC inoZ (.slice none 0 0)) 25) rfl HB.out (reads_one hme)
              have HST := Lib.hid hst
              have hk112 : Keeps [] w11 w12 := ((Keeps.refl [] w11).alloc _).trans hk12 (by intro x hx; rw [List.mem_singleton] at hx; omega)
              have HK12 := Lib.hid (HK11.out.trans' hk112)
              have HRO12 := Lib.hid (HRO11.out.keep hk112 (by simp))
              have HRA12 := Lib.hid (hra.keep hk112 (by simp))
              have HL12 := Lib.hid (load_ino hb12 HB.out)
              have HLI12 := Lib.hid (HLI.out w12 (HK4.out.trans' HK12.out))
              have HSM := Lib.hid (HSAME.out vm gm w12 (HK0.out.trans' (HK4.out.trans' HK12.out)) (hme.keep hk112 (by simp)))
              clear hst hb12 hk12 hk112 hra hme hk11 hokt hokf r1 r2 r3 HREAD HSAME HLI HWC HP HRO11 HRR
              generalize inoC n vm = ZM at *
              generalize inoC inoZ (.slice none 0 0) = ZZ at *
              go_wp2_with (first | ((with_reducible show wpList _ _ _ (⟨_, .store 25 (.tmp 17) (.tmp 122), _, _, _, _⟩ :: _) _ _); refine wpList_store_any rfl 25 (.tmp 17) (.tmp 122) rfl _ rfl _ rfl _ HST.out ?_) | ((with_reducible show wpList _ _ _ (⟨_, .load 25 (.tmp 17), _, _, _, _⟩ :: _) _ _); refine wpList_load_want (by first | rfl | simp [Region.wanted, yielded]) 25 (.tmp 17) rfl _ rfl _ HL12.out ?_) | ((with_reducible show wpList _ _ _ (⟨_, .load 25 (.tmp 5), _, _, _, _⟩ :: _) _ _); refine wpList_load_want (by first | rfl | simp [Region.wanted, yielded]) 25 (.tmp 5) rfl _ rfl _ HLI12.out ?_))
              refine HSM.out.mono ?_; rintro e w13 ⟨rfl, hk13⟩
              have HK13 := Lib.hid (HK12.out.trans' hk13)
              have HSS := Lib.hid (sames_at own _ _ _ _ w13 (HRA12.out.keep hk13 (by simp)) (HRO12.out.keep hk13 (by simp)))
              clear hk13
              go_wp2_with fail
              refine HSS.out.mono ?_; rintro e w14 ⟨rfl, hk14⟩
              have HK14 := Lib.hid (HK13.out.trans' hk14)
              clear hk14
              go_wp2_with fail
              go_ret
              exact ⟨rfl, HK0.out.trans' (HK4.out.trans' HK14.out)⟩
          | succ gg =>
            have hk3 : (k : Int) < 3128 := by omega
            have hk0 : (0 : Int) ≤ (k : Int) := by omega
            have HLR := Lib.hid (HLI.out wr (HK4.out.trans' HKR.out))
            have HWD := Lib.hid (HWRD.out own (.slice af nn capf) gf p k HOL.out HOI.out HON.out hp (by omega) wr (HK0.out.trans' (HK4.out.trans' HKR.out)) HRR.out)
            go_wp2_with ((with_reducible show wpList _ _ _ (⟨_, .load 25 (.tmp 5), _, _, _, _⟩ :: _) _ _); refine wpList_load_want (by first | rfl | simp [Region.wanted, yielded]) 25 (.tmp 5) rfl _ rfl _ HLR.out ?_)
            refine HWD.out.mono ?_; rintro e w11 ⟨x, ok, rfl, hwant, hk11⟩
            obtain ⟨hxy, hx0⟩ := want_laid HLA.out (HY0.out k hk820) hwant
            have HK11 := Lib.hid (HP.out.trans' hk11)
            obtain ⟨hgl, offw, rfl, hcc⟩ := HWC.out k (by rw [HYL.out]; omega)
            have cw1 : w11.cell? ⟨gw, offw + k, none⟩ = some (.int .u64 x) := by rw [World.cell?_of_block (HK11.out.block gw hgl (by simp)), hcc, hxy]
            have hxx : (x != x) = false := by simp
            clear hwant hk11 hcc hxy HLR HWD HWRD HREAD HSAME HWC hs8 hm8 hwp
            cases ok
            · obtain rfl := hx0 rfl
              go_wp2_with fail
              go_roundg gg
              case measure => omega
              case rel => exact ⟨k + 1, by omega, by omega, by go_num, HK11.out⟩
            · go_wp2_with fail
              go_roundg gg
              case measure => omega
              case rel => exact ⟨k + 1, by omega, by omega, by go_num, HK11.out⟩

end Go.Proofs.YtmhcnkjmnbnldaaDoor

namespace Go.Proofs.YtmhcnkjmnbnldaaDoor
open Go.ChangeShapes Go.WideShapes Go.ChangeAt Go.RowKit

section
variable {H : Type} {enc : TypeId × Value → H} {W : World} {base : Nat} {spare : Nat → Bool} {held : Bool}

/-- The number in a cell. -/
def intV : Option Value → Int
  | some (.int _ z) => z
  | _ => 0

set_option maxRecDepth 100000 in
theorem open_n13 {fuel : Nat} {cs : List Value} {x : DataW H × List MemPlace} (h : DataW.trod enc Tryd.prog W base spare held fuel 22 cs = some x) : ∃ l : List Int, cs = zs l ∧ l.length = 13 := by
  obtain ⟨xs, m, -, -, hl, hlen, hf⟩ := DataW.trod_array Tryd.underlying22 h
  rw [show Tryd.prog.cellsOf 22 = 13 by kernel_rfl] at hl
  have hone : ∀ i, i < 13 → ∃ z : Int, cs[i]? = some (.int .i64 z) := fun i hi => by
    have h1 := hf i hi
    rw [show Tryd.prog.cellsOf 3 = 1 by kernel_rfl, Nat.mul_one, List.getElem?_eq_getElem (by omega : i < xs.length)] at h1
    obtain ⟨z, e, -, -⟩ := DataW.trod_int Tryd.underlying3 h1
    refine ⟨z, ?_⟩
    have h2 := congrArg (fun l => l[0]?) e
    simpa using h2
  refine ⟨(List.range 13).map fun i => intV cs[i]?, ?_, by simp⟩
  apply List.ext_getElem?
  intro i
  by_cases hi : i < 13
  · obtain ⟨z, hz⟩ := hone i hi
    have h2 : (zs ((List.range 13).map fun i => intV cs[i]?))[i]? = some (.int .i64 (intV cs[i]?)) := by simp [zs, hi]
    rw [h2, hz]
    rfl
  · rw [List.getElem?_eq_none (by omega), List.getElem?_eq_none (by simp [zs]; omega)]


set_option maxRecDepth 100000 in
theorem open_n13' {b0 : Nat} {v : Value} {d : DataW H} {p : List MemPlace} (hval : Value.okWide Tryd.prog W .any b0 22 v)
    (h : DataW.Trod enc Tryd.prog W base spare held 22 v d p) : ∃ l : List Int, v = .agg (zs l).toArray ∧ l.length = 13 := by
  obtain ⟨cs, rfl, hsz, _⟩ : ∃ cs, v = .agg cs ∧ cs.size = Tryd.prog.cellsOf 22 ∧ Row.okWide Tryd.prog W .any b0 22 cs := by
    simpa [Value.okWide, Tryd.underlying22] using hval
  obtain ⟨fuel, hf⟩ := h
  obtain ⟨l, e, hl⟩ := open_n13 hf
  refine ⟨l, ?_, hl⟩
  obtain ⟨c⟩ := cs
  simp [Value.cells] at e
  rw [e]

end

end Go.Proofs.YtmhcnkjmnbnldaaDoor

namespace Go.Proofs.YtmhcnkjmnbnldaaDoor
open Go.ChangeShapes Go.WideShapes Go.ChangeAt Go.RowKit

section
variable {H : Type} {enc : TypeId × Value → H} {W : World} {base : Nat} {spare : Nat → Bool} {held : Bool}

set_option maxRecDepth 100000 in
theorem open_entry {fuel : Nat} {cs : List Value} {x : DataW H × List MemPlace} (h : DataW.trod enc Tryd.prog W base spare held fuel 57 cs = some x) :
    ∃ (s : ByteArray) (y : Int), cs = [.string s, .int .i64 y] := by
  obtain ⟨xs, n, -, -, hl, hlen, hf⟩ := DataW.trod_struct Tryd.underlying57 h
  rw [show Tryd.prog.cellsOf 57 = 2 by kernel_rfl] at hl
  match cs, hl with
  | [c0, c1], _ =>
    have f0 : DataW.trod enc Tryd.prog W base spare held n 9 (([c0, c1].drop 0).take (Tryd.prog.cellsOf 9)) = xs[0]? := hf 0 _ rfl
    have f1 : DataW.trod enc Tryd.prog W base spare held n 3 (([c0, c1].drop 1).take (Tryd.prog.cellsOf 3)) = xs[1]? := hf 1 _ rfl
    simp only [show Tryd.prog.cellsOf 9 = 1 by kernel_rfl, show Tryd.prog.cellsOf 3 = 1 by kernel_rfl, List.drop_zero, List.drop_succ_cons, List.take_succ_cons, List.take_zero] at f0 f1
    match xs, hlen with
    | [y0, y1], _ =>
      simp only [List.getElem?_cons_zero, List.getElem?_cons_succ] at f0 f1
      obtain ⟨s, e0, -⟩ := DataW.trod_string Tryd.underlying9 f0
      obtain ⟨n1, e1, -, w1⟩ := DataW.trod_int Tryd.underlying3 f1
      simp only [List.cons.injEq, and_true] at e0 e1
      subst e0 e1
      exact ⟨s, n1, rfl⟩

set_option maxRecDepth 100000 in
theorem open_ents {fuel : Nat} {cs : List Value} {x : DataW H × List MemPlace} (h : DataW.trod enc Tryd.prog W base spare held fuel 23 cs = some x) :
    ∃ v g E, cs = [v] ∧ EReads W v g E := by
  obtain ⟨a, len, cap, rfl, h1, h2, h3⟩ := open_rows (sz := 2) Tryd.underlying23 (by kernel_rfl) (by omega) h
  by_cases h0 : len = 0
  · subst h0
    exact ⟨_, 0, [], rfl, ⟨a, cap, rfl, by simp, h2, fun h => absurd rfl h⟩⟩
  · obtain ⟨g, off, rfl, hg, hx⟩ := h3 h0
    have hex : ∀ i, i < len → ∃ p : ByteArray × Int, W.cell? ⟨g, off + i * 2, none⟩ = some (.string p.1) ∧ W.cell? ⟨g, off + i * 2 + 1, none⟩ = some (.int .i64 p.2) := fun i hi => by
      obtain ⟨cs', y, n, hl, hc, ht⟩ := hx i hi
      obtain ⟨q, z, rfl⟩ := open_entry ht
      exact ⟨(q, z), hc 0 (by omega), hc 1 (by omega)⟩
    obtain ⟨f, hf⟩ : ∃ f : Nat → ByteArray × Int, ∀ i, i < len → W.cell? ⟨g, off + i * 2, none⟩ = some (.string (f i).1) ∧ W.cell? ⟨g, off + i * 2 + 1, none⟩ = some (.int .i64 (f i).2) :=
      ⟨fun i => if h : i < len then Classical.choose (hex i h) else (ByteArray.empty, 0), fun i hi => by simp only [dif_pos hi]; exact Classical.choose_spec (hex i hi)⟩
    refine ⟨_, g, (List.range len).map f, rfl, ⟨_, cap, by simp, by simpa using h1, h2, fun _ => ⟨hg, off, rfl, fun j hj => ?_⟩⟩⟩
    have hj' : j < len := by simpa using hj
    have e1 : enm ((List.range len).map f) j = (f j).1 := by simp [enm, List.getD_eq_getElem?_getD, hj']
    have e2 : eno ((List.range len).map f) j = (f j).2 := by simp [eno, List.getD_eq_getElem?_getD, hj']
    rw [e1, e2]
    exact hf j hj'

set_option maxRecDepth 100000 in
theorem open_ino {b0 : Nat} {v : Value} {d : DataW H} {p : List MemPlace} (hval : Value.okWide Tryd.prog W .any b0 25 v)
    (h : DataW.Trod enc Tryd.prog W base spare held 25 v d p) : ∃ (n : Ino) (u : Value) (g : Nat), v = .agg (inoC n u) ∧ n.B.length = 13 ∧ EReads W u g n.E := by
  obtain ⟨cs, rfl, hsz, _⟩ : ∃ cs, v = .agg cs ∧ cs.size = Tryd.prog.cellsOf 25 ∧ Row.okWide Tryd.prog W .any b0 25 cs := by
    simpa [Value.okWide, Tryd.underlying25] using hval
  rw [show Tryd.prog.cellsOf 25 = 18 by kernel_rfl] at hsz
  obtain ⟨l⟩ := cs
  obtain ⟨fuel, hf⟩ := h
  obtain ⟨xs, n, -, -, hl, hlen, hf⟩ := DataW.trod_struct Tryd.underlying25 hf
  have hlen6 : xs.length = 6 := hlen
  have ci : Tryd.prog.cellsOf 3 = 1 := by kernel_rfl
  have one : ∀ (k : Nat) (hk : k < l.length) (y : DataW H × List MemPlace), DataW.trod enc Tryd.prog W base spare held n 3 ((l.drop k).take (Tryd.prog.cellsOf 3)) = some y → ∃ z : Int, l[k]? = some (.int .i64 z) := fun k hk y hy => by
    rw [ci] at hy
    obtain ⟨z, e, -, -⟩ := DataW.trod_int Tryd.underlying3 hy
    refine ⟨z, ?_⟩
    have h2 := congrArg (fun l => l[0]?) e
    simpa using h2
  have hsz' : l.length = 18 := hsz
  have hsome : ∀ i, i < 6 → ∃ y, xs[i]? = some y := fun i hi => ⟨xs[i], List.getElem?_eq_getElem (by omega)⟩
  obtain ⟨y0, e0⟩ := hsome 0 (by omega)
  obtain ⟨y1, e1⟩ := hsome 1 (by omega)
  obtain ⟨y2, e2⟩ := hsome 2 (by omega)
  obtain ⟨y3, e3⟩ := hsome 3 (by omega)
  obtain ⟨y4, e4⟩ := hsome 4 (by omega)
  obtain ⟨y5, e5⟩ := hsome 5 (by omega)
  have f0 : DataW.trod enc Tryd.prog W base spare held n 3 ((l.drop 0).take (Tryd.prog.cellsOf 3)) = xs[0]? := hf 0 _ rfl
  have f1 : DataW.trod enc Tryd.prog W base spare held n 3 ((l.drop 1).take (Tryd.prog.cellsOf 3)) = xs[1]? := hf 1 _ rfl
  have f2 : DataW.trod enc Tryd.prog W base spare held n 3 ((l.drop 2).take (Tryd.prog.cellsOf 3)) = xs[2]? := hf 2 _ rfl
  have f3 : DataW.trod enc Tryd.prog W base spare held n 3 ((l.drop 3).take (Tryd.prog.cellsOf 3)) = xs[3]? := hf 3 _ rfl
  have f4 : DataW.trod enc Tryd.prog W base spare held n 22 ((l.drop 4).take (Tryd.prog.cellsOf 22)) = xs[4]? := hf 4 _ rfl
  have f5 : DataW.trod enc Tryd.prog W base spare held n 23 ((l.drop 17).take (Tryd.prog.cellsOf 23)) = xs[5]? := hf 5 _ rfl
  rw [e0] at f0
  rw [e1] at f1
  rw [e2] at f2
  rw [e3] at f3
  rw [e4] at f4
  rw [e5] at f5
  obtain ⟨z0, g0⟩ := one 0 (by omega) _ f0
  obtain ⟨z1, g1⟩ := one 1 (by omega) _ f1
  obtain ⟨z2, g2⟩ := one 2 (by omega) _ f2
  obtain ⟨z3, g3⟩ := one 3 (by omega) _ f3
  obtain ⟨B, eB, hB⟩ := open_n13 f4
  obtain ⟨u, g, E, eE, hE⟩ := open_ents f5
  rw [show Tryd.prog.cellsOf 22 = 13 by kernel_rfl] at eB
  rw [show Tryd.prog.cellsOf 23 = 1 by kernel_rfl] at eE
  refine ⟨⟨z0, z1, z2, z3, B, E⟩, u, g, ?_, hB, hE⟩
  have hl4 : l = (l.take 4) ++ ((l.drop 4).take 13 ++ (l.drop 17).take 1) := by
    have h1 : (l.drop 4).take 13 ++ (l.drop 17).take 1 = l.drop 4 := by
      rw [List.take_of_length_le (l := l.drop 17) (by rw [List.length_drop]; omega)]
      have := List.take_append_drop 13 (l.drop 4)
      rwa [List.drop_drop] at this
    rw [h1, List.take_append_drop]
  have ht4 : l.take 4 = [.int .i64 z0, .int .i64 z1, .int .i64 z2, .int .i64 z3] := by
    apply List.ext_getElem?
    intro i
    rcases (show i = 0 ∨ i = 1 ∨ i = 2 ∨ i = 3 ∨ 4 ≤ i by omega) with rfl | rfl | rfl | rfl | hi
    · rw [List.getElem?_take, if_pos (by omega), g0]; rfl
    · rw [List.getElem?_take, if_pos (by omega), g1]; rfl
    · rw [List.getElem?_take, if_pos (by omega), g2]; rfl
    · rw [List.getElem?_take, if_pos (by omega), g3]; rfl
    · rw [List.getElem?_eq_none (by rw [List.length_take]; omega), List.getElem?_eq_none (by simpa using hi)]
  rw [hl4, ht4, eB, eE]
  rfl

set_option maxRecDepth 100000 in
theorem open_pair {fuel : Nat} {cs : List Value} {x : DataW H × List MemPlace} (h : DataW.trod enc Tryd.prog W base spare held fuel 53 cs = some x) :
    ∃ a y : Int, cs = [.int .i64 a, .int .u64 y] ∧ (-9223372036854775808 ≤ a ∧ a ≤ 9223372036854775807) ∧ 0 ≤ y ∧ y ≤ 18446744073709551615 := by
  obtain ⟨xs, n, -, -, hl, hlen, hf⟩ := DataW.trod_struct Tryd.underlying53 h
  rw [show Tryd.prog.cellsOf 53 = 2 by kernel_rfl] at hl
  match cs, hl with
  | [c0, c1], _ =>
    have f0 : DataW.trod enc Tryd.prog W base spare held n 3 (([c0, c1].drop 0).take (Tryd.prog.cellsOf 3)) = xs[0]? := hf 0 _ rfl
    have f1 : DataW.trod enc Tryd.prog W base spare held n 30 (([c0, c1].drop 1).take (Tryd.prog.cellsOf 30)) = xs[1]? := hf 1 _ rfl
    simp only [show Tryd.prog.cellsOf 3 = 1 by kernel_rfl, show Tryd.prog.cellsOf 30 = 1 by kernel_rfl, List.drop_zero, List.drop_succ_cons, List.take_succ_cons, List.take_zero] at f0 f1
    match xs, hlen with
    | [y0, y1], _ =>
      simp only [List.getElem?_cons_zero, List.getElem?_cons_succ] at f0 f1
      obtain ⟨n0, e0, -, w0⟩ := DataW.trod_int Tryd.underlying3 f0
      obtain ⟨n1, e1, -, w1⟩ := DataW.trod_int Tryd.underlying30 f1
      simp only [List.cons.injEq, and_true] at e0 e1
      subst e0 e1
      exact ⟨n0, n1, rfl, bounds_i64 w0, bounds_u64 w1⟩

set_option maxRecDepth 100000 in
theorem open_pairs {fuel : Nat} {cs : List Value} {x : DataW H × List MemPlace} (h : DataW.trod enc Tryd.prog W base spare held fuel 50 cs = some x) :
    ∃ v g ps, cs = [v] ∧ PReads W v g ps ∧ okP ps := by
  obtain ⟨a, len, cap, rfl, h1, h2, h3⟩ := open_rows (sz := 2) Tryd.underlying50 (by kernel_rfl) (by omega) h
  by_cases h0 : len = 0
  · subst h0
    exact ⟨_, 0, [], rfl, ⟨a, cap, rfl, by simp, h2, fun h => absurd rfl h⟩, by intro p hp; simp at hp⟩
  · obtain ⟨g, off, rfl, hg, hx⟩ := h3 h0
    have hex : ∀ i, i < len → ∃ p : Int × Int, ((-9223372036854775808 ≤ p.1 ∧ p.1 ≤ 9223372036854775807) ∧ 0 ≤ p.2 ∧ p.2 ≤ 18446744073709551615) ∧
        W.cell? ⟨g, off + i * 2, none⟩ = some (.int .i64 p.1) ∧ W.cell? ⟨g, off + i * 2 + 1, none⟩ = some (.int .u64 p.2) := fun i hi => by
      obtain ⟨cs', y, n, hl, hc, ht⟩ := hx i hi
      obtain ⟨q, z, rfl, hq, hz⟩ := open_pair ht
      exact ⟨(q, z), ⟨hq, hz⟩, hc 0 (by omega), hc 1 (by omega)⟩
    obtain ⟨f, hf⟩ : ∃ f : Nat → Int × Int, ∀ i, i < len → ((-9223372036854775808 ≤ (f i).1 ∧ (f i).1 ≤ 9223372036854775807) ∧ 0 ≤ (f i).2 ∧ (f i).2 ≤ 18446744073709551615) ∧
        W.cell? ⟨g, off + i * 2, none⟩ = some (.int .i64 (f i).1) ∧ W.cell? ⟨g, off + i * 2 + 1, none⟩ = some (.int .u64 (f i).2) :=
      ⟨fun i => if h : i < len then Classical.choose (hex i h) else (0, 0), fun i hi => by simp only [dif_pos hi]; exact Classical.choose_spec (hex i hi)⟩
    refine ⟨_, g, (List.range len).map f, rfl, ⟨_, cap, by simp, by simpa using h1, h2, fun _ => ⟨hg, off, rfl, fun j hj => ?_⟩⟩, ?_⟩
    · have hj' : j < len := by simpa using hj
      have e1 : patN ((List.range len).map f) j = (f j).1 := by simp [patN, List.getD_eq_getElem?_getD, hj']
      have e2 : pwdN ((List.range len).map f) j = (f j).2 := by simp [pwdN, List.getD_eq_getElem?_getD, hj']
      rw [e1, e2]
      exact (hf j hj').2
    · intro p hp
      simp only [List.mem_map, List.mem_range] at hp
      obtain ⟨i, hi, rfl⟩ := hp
      exact (hf i hi).1
end

end Go.Proofs.YtmhcnkjmnbnldaaDoor
