/-
  Layer 9, the laws' awake. Layer 9: the reference's Find. Layer 9: Without. Layer 6, the reference: Right. Layer 6, the reference: Few.
-/
import Derived.Test.YtlfkodlnhfdgjaaG08
import Derived.Test.YtlfkodlnhfdgjaaG07
import Derived.Test.YtlfkodlnhfdgjaaRows
import Derived.Test.YtlfkodlnhfdgjaaG02
import Derived.Deep.LoopGhost
import Derived.Test.YtlfkodlnhfdgjaaG03
import Derived.BigQuiet
namespace Go.Proofs.Ytlfkodlnhfdgjaa
open Go.RowKit

def inoK : Ino := ⟨0, 2, 0, 0, List.replicate 13 0, []⟩
def nmA : ByteArray := ⟨#[97]⟩

theorem store_ino9 {w : World} {g T : Nat} {cur : Array Value} {n : Ino} {v : Value} (hb : Blk w g cur T) (hc : cur.size = 18) (hB : n.B.length = 13) (hv : v.oneCell' = true) :
    ∃ w', (storeVar 25 ⟨g, 0, none⟩ (.agg (inoC n v))).run Try.prog w = .ok () w' ∧ Blk w' g (inoC n v) T ∧ Keeps [g] w w' :=
  store_whole (P := Try.prog) (ty := 25) (cs := inoL n v) (by rw [inoL_len, hB]; exact size_ino) hb (by rw [hc, inoL_len, hB]) (inoL_one hv)

theorem EReads.one {w : World} {v : Value} {g : Nat} {E : List (ByteArray × Int)} (h : EReads w v g E) : v.oneCell' = true := by
  obtain ⟨a, cap, rfl, -⟩ := h
  rfl

set_option maxRecDepth 100000 in
set_option maxHeartbeats 2000000 in
theorem awake9_at (w : World) : Calls Try.prog 4 #[] w fun e w' => e = .returned (.bool true) ∧ Keeps [] w w' := by
  have hwi := with_at9 (w := w) inoK (v := .slice none 0 0) (g := 0) (A := []) (M := []) (B := []) (nm := nmA) 7 rfl (EReads.nil w 0) ⟨rfl, by simp, by simp, .inl rfl⟩ (by show 0 ≤ 500; omega)
  have hLf : ([] ++ ([(nmA, (7 : Int))] ++ []) : List (ByteArray × Int)) = [(nmA, 7)] := rfl
  rw [hLf] at hwi
  unfold EditPost at hwi
  have h1 : inoC inoK (.slice none 0 0) = #[.int .i64 0, .int .i64 2, .int .i64 0, .int .i64 0, .int .i64 0, .int .i64 0, .int .i64 0, .int .i64 0, .int .i64 0, .int .i64 0, .int .i64 0, .int .i64 0, .int .i64 0, .int .i64 0, .int .i64 0, .int .i64 0, .int .i64 0, .slice none 0 0] := rfl
  have hz0 : inoC inoZ (.slice none 0 0) = #[.int .i64 0, .int .i64 0, .int .i64 0, .int .i64 0, .int .i64 0, .int .i64 0, .int .i64 0, .int .i64 0, .int .i64 0, .int .i64 0, .int .i64 0, .int .i64 0, .int .i64 0, .int .i64 0, .int .i64 0, .int .i64 0, .int .i64 0, .slice none 0 0] := rfl
  have hzv := zero_ino
  rw [hz0] at hzv
  rw [h1] at hwi
  have HZ0 := Lib.hid hz0
  have HW := Lib.hid hwi
  have HS : Hid (∀ (w1 : World) (u : Value) (g : Nat), EReads w1 u g [(nmA, 7)] → ∃ w3, (storeVar 25 ⟨w1.heap.size, 0, none⟩ (.agg (inoC (setE inoK [(nmA, 7)]) u))).run Try.prog (w1.alloc (.cells #[.int .i64 0, .int .i64 0, .int .i64 0, .int .i64 0, .int .i64 0, .int .i64 0, .int .i64 0, .int .i64 0, .int .i64 0, .int .i64 0, .int .i64 0, .int .i64 0, .int .i64 0, .int .i64 0, .int .i64 0, .int .i64 0, .int .i64 0, .slice none 0 0] 25)) = .ok () w3 ∧
      Keeps [] w1 w3 ∧ (loadVar 25 ⟨w1.heap.size, 0, none⟩).run Try.prog w3 = .ok (.agg (inoC (setE inoK [(nmA, 7)]) u)) w3 ∧
      Calls Try.prog 8 #[.agg (inoC (setE inoK [(nmA, 7)]) u), .string nmA] w3 (fun e w' => e = .returned (.tuple #[.int .i64 7, .bool true]) ∧ Keeps [] w3 w' ∧ w'.cell? ⟨w1.heap.size, 3, none⟩ = some (.int .i64 1))) := fun w1 u g hE => by
    obtain ⟨w3, q1, q2, q3⟩ := store_ino9 (n := setE inoK [(nmA, 7)]) (v := u) (Blk.new w1 (inoC inoZ (.slice none 0 0)) 25) rfl rfl hE.one
    have hk : Keeps [] w1 w3 := ((Keeps.refl [] w1).alloc _).trans q3 (by intro x hx; rw [List.mem_singleton] at hx; omega)
    refine ⟨w3, q1, hk, load_ino q2 rfl, (find_at (setE inoK [(nmA, 7)]) (A := []) (M := [(nmA, 7)]) (B := []) rfl (hE.keep hk (by simp)) ⟨rfl, by simp, by simp, .inr ⟨7, rfl⟩⟩ (by show 1 ≤ 1000; omega)).mono ?_⟩
    rintro e w' ⟨he, hk'⟩
    exact ⟨he, hk', by rw [(q2.keep hk' (by simp)).cell]; rfl⟩
  clear hwi hz0 h1 hLf
  go_enter Try.func4, Try.ntmps4
  go_wp2_with fail
  refine HW.out.mono ?_; rintro e w1 ⟨u, g, rfl, hu, hg, hk1⟩
  obtain ⟨w3, q1, hk3, q2, q3⟩ := HS.out w1 u g hu
  have HS1 := Lib.hid q1
  have HL := Lib.hid q2
  have HF := Lib.hid q3
  have HK := Lib.hid (hk1.trans' hk3)
  clear hu hg hk1 q1 q2 q3 hk3 HS HW
  generalize inoC (setE inoK [(nmA, 7)]) u = Z at *
  go_wp2_with (first | ((with_reducible show wpList _ _ _ (⟨_, .load 25 (.tmp 1), _, _, _, _⟩ :: _) _ _); refine wpList_load_any rfl 25 (.tmp 1) rfl _ rfl _ HL.out ?_) | ((with_reducible show wpList _ _ _ (⟨_, .store 25 (.tmp 1) (.tmp 6), _, _, _, _⟩ :: _) _ _); refine wpList_store_any rfl 25 (.tmp 1) (.tmp 6) rfl _ rfl _ rfl _ HS1.out ?_))
  refine HF.out.mono ?_; rintro e w4 ⟨rfl, hk4, c3⟩
  have HKF := Lib.hid (HK.out.trans' hk4)
  clear hk4
  go_wp2_with fail
  go_ret
  exact ⟨rfl, HKF.out⟩

end Go.Proofs.Ytlfkodlnhfdgjaa

namespace Go.Proofs.Ytlfkodlnhfdgjaa
open Go.RowKit

set_option maxRecDepth 100000 in
set_option maxHeartbeats 2000000 in
theorem refFind_at {w : World} {v : Value} {g : Nat} {E : List (ByteArray × Int)} (nm : ByteArray) (hE : EReads w v g E) :
    Calls Try.prog 7 #[v, .string nm] w fun e w' => e = .returned (.int .i64 (findE E nm)) ∧ w = w' := by
  obtain ⟨a, cap, rfl, hcap, hmax, HEC⟩ := hE.open
  have HF := Lib.hid (@findE_at E nm)
  have HN := Lib.hid (@findE_none E nm)
  unfold maxLen at hmax
  clear hE
  generalize hm : E.length = m at *
  clear hm
  go_enter Try.func7, Try.ntmps7
  go_wp2_with fail
  go_loopg [5] m (fun gh s5 wx => ∃ k : Nat, k + gh = m ∧ s5 = .int .i64 (k : Int) ∧ wx = w ∧ Hid (∀ j, j < k → enm E j ≠ nm))
  case atStart => exact ⟨0, by omega, rfl, rfl, fun j hj => by omega⟩
  case round =>
    obtain ⟨k, hk, rfl, rfl, HP⟩ := hrel
    cases gk with
    | zero =>
      obtain rfl : k = m := by omega
      have HR := Lib.hid (HN.out HP.out)
      clear HF HN HP
      go_wp2_with fail
      go_ret
      exact ⟨by rw [HR.out]; rfl, rfl⟩
    | succ gg =>
      have hkm : k < m := by omega
      have hlt : (k : Int) < (m : Int) := by omega
      have hk0 : (0 : Int) ≤ (k : Int) := by omega
      obtain ⟨hgg, off, rfl, c0, c1⟩ := HEC.out k hkm
      by_cases he : enm E k = nm
      · have HR := Lib.hid (HF.out k HP.out hkm he)
        have hb : ((enm E k).toList == nm.toList) = true := by rw [he]; simp
        clear HF HN HP HEC he
        generalize enm E k = nk at *
        generalize eno E k = ik at *
        go_wp2_with fail
        go_ret
        exact ⟨by rw [HR.out]; rfl, rfl⟩
      · have hb : ((enm E k).toList == nm.toList) = false := by
          rw [beq_eq_false_iff_ne]
          exact fun h => he (bytes_ext h)
        have HP2 : Hid (∀ j, j < k + 1 → enm E j ≠ nm) := fun j hj => by
          by_cases e : j = k
          · rw [e]; exact he
          · exact HP.out j (by omega)
        clear HF HN HP HEC he
        generalize enm E k = nk at *
        generalize eno E k = ik at *
        go_wp2_with fail
        go_roundg gg
        case measure => omega
        case rel => exact ⟨k + 1, by omega, by go_num, rfl, HP2.out⟩

end Go.Proofs.Ytlfkodlnhfdgjaa

namespace Go.Proofs.Ytlfkodlnhfdgjaa
open Go.RowKit

set_option maxRecDepth 100000 in
set_option maxHeartbeats 4000000 in
theorem without_at {w : World} (n : Ino) {v : Value} {g : Nat} {A M B : List (ByteArray × Int)} {nm : ByteArray} (hB : n.B.length = 13) (hE : EReads w v g n.E) (hs : SplitE n.E A M B nm) (hE1 : n.E.length ≤ 500) :
    Calls Try.prog 10 #[.agg (inoC n v), .string nm] w (EditPost w n (A ++ B)) := by
  have hln := hs.newLen 0
  obtain ⟨L, hL⟩ : ∃ L, A ++ B = L := ⟨_, rfl⟩
  rw [hL] at hln ⊢
  have HL := Lib.hid hL
  have hl0 : (inoC inoZ (.slice none 0 0)).size = 18 := rfl
  have hzv := zero_ino
  have hb0 := (Blk.new w (inoC n v) 25).alloc (.cells (inoC inoZ (.slice none 0 0)) 25)
  have hb2 := Blk.new (w.alloc (.cells (inoC n v) 25)) (inoC inoZ (.slice none 0 0)) 25
  rw [show (w.alloc (.cells (inoC n v) 25)).heap.size = w.heap.size + 1 by simp] at hb2
  have hk2 : Keeps [] w ((w.alloc (.cells (inoC n v) 25)).alloc (.cells (inoC inoZ (.slice none 0 0)) 25)) := ((Keeps.refl [] w).alloc _).alloc _
  have har := around_at (hE.keep hk2 (by simp)) hs (by omega)
  have HLN : Hid (L.length ≤ 1000) := by show _ ≤ _; omega
  have hat := inoAt v hB
  have hone : ∀ u : Value, u.oneCell' = true → ∀ x ∈ inoL (setE n L) u, x.oneCell' = true := fun u hu => inoL_one hu
  have HONE := Lib.hid hone
  have HHV : Hid (∀ wx a c, Calls Try.prog 15 #[.agg (inoC n v), .slice a L.length c] wx fun e w' => e = .returned (.agg (inoC (setE n L) (.slice a L.length c))) ∧ Keeps [] wx w') := fun wx a c => having_at n v hB L _ rfl
  have hll : ∀ u, (inoL (setE n L) u).length = 18 := fun u => by rw [inoL_len]; show n.B.length + 5 = 18; omega
  have HLL := Lib.hid hll
  obtain ⟨a, cap, rfl, hcap, hmax, -⟩ := hE.open
  have h17 := hat.f5
  have HLDN : Hid (∀ wx, Blk wx w.heap.size (inoC n (.slice a n.E.length cap)) 25 → (loadVar 25 ⟨w.heap.size, 0, none⟩).run Try.prog wx = .ok (.agg (inoC n (.slice a n.E.length cap))) wx) := fun wx hb => load_ino hb hB
  generalize inoC inoZ (.slice none 0 0) = Z0 at *
  generalize inoC n (.slice a n.E.length cap) = Z at *
  have c17 : ((w.alloc (.cells Z 25)).alloc (.cells Z0 25)).cell? ⟨w.heap.size, 17, none⟩ = some (.slice a n.E.length cap) := by rw [hb0.cell]; exact h17
  have HAR := Lib.hid har
  have HB0 := Lib.hid hb0
  have HB2 := Lib.hid hb2
  have HK2 := Lib.hid hk2
  have H0 := Lib.hid hl0
  clear har hb0 hb2 hk2 hat hone hll hl0 hE hs hln hE1 h17 hB hcap hmax hL
  go_enter Try.func10, Try.ntmps10
  go_wp2_with fail
  refine HAR.out.mono ?_; rintro e w3 ⟨x, y, rfl, hx, hy, hk3⟩
  obtain ⟨a1, c1, hxv, -, -, -⟩ := hx.open
  obtain ⟨a2, c2, hyv, -, -, -⟩ := hy.open
  subst hxv hyv
  have hz3 : w.heap.size + 2 ≤ w3.heap.size := by have := hk3.size; simp at this; omega
  have HZ3 := Lib.hid hz3
  have HB0 := Lib.hid (HB0.out.keep hk3 (by simp))
  have HB2 := Lib.hid (HB2.out.keep hk3 (by simp))
  have HK3 := Lib.hid (HK2.out.trans' hk3)
  have HX := Lib.hid (hx.keep hk3 (by simp))
  have HY := Lib.hid (hy.keep hk3 (by simp))
  clear hx hy hk3 HAR hz3 c17
  go_wp2_with fail
  refine wp_region_order (S := fun wx => Keeps [w.heap.size + 1] w3 wx) [0, 1, 2] [3, 4, 5, 6] (l := [_, _, _]) (tl := [_, _, _, _]) (by kernel_rfl) (by kernel_rfl) (by kernel_rfl) (by kernel_rfl) rfl rfl rfl rfl rfl (fun d _ _ _ _ h => by cases d <;> exact h) (Keeps.refl _ _).drew ?_
  refine YieldList.cons _ (YieldsIf.load rfl 25 (.tmp 2) rfl _ rfl fun wx hx => HLDN.out wx (HB0.out.keep hx (by simp))) ?_
  simp only [Act.put, List.setIfInBounds_toArray, List.set_cons_zero, List.set_cons_succ]
  refine YieldList.cons ?_ (YieldsIf.val rfl ?h) ?_; (case h => (intro wx hx; clear hx; go_simp; rfl)); simp only [Act.put, List.setIfInBounds_toArray, List.set_cons_zero, List.set_cons_succ]
  refine YieldList.cons ?_ (YieldsIf.val rfl ?h) ?_; (case h => (intro wx hx; clear hx; go_simp; rfl)); simp only [Act.put, List.setIfInBounds_toArray, List.set_cons_zero, List.set_cons_succ]
  refine YieldList.done ?_
  unfold tailS
  go_wp2_with fail
  refine ⟨((Keeps.refl _ _).drew).alloc _, ?_⟩
  unfold tailS
  have hk5 : Keeps [] w3 ((w3.alloc (.cells #[.slice a1 A.length c1, .slice a2 B.length c2] 23)).drew) := ((Keeps.refl _ _).alloc _).drew
  have hb6 : Blk ((w3.alloc (.cells #[.slice a1 A.length c1, .slice a2 B.length c2] 23)).drew) w3.heap.size ([.slice a1 A.length c1, .slice a2 B.length c2] : List Value).toArray 23 := (Blk.new w3 #[.slice a1 A.length c1, .slice a2 B.length c2] 23).drew
  have hfl : [A, B].flatten = L := by rw [← HL.out]; simp
  have hx5 := HX.out.keep hk5 (by simp)
  have hy5 := HY.out.keep hk5 (by simp)
  have hcon := concatE_at (Ls := [A, B]) hb6 rfl (by simp)
    (list2 (P := fun j => ∃ g, EReads ((w3.alloc (.cells #[.slice a1 A.length c1, .slice a2 B.length c2] 23)).drew) (([.slice a1 A.length c1, .slice a2 B.length c2] : List Value).getD j (.slice none 0 0)) g ([A, B].getD j [])) ⟨g, hx5⟩ ⟨g, hy5⟩)
    (by rw [hfl]; exact HLN.out)
  rw [hfl] at hcon
  have HCON := Lib.hid hcon
  have HK5 := Lib.hid hk5
  clear hcon hk5 hb6 hfl hx5 hy5
  go_wp2_with fail
  refine HCON.out.mono ?_; rintro e w6 ⟨u, gu, rfl, hu, hgu, hk6⟩
  obtain ⟨a6, c6, huv, -, -, -⟩ := hu.open
  subst huv
  have HK6 := Lib.hid (HK5.out.trans' hk6)
  have HU := Lib.hid hu
  have HGU : Hid (w3.heap.size ≤ gu) := Nat.le_trans HK5.out.size hgu
  clear hu hgu hk6 HCON HK5
  have HV := Lib.hid (HHV.out w6 a6 c6)
  have HONE6 := Lib.hid (HONE.out (.slice a6 L.length c6) rfl)
  have HLL6 := Lib.hid (HLL.out (.slice a6 L.length c6))
  have HZL : Hid (inoC (setE n L) (.slice a6 L.length c6) = (inoL (setE n L) (.slice a6 L.length c6)).toArray) := rfl
  have HEP : Hid (∀ w', EReads w' (.slice a6 L.length c6) gu L → Keeps [] w w' → EditPost w n L (.returned (.agg (inoC (setE n L) (.slice a6 L.length c6)))) w') := fun w' h1 h2 => ⟨_, gu, rfl, h1, by have := HGU.out; have := HZ3.out; omega, h2⟩
  clear HONE HLL HHV
  generalize inoC (setE n L) (.slice a6 L.length c6) = Z6 at *
  generalize inoL (setE n L) (.slice a6 L.length c6) = ZL at *
  generalize L.length = m at *
  go_wp2_with fail
  refine ⟨HK6.out.mono (by simp), ?_⟩
  unfold tailS
  go_wp2_with fail
  refine HV.out.mono ?_; rintro e w7 ⟨rfl, hk7⟩
  have HK7 := Lib.hid (HK6.out.trans' hk7)
  have HU7 := Lib.hid (HU.out.keep hk7 (by simp))
  obtain ⟨w8, q1, q2, q3⟩ := store_whole (P := Try.prog) (ty := 25) (cs := ZL) (by rw [HLL6.out]; exact size_ino) (HB2.out.keep HK7.out (by simp)) (by rw [HLL6.out]; exact H0.out) HONE6.out
  rw [← HZL.out] at q1
  have HS := Lib.hid q1
  have HL8 : Hid ((loadVar 25 ⟨w.heap.size + 1, 0, none⟩).run Try.prog w8 = .ok (.agg Z6) w8) := by
    rw [HZL.out]
    exact run_loadVar_cells _ 0 ZL Try.underlying25 rfl (by rw [HLL6.out]; exact size_ino) fun j _ => by rw [q2.cell, Nat.zero_add, List.getElem?_toArray]
  have HK8 := Lib.hid ((HK7.out.mono (l' := [w.heap.size + 1]) (by simp)).trans' q3)
  have HF := Lib.hid (HEP.out w8 (HU7.out.keep q3 (by have := HGU.out; have := HZ3.out; intro _ h; rw [List.mem_singleton] at h; omega)) (HK3.out.trans HK8.out (by intro z hz; rw [List.mem_singleton] at hz; omega)))
  clear q1 q2 q3 hk7 HV HEP
  go_wp2_with fail
  refine ⟨HK7.out.mono (by simp), ?_⟩
  unfold tailS
  refine wpList_store_any rfl 25 (.tmp 4) (.tmp 19) rfl ⟨w.heap.size + 1, 0, none⟩ rfl (.agg Z6) rfl w8 HS.out ?_
  go_wp2_with fail
  refine ⟨HK8.out, ?_⟩
  unfold tailS
  go_wp2_with fail
  exact bodyPost_ret (results_cell Try.results10 rfl HL8.out) rfl HF.out

end Go.Proofs.Ytlfkodlnhfdgjaa

namespace Go.Proofs.Ytlfkodlnhfdgjaa
open Go.RowKit

/-- What the reference asks of each number. -/
def NumR (n : Ino) (k : Nat) : Prop := (0 ≤ n.B.getD k 0 ∧ n.B.getD k 0 ≤ 255) ∧ (0 < n.B.getD k 0 → n.K ≠ 2 ∧ 64 * (k : Int) < n.S ∧ ∀ j, j < k → n.B.getD j 0 ≠ n.B.getD k 0)

theorem right_num {n : Ino} (hB : n.B.length = 13) (h : RightP n) : ∀ k, k < 13 → NumR n k := by
  intro k hk
  rcases h.2.2 with ⟨hK, h1, h2, h3, h4⟩ | ⟨hK, h1, h2, h3, h4⟩
  · have h5 := h4 k hk
    refine ⟨by omega, fun h0 => ⟨by omega, ?_, fun j hj => h5.2 (by omega) j hj⟩⟩
    rcases Nat.lt_or_ge k (partsN n.S.toNat) with hp | hp
    · unfold partsN at hp; omega
    · have hp13 : partsN n.S.toNat ≤ 13 := by unfold partsN; omega
      rw [h3, uptoL_get hB hp13, if_neg (by omega)] at h0
      omega
  · have e : n.B.getD k 0 = 0 := by
      rw [h3, List.getD_eq_getElem?_getD, List.getElem?_replicate]
      split <;> rfl
    exact ⟨by omega, fun h0 => by omega⟩

theorem num_file {n : Ino} (hB : n.B.length = 13) (hF : n.F = 1 ∨ n.F = 2) (hL : 0 ≤ n.L ∧ n.L ≤ 65535) (hK : n.K = 1) (h : ∀ k, k < 13 → NumR n k) : RightP n ↔ (0 ≤ n.S ∧ n.S ≤ 832 ∧ n.E.length = 0) := by
  constructor
  · intro hr
    rcases hr.2.2 with ⟨_, h1, h2, h3, h4⟩ | ⟨hK', _⟩
    · exact ⟨h1.1, h1.2, h2⟩
    · omega
  · rintro ⟨h1, h2, h3⟩
    have hp13 : partsN n.S.toNat ≤ 13 := by unfold partsN; omega
    refine ⟨hF, hL, .inl ⟨hK, ⟨h1, h2⟩, h3, z_ext (by rw [hB, uptoL_len hB hp13]) fun k hk => ?_, fun k hk => ?_⟩⟩
    · rw [hB] at hk
      rw [uptoL_get hB hp13]
      split
      · rfl
      · rename_i hp
        have h5 := h k hk
        rcases Int.lt_or_le 0 (n.B.getD k 0) with h0 | h0
        · have := (h5.2 h0).2.1
          unfold partsN at hp
          omega
        · have := h5.1.1
          omega
    · have h5 := h k hk
      refine ⟨⟨h5.1.1, by have := h5.1.2; omega⟩, fun h0 => (h5.2 (by have := h5.1.1; omega)).2.2⟩

theorem num_dir {n : Ino} (hB : n.B.length = 13) (hF : n.F = 1 ∨ n.F = 2) (hL : 0 ≤ n.L ∧ n.L ≤ 65535) (hK : n.K = 2) (h : ∀ k, k < 13 → NumR n k) : RightP n ↔ (n.E.length ≤ 24 ∧ n.S = n.E.length) ∧ ∀ k, k < n.E.length → EntP n.E k := by
  constructor
  · intro hr
    rcases hr.2.2 with ⟨hK', _⟩ | ⟨_, h1, h2, h3, h4⟩
    · omega
    · exact ⟨⟨h1, h2⟩, h4⟩
  · rintro ⟨⟨h1, h2⟩, h3⟩
    refine ⟨hF, hL, .inr ⟨hK, h1, h2, z_ext (by rw [hB]; rfl) fun k hk => ?_, h3⟩⟩
    rw [hB] at hk
    have h5 := h k hk
    have e : (List.replicate 13 (0 : Int)).getD k 0 = 0 := by
      rw [List.getD_eq_getElem?_getD, List.getElem?_replicate]
      split <;> rfl
    rw [e]
    rcases Int.lt_or_le 0 (n.B.getD k 0) with h0 | h0
    · exact absurd hK (h5.2 h0).1
    · have := h5.1.1
      omega

set_option maxRecDepth 100000 in
set_option maxHeartbeats 8000000 in
theorem refRight_at (n : Ino) (v : Value) (g : Nat) (hB : n.B.length = 13) (w : World) (hE : EReads w v g n.E) (hN : ∀ k, k < n.E.length → (enm n.E k).size ≤ 9223372036854775807) :
    Calls Try.prog 6 #[.agg (inoC n v)] w fun e w' => e = .returned (.bool (decide (RightP n))) ∧ Keeps [] w w' := by
  obtain ⟨a, cap, rfl, hcap, hmax, HEC⟩ := hE.open
  have HN := Lib.hid hN
  unfold maxLen at hmax
  obtain ⟨Z, hZ⟩ : ∃ Z, Z = inoC n (.slice a n.E.length cap) := ⟨_, rfl⟩
  have hat : InoAt Z n (.slice a n.E.length cap) := by rw [hZ]; exact inoAt _ hB
  rw [← hZ]
  have hb0 := Blk.new w Z 25
  have c0 : (w.alloc (.cells Z 25)).cell? ⟨w.heap.size, 0, none⟩ = some (.int .i64 n.F) := by rw [hb0.cell]; exact hat.f0
  have c1 : (w.alloc (.cells Z 25)).cell? ⟨w.heap.size, 1, none⟩ = some (.int .i64 n.K) := by rw [hb0.cell]; exact hat.f1
  have c2 : (w.alloc (.cells Z 25)).cell? ⟨w.heap.size, 2, none⟩ = some (.int .i64 n.L) := by rw [hb0.cell]; exact hat.f2
  have c3 : (w.alloc (.cells Z 25)).cell? ⟨w.heap.size, 3, none⟩ = some (.int .i64 n.S) := by rw [hb0.cell]; exact hat.f3
  have c17 : (w.alloc (.cells Z 25)).cell? ⟨w.heap.size, 17, none⟩ = some (.slice a n.E.length cap) := by rw [hb0.cell]; exact hat.f5
  have HCB : Hid (∀ k, k < 13 → (w.alloc (.cells Z 25)).cell? ⟨w.heap.size, 4 + k, none⟩ = some (.int .i64 (n.B.getD k 0))) := fun k hk => by rw [hb0.cell]; exact hat.f4 k hk
  have HK : Hid (Keeps [] w (w.alloc (.cells Z 25))) := (Keeps.refl [] w).alloc _
  have HB0 := Lib.hid hb0
  have H3 := Lib.hid hat.f3
  have H17 := Lib.hid hat.f5
  have HR := Lib.hid (right_num hB)
  have HRP : Hid (RightP n → (n.F = 1 ∨ n.F = 2) ∧ (n.K = 1 ∨ n.K = 2) ∧ 0 ≤ n.L ∧ n.L ≤ 65535) := fun h => ⟨h.1, h.2.2.imp (·.1) (·.1), h.2.1⟩
  have HNF := Lib.hid (num_file hB)
  have HND := Lib.hid (num_dir hB)
  have HNR : Hid (∀ k, NumR n k ↔ (0 ≤ n.B.getD k 0 ∧ n.B.getD k 0 ≤ 255) ∧ (0 < n.B.getD k 0 → n.K ≠ 2 ∧ 64 * (k : Int) < n.S ∧ ∀ j, j < k → n.B.getD j 0 ≠ n.B.getD k 0)) := fun _ => Iff.rfl
  clear hb0 hat hZ hB hE hN
  generalize hfe : n.F = f at *
  generalize hke : n.K = kd at *
  generalize hle : n.L = lk at *
  generalize hse : n.S = sz at *
  generalize hme : n.E.length = m at *
  clear hfe hke hle hse hme
  by_cases f1 : f < 1
  · have HF : Hid (decide (RightP n) = false) := decide_eq_false fun h => by have := HRP.out h; omega
    clear HRP HNF HND HNR HR HEC HN HCB
    go_enter Try.func6, Try.ntmps6
    go_wp2_with fail
    go_ret
    exact ⟨by rw [HF.out]; rfl, HK.out⟩
  · skip
    by_cases f2 : 2 < f
    · have HF : Hid (decide (RightP n) = false) := decide_eq_false fun h => by have := HRP.out h; omega
      clear HRP HNF HND HNR HR HEC HN HCB
      go_enter Try.func6, Try.ntmps6
      go_wp2_with fail
      go_ret
      exact ⟨by rw [HF.out]; rfl, HK.out⟩
    · skip
      by_cases k1 : kd < 1
      · have HF : Hid (decide (RightP n) = false) := decide_eq_false fun h => by have := HRP.out h; omega
        clear HRP HNF HND HNR HR HEC HN HCB
        go_enter Try.func6, Try.ntmps6
        go_wp2_with fail
        go_ret
        exact ⟨by rw [HF.out]; rfl, HK.out⟩
      · skip
        by_cases k2 : 2 < kd
        · have HF : Hid (decide (RightP n) = false) := decide_eq_false fun h => by have := HRP.out h; omega
          clear HRP HNF HND HNR HR HEC HN HCB
          go_enter Try.func6, Try.ntmps6
          go_wp2_with fail
          go_ret
          exact ⟨by rw [HF.out]; rfl, HK.out⟩
        · skip
          by_cases l1 : lk < 0
          · have HF : Hid (decide (RightP n) = false) := decide_eq_false fun h => by have := HRP.out h; omega
            clear HRP HNF HND HNR HR HEC HN HCB
            go_enter Try.func6, Try.ntmps6
            go_wp2_with fail
            go_ret
            exact ⟨by rw [HF.out]; rfl, HK.out⟩
          · skip
            by_cases l2 : 65535 < lk
            · have HF : Hid (decide (RightP n) = false) := decide_eq_false fun h => by have := HRP.out h; omega
              clear HRP HNF HND HNR HR HEC HN HCB
              go_enter Try.func6, Try.ntmps6
              go_wp2_with fail
              go_ret
              exact ⟨by rw [HF.out]; rfl, HK.out⟩
            · skip
              have hfo : f = 1 ∨ f = 2 := by omega
              have hlo : 0 ≤ lk ∧ lk ≤ 65535 := by omega
              have HNF' : Hid (kd = 1 → (∀ k, k < 13 → NumR n k) → (RightP n ↔ (0 ≤ sz ∧ sz ≤ 832 ∧ m = 0))) := HNF.out hfo hlo
              have HND' : Hid (kd = 2 → (∀ k, k < 13 → NumR n k) → (RightP n ↔ (m ≤ 24 ∧ sz = m) ∧ ∀ k, k < m → EntP n.E k)) := HND.out hfo hlo
              have HKD : Hid (kd = 1 ∨ kd = 2) := by show _ ∨ _; omega
              clear HRP HNF HND hfo hlo
              go_enter Try.func6, Try.ntmps6
              go_wp2_with fail
              clear c0 c2 f1 f2 k1 k2 l1 l2
              go_loopg [3] 13 (fun gh s3 wx => ∃ k : Nat, k + gh = 13 ∧ s3 = .int .i64 (k : Int) ∧ wx = (w.alloc (.cells Z 25)) ∧ Hid (∀ i, i < k → NumR n i))
              case atStart => exact ⟨0, by omega, rfl, rfl, by intro i hi; omega⟩
              case round =>
                obtain ⟨k, hk, rfl, rfl, HP⟩ := hrel
                cases gk with
                | succ gg =>
                  have hk13 : k < 13 := by omega
                  have hlt : (k : Int) < 13 := by omega
                  have hk0 : (0 : Int) ≤ (k : Int) := by omega
                  have hcb := HCB.out k hk13
                  have hw64 : wrap64 (64 * (k : Int)) = 64 * (k : Int) := by unfold wrap64; omega
                  have HNO : Hid (¬ NumR n k → decide (RightP n) = false) := fun h => decide_eq_false fun hr => h (HR.out hr k hk13)
                  have HNK := Lib.hid (HNR.out k)
                  generalize hx : n.B.getD k 0 = x at *
                  by_cases x0 : x < 0
                  · have HF : Hid (decide (RightP n) = false) := HNO.out fun h => by have := HNK.out.1 h; omega
                    clear HNO HNK HNR HNF' HND' HR HEC HN HP hk
                    go_wp2_with fail
                    go_ret
                    exact ⟨by rw [HF.out]; rfl, HK.out⟩
                  · by_cases x1 : 255 < x
                    · have HF : Hid (decide (RightP n) = false) := HNO.out fun h => by have := HNK.out.1 h; omega
                      clear HNO HNK HNR HNF' HND' HR HEC HN HP hk
                      go_wp2_with fail
                      go_ret
                      exact ⟨by rw [HF.out]; rfl, HK.out⟩
                    · by_cases x2 : 0 < x
                      · by_cases x3 : kd = 2
                        · have HF : Hid (decide (RightP n) = false) := HNO.out fun h => (HNK.out.1 h).2 x2 |>.1 x3
                          subst x3
                          clear HNO HNK HNR HNF' HND' HR HEC HN HP hk
                          go_wp2_with fail
                          go_ret
                          exact ⟨by rw [HF.out]; rfl, HK.out⟩
                        · have x3' : (kd == 2) = false := by simpa using x3
                          by_cases x4 : sz ≤ 64 * (k : Int)
                          · have HF : Hid (decide (RightP n) = false) := HNO.out fun h => by have := ((HNK.out.1 h).2 x2).2.1; omega
                            clear HNO HNK HNR HNF' HND' HR HEC HN HP hk
                            go_wp2_with fail
                            go_ret
                            exact ⟨by rw [HF.out]; rfl, HK.out⟩
                          · have HSTEP : Hid ((∀ j, j < k → n.B.getD j 0 ≠ x) → ∀ i, i < k + 1 → NumR n i) := fun h i hi => by
                              by_cases e : i = k
                              · subst e; exact HNK.out.2 ⟨by omega, fun _ => ⟨x3, by omega, h⟩⟩
                              · exact HP.out i (by omega)
                            have HNE : Hid (∀ j, j < k → n.B.getD j 0 = x → decide (RightP n) = false) := fun j hj he => HNO.out fun h => ((HNK.out.1 h).2 x2).2.2 j hj he
                            clear HNO HNK HP
                            go_wp2_with fail
                            go_loopg [5] k (fun gh s5 wx => ∃ j : Nat, j + gh = k ∧ s5 = .int .i64 (j : Int) ∧ wx = (w.alloc (.cells Z 25)) ∧ Hid (∀ i, i < j → n.B.getD i 0 ≠ x))
                            case atStart => exact ⟨0, by omega, rfl, rfl, by intro i hi; omega⟩
                            case round =>
                              obtain ⟨j, hj, rfl, rfl, HQ⟩ := hrel
                              cases gk with
                              | zero =>
                                obtain rfl : j = k := by omega
                                have HNX := Lib.hid (HSTEP.out HQ.out)
                                clear HSTEP HNE HQ hj hw64 x3' x4
                                go_wp2_with fail
                                go_roundg gg
                                case measure => omega
                                case rel => exact ⟨j + 1, by omega, by go_num, rfl, HNX.out⟩
                              | succ g2 =>
                                have hjk : (j : Int) < (k : Int) := by omega
                                have hj0 : (0 : Int) ≤ (j : Int) := by omega
                                have hj13 : (j : Int) < 13 := by omega
                                have hcj := HCB.out j (by omega)
                                generalize hy : n.B.getD j 0 = y at *
                                by_cases e : y = x
                                · have HF := Lib.hid (HNE.out j (by omega) (by rw [hy, e]))
                                  subst e
                                  clear HSTEP HNE HQ HNR HNF' HND' HR HEC HN hj hk
                                  go_wp2_with fail
                                  go_ret
                                  exact ⟨by rw [HF.out]; rfl, HK.out⟩
                                · have e' : (y == x) = false := by simpa using e
                                  have HQ2 : Hid (∀ i, i < j + 1 → n.B.getD i 0 ≠ x) := fun i hi => by
                                    by_cases e2 : i = j
                                    · subst e2; rw [hy]; exact e
                                    · exact HQ.out i (by omega)
                                  clear HQ HSTEP
                                  go_wp2_with fail
                                  go_roundg g2
                                  case measure => omega
                                  case rel => exact ⟨j + 1, by omega, by go_num, rfl, HQ2.out⟩
                      · obtain rfl : x = 0 := by omega
                        have HNX : Hid (∀ i, i < k + 1 → NumR n i) := fun i hi => by
                          by_cases e : i = k
                          · subst e; exact HNK.out.2 ⟨by omega, fun h => by omega⟩
                          · exact HP.out i (by omega)
                        clear HNO HNK HP x0 x1 x2
                        go_wp2_with fail
                        go_loopg [5] k (fun gh s5 wx => ∃ j : Nat, j + gh = k ∧ s5 = .int .i64 (j : Int) ∧ wx = (w.alloc (.cells Z 25)))
                        case atStart => exact ⟨0, by omega, rfl, rfl⟩
                        case round =>
                          obtain ⟨j, hj, rfl, rfl⟩ := hrel
                          cases gk with
                          | zero =>
                            obtain rfl : j = k := by omega
                            clear hj
                            go_wp2_with fail
                            go_roundg gg
                            case measure => omega
                            case rel => exact ⟨j + 1, by omega, by go_num, rfl, HNX.out⟩
                          | succ g2 =>
                            have hjk : (j : Int) < (k : Int) := by omega
                            have hj0 : (0 : Int) ≤ (j : Int) := by omega
                            clear HNX
                            go_wp2_with fail
                            go_roundg g2
                            case measure => omega
                            case rel => exact ⟨j + 1, by omega, by go_num, rfl⟩
                | zero =>
                  obtain rfl : k = 13 := by omega
                  clear hk HR HNR HCB
                  rcases HKD.out with rfl | rfl
                  · have HD := Lib.hid (HNF'.out rfl HP.out)
                    clear HNF' HND' HP HKD HEC HN
                    by_cases s1 : sz < 0
                    · have HF : Hid (decide (RightP n) = false) := decide_eq_false fun h => by have := HD.out.1 h; omega
                      clear HD
                      go_wp2_with fail
                      go_ret
                      exact ⟨by rw [HF.out]; rfl, HK.out⟩
                    · by_cases s2 : 832 < sz
                      · have HF : Hid (decide (RightP n) = false) := decide_eq_false fun h => by have := HD.out.1 h; omega
                        clear HD
                        go_wp2_with fail
                        go_ret
                        exact ⟨by rw [HF.out]; rfl, HK.out⟩
                      · by_cases s3 : m = 0
                        · have HF : Hid (decide (RightP n) = true) := decide_eq_true (HD.out.2 ⟨by omega, by omega, s3⟩)
                          subst s3
                          clear HD
                          go_wp2_with fail
                          go_ret
                          exact ⟨by rw [HF.out]; rfl, HK.out⟩
                        · have HF : Hid (decide (RightP n) = false) := decide_eq_false fun h => by have := HD.out.1 h; omega
                          have s3' : ((m : Int) == 0) = false := by simp; omega
                          clear HD
                          go_wp2_with fail
                          go_ret
                          exact ⟨by rw [HF.out]; rfl, HK.out⟩
                  · have HD := Lib.hid (HND'.out rfl HP.out)
                    clear HNF' HND' HP HKD
                    go_wp2_with fail
                    clear c1 c3 c17
                    go_loopg [6] m (fun gh s6 wx => ∃ k : Nat, k + gh = m ∧ s6 = .int .i64 (k : Int) ∧ Hid ((∀ i, i < k → EntP n.E i) ∧ Keeps [] (w.alloc (.cells Z 25)) wx))
                    case atStart => exact ⟨0, by omega, rfl, by simp, Keeps.refl _ _⟩
                    case round =>
                      obtain ⟨k, hk, rfl, HR⟩ := hrel
                      have hbr := HB0.out.keep HR.out.2 (by simp)
                      have c17 : wr.cell? ⟨w.heap.size, 17, none⟩ = some (.slice a m cap) := by rw [hbr.cell]; exact H17.out
                      have c3 : wr.cell? ⟨w.heap.size, 3, none⟩ = some (.int .i64 sz) := by rw [hbr.cell]; exact H3.out
                      cases gk with
                      | zero =>
                        obtain rfl : k = m := by omega
                        have HKP := Lib.hid (HK.out.trans' HR.out.2)
                        have HD2 : Hid (RightP n ↔ (k ≤ 24 ∧ sz = k)) := by
                          show _ ↔ _
                          rw [HD.out]
                          exact ⟨fun h => h.1, fun h => ⟨h, HR.out.1⟩⟩
                        clear HR hk HD hbr HEC HN
                        by_cases s1 : 24 < k
                        · have HF : Hid (decide (RightP n) = false) := decide_eq_false fun h => by have := HD2.out.1 h; omega
                          clear HD2
                          go_wp2_with fail
                          go_ret
                          exact ⟨by rw [HF.out]; rfl, HKP.out⟩
                        · by_cases s2 : sz = k
                          · have HF : Hid (decide (RightP n) = true) := decide_eq_true (HD2.out.2 ⟨by omega, s2⟩)
                            have s2' : (sz == (k : Int)) = true := by simpa using s2
                            clear HD2 s2
                            go_wp2_with fail
                            go_ret
                            exact ⟨by rw [HF.out]; rfl, HKP.out⟩
                          · have HF : Hid (decide (RightP n) = false) := decide_eq_false fun h => s2 (HD2.out.1 h).2
                            have s2' : (sz == (k : Int)) = false := by simpa using s2
                            clear HD2
                            go_wp2_with fail
                            go_ret
                            exact ⟨by rw [HF.out]; rfl, HKP.out⟩
                      | succ gg =>
                        clear hbr c3
                        have hkm : k < m := by omega
                        have hlt : (k : Int) < (m : Int) := by omega
                        have hk0 : (0 : Int) ≤ (k : Int) := by omega
                        obtain ⟨hg, off, rfl, e0, e1⟩ := HEC.out k hkm
                        have hkw := HK.out.trans' HR.out.2
                        have HLE : Hid ((loadVar 27 ⟨g, off + k * 2, none⟩).run Try.prog wr = .ok (.agg #[.string (enm n.E k), .int .i64 (eno n.E k)]) wr) := load_entry ((World.cell?_of_block (hkw.block g hg (by simp))).trans e0) ((World.cell?_of_block (hkw.block g hg (by simp))).trans e1)
                        have HG := Lib.hid (fun wx => refGood_at (enm n.E k) (HN.out k hkm) wx)
                        have HEP : Hid (EntP n.E k ↔ goodN (bl (enm n.E k)) = true ∧ (0 ≤ eno n.E k ∧ eno n.E k ≤ 31) ∧ (0 < k → leB (enm n.E k) (enm n.E (k - 1)) = false)) := Iff.rfl
                        have HNO : Hid (¬ EntP n.E k → decide (RightP n) = false) := fun h => decide_eq_false fun hd => h ((HD.out.1 hd).2 k hkm)
                        have HKW := Lib.hid hkw
                        have HPRE := Lib.hid HR.out.1
                        have HKR := Lib.hid HR.out.2
                        have HPV : Hid (∀ q, k = q + 1 → wr.cell? ⟨g, off + q * 2, none⟩ = some (.string (enm n.E q))) := fun q hq => by
                          obtain ⟨-, off', ho', f0, -⟩ := HEC.out q (by omega)
                          cases ho'
                          exact (World.cell?_of_block (w := w) (a := ⟨g, off + q * 2, none⟩) (hkw.block g hg (by simp))).trans f0
                        have hza : ∀ w : World, (zeroValue 27).run Try.prog w = .ok (.agg #[.string ⟨#[]⟩, .int .i64 0]) w := fun w => by kernel_rfl
                        clear hkw e0 e1 HEC HR HD
                        generalize hnm : enm n.E k = nm at *
                        generalize eno n.E k = ino at *
                        go_wp2_with ((with_reducible show wpList _ _ _ (⟨_, .load 27 (.tmp 108), _, _, _, _⟩ :: _) _ _); refine wpList_load_any rfl 27 (.tmp 108) rfl _ rfl _ HLE.out ?_)
                        cases hgd : goodN (bl nm)
                        · have HF : Hid (decide (RightP n) = false) := HNO.out fun h => by have := (HEP.out.1 h).1; rw [hgd] at this; cases this
                          rw [hgd] at HG
                          clear HEP HNO hgd hk HPV HPRE HKR HN
                          refine wp_region_each (S := fun wx => wx = _) (by kernel_rfl) (by kernel_rfl) (fun d _ _ _ _ h => by cases d <;> exact h) rfl (by kernel_rfl) ?_
                          repeat (first
                            | (refine EachList.cons (.bool false) (EachIf.call rfl 12 #[.string nm] ?he ?h) ?_; (case he => (intro wz; go_simp)); (case h => exact fun wx hx => (HG.out wx).mono fun e w' he => ⟨he.1, he.2 ▸ hx⟩); simp only [Act.put, List.setIfInBounds_toArray, List.set_cons_zero, List.set_cons_succ])
                            | (refine EachList.cons undef (EachIf.off rfl) ?_; simp only [Act.put, List.setIfInBounds_toArray, List.set_cons_zero, List.set_cons_succ])
                            | ((with_reducible show EachList _ _ _ _ (⟨_, _, 4, _, _, _⟩ :: _) _); refine EachList.cons (.bool true) (EachIf.val rfl ?h) ?_; (case h => (intro wx hx; subst hx; first | (go_simp; done) | (go_simp; simp [*]; done))); simp only [Act.put, List.setIfInBounds_toArray, List.set_cons_zero, List.set_cons_succ])
                            | ((with_reducible show EachList _ _ _ _ (⟨_, _, 4, _, _, _⟩ :: _) _); refine EachList.cons (.bool false) (EachIf.val rfl ?h) ?_; (case h => (intro wx hx; subst hx; first | (go_simp; done) | (go_simp; simp [*]; done))); simp only [Act.put, List.setIfInBounds_toArray, List.set_cons_zero, List.set_cons_succ])
                            | (refine EachList.cons ?_ (EachIf.val rfl ?h) ?_; (case h => (intro wx hx; subst hx; go_simp; rfl)); simp only [Act.put, List.setIfInBounds_toArray, List.set_cons_zero, List.set_cons_succ]))
                          refine EachList.done fun wx hx => ?_
                          subst hx
                          go_wp2_with fail
                          go_ret
                          exact ⟨by rw [HF.out]; rfl, (HKW.out.alloc _).drew⟩
                        · rw [hgd] at HG
                          by_cases hi0 : ino < 0
                          · have HF : Hid (decide (RightP n) = false) := HNO.out fun h => by have := (HEP.out.1 h).2.1.1; omega
                            clear HEP HNO hgd hk HPV HPRE HKR HN
                            refine wp_region_each (S := fun wx => wx = _) (by kernel_rfl) (by kernel_rfl) (fun d _ _ _ _ h => by cases d <;> exact h) rfl (by kernel_rfl) ?_
                            repeat (first
                              | (refine EachList.cons (.bool true) (EachIf.call rfl 12 #[.string nm] ?he ?h) ?_; (case he => (intro wz; go_simp)); (case h => exact fun wx hx => (HG.out wx).mono fun e w' he => ⟨he.1, he.2 ▸ hx⟩); simp only [Act.put, List.setIfInBounds_toArray, List.set_cons_zero, List.set_cons_succ])
                              | (refine EachList.cons undef (EachIf.off rfl) ?_; simp only [Act.put, List.setIfInBounds_toArray, List.set_cons_zero, List.set_cons_succ])
                              | ((with_reducible show EachList _ _ _ _ (⟨_, _, 4, _, _, _⟩ :: _) _); refine EachList.cons (.bool true) (EachIf.val rfl ?h) ?_; (case h => (intro wx hx; subst hx; first | (go_simp; done) | (go_simp; simp [*]; done))); simp only [Act.put, List.setIfInBounds_toArray, List.set_cons_zero, List.set_cons_succ])
                              | ((with_reducible show EachList _ _ _ _ (⟨_, _, 4, _, _, _⟩ :: _) _); refine EachList.cons (.bool false) (EachIf.val rfl ?h) ?_; (case h => (intro wx hx; subst hx; first | (go_simp; done) | (go_simp; simp [*]; done))); simp only [Act.put, List.setIfInBounds_toArray, List.set_cons_zero, List.set_cons_succ])
                              | (refine EachList.cons ?_ (EachIf.val rfl ?h) ?_; (case h => (intro wx hx; subst hx; go_simp; rfl)); simp only [Act.put, List.setIfInBounds_toArray, List.set_cons_zero, List.set_cons_succ]))
                            refine EachList.done fun wx hx => ?_
                            subst hx
                            go_wp2_with fail
                            go_ret
                            exact ⟨by rw [HF.out]; rfl, (HKW.out.alloc _).drew⟩
                          · by_cases hi1 : 31 < ino
                            · have HF : Hid (decide (RightP n) = false) := HNO.out fun h => by have := (HEP.out.1 h).2.1.2; omega
                              clear HEP HNO hgd hk HPV HPRE HKR HN
                              refine wp_region_each (S := fun wx => wx = _) (by kernel_rfl) (by kernel_rfl) (fun d _ _ _ _ h => by cases d <;> exact h) rfl (by kernel_rfl) ?_
                              repeat (first
                                | (refine EachList.cons (.bool true) (EachIf.call rfl 12 #[.string nm] ?he ?h) ?_; (case he => (intro wz; go_simp)); (case h => exact fun wx hx => (HG.out wx).mono fun e w' he => ⟨he.1, he.2 ▸ hx⟩); simp only [Act.put, List.setIfInBounds_toArray, List.set_cons_zero, List.set_cons_succ])
                                | (refine EachList.cons undef (EachIf.off rfl) ?_; simp only [Act.put, List.setIfInBounds_toArray, List.set_cons_zero, List.set_cons_succ])
                                | ((with_reducible show EachList _ _ _ _ (⟨_, _, 4, _, _, _⟩ :: _) _); refine EachList.cons (.bool true) (EachIf.val rfl ?h) ?_; (case h => (intro wx hx; subst hx; first | (go_simp; done) | (go_simp; simp [*]; done))); simp only [Act.put, List.setIfInBounds_toArray, List.set_cons_zero, List.set_cons_succ])
                                | ((with_reducible show EachList _ _ _ _ (⟨_, _, 4, _, _, _⟩ :: _) _); refine EachList.cons (.bool false) (EachIf.val rfl ?h) ?_; (case h => (intro wx hx; subst hx; first | (go_simp; done) | (go_simp; simp [*]; done))); simp only [Act.put, List.setIfInBounds_toArray, List.set_cons_zero, List.set_cons_succ])
                                | (refine EachList.cons ?_ (EachIf.val rfl ?h) ?_; (case h => (intro wx hx; subst hx; go_simp; rfl)); simp only [Act.put, List.setIfInBounds_toArray, List.set_cons_zero, List.set_cons_succ]))
                              refine EachList.done fun wx hx => ?_
                              subst hx
                              go_wp2_with fail
                              go_ret
                              exact ⟨by rw [HF.out]; rfl, (HKW.out.alloc _).drew⟩
                            · by_cases hkz : k = 0
                              · have HPN : Hid (∀ i, i < k + 1 → EntP n.E i) := fun i hi => by
                                  obtain rfl : i = k := by omega
                                  exact HEP.out.2 ⟨hgd, ⟨by omega, by omega⟩, fun h => absurd h (by omega)⟩
                                have hkn : ¬ (0 : Int) < (k : Int) := by omega
                                have hkd : decide (0 < k) = false := decide_eq_false (by omega)
                                clear HEP HNO hgd HPV HPRE hkz HN
                                refine wp_region_each (S := fun wx => wx = _) (by kernel_rfl) (by kernel_rfl) (fun d _ _ _ _ h => by cases d <;> exact h) rfl (by kernel_rfl) ?_
                                repeat (first
                                  | (refine EachList.cons (.bool true) (EachIf.call rfl 12 #[.string nm] ?he ?h) ?_; (case he => (intro wz; go_simp)); (case h => exact fun wx hx => (HG.out wx).mono fun e w' he => ⟨he.1, he.2 ▸ hx⟩); simp only [Act.put, List.setIfInBounds_toArray, List.set_cons_zero, List.set_cons_succ])
                                  | (refine EachList.cons undef (EachIf.off rfl) ?_; simp only [Act.put, List.setIfInBounds_toArray, List.set_cons_zero, List.set_cons_succ])
                                  | ((with_reducible show EachList _ _ _ _ (⟨_, _, 4, _, _, _⟩ :: _) _); refine EachList.cons (.bool true) (EachIf.val rfl ?h) ?_; (case h => (intro wx hx; subst hx; first | (go_simp; done) | (go_simp; simp [*]; done))); simp only [Act.put, List.setIfInBounds_toArray, List.set_cons_zero, List.set_cons_succ])
                                  | ((with_reducible show EachList _ _ _ _ (⟨_, _, 4, _, _, _⟩ :: _) _); refine EachList.cons (.bool false) (EachIf.val rfl ?h) ?_; (case h => (intro wx hx; subst hx; first | (go_simp; done) | (go_simp; simp [*]; done))); simp only [Act.put, List.setIfInBounds_toArray, List.set_cons_zero, List.set_cons_succ])
                                  | (refine EachList.cons ?_ (EachIf.val rfl ?h) ?_; (case h => (intro wx hx; subst hx; go_simp; rfl)); simp only [Act.put, List.setIfInBounds_toArray, List.set_cons_zero, List.set_cons_succ]))
                                refine EachList.done fun wx hx => ?_
                                subst hx
                                go_wp2_with fail
                                go_roundg gg
                                case measure => omega
                                case rel => exact ⟨k + 1, by omega, by go_num, HPN.out, (HKR.out.alloc _).drew⟩
                              · obtain ⟨q, hq⟩ : ∃ q, k = q + 1 := ⟨k - 1, by omega⟩
                                have hpv0 := HPV.out q hq
                                have hpv : ∀ o, (wr.alloc o).cell? ⟨g, off + q * 2, none⟩ = some (.string (enm n.E q)) := fun o => by
                                  rw [World.cell?_alloc_some _ _ _ (by rw [hpv0]; rfl)]
                                  exact hpv0
                                have c17a : ∀ o, (wr.alloc o).cell? ⟨w.heap.size, 17, none⟩ = some (.slice (some ⟨g, off, none⟩) m cap) := fun o => by
                                  rw [World.cell?_alloc_some _ _ _ (by rw [c17]; rfl)]
                                  exact c17
                                clear hpv0
                                have hkp : (0 : Int) < (k : Int) := by omega
                                have hkd : decide (0 < k) = true := decide_eq_true (by omega)
                                have hkq : (k : Int) - 1 = (q : Int) := by omega
                                have hqm : (q : Int) < (m : Int) := by omega
                                have hq0 : (0 : Int) ≤ (q : Int) := by omega
                                have hwq : IntKind.i64.wrap (q : Int) = (q : Int) := IntWalk.i64_in _ (by omega)
                                have hlb : ∀ b, leB nm (enm n.E q) = b → (Op.bytesLess nm.toList (enm n.E q).toList || (nm.toList == (enm n.E q).toList)) = b := fun b h => h
                                have HEP2 : Hid (EntP n.E k ↔ leB nm (enm n.E q) = false) := by
                                  show _ ↔ _
                                  rw [HEP.out, show k - 1 = q by omega]
                                  exact ⟨fun h => h.2.2 (by omega), fun h => ⟨hgd, ⟨by omega, by omega⟩, fun _ => h⟩⟩
                                generalize enm n.E q = pm at *
                                cases hle : leB nm pm
                                · have HPN : Hid (∀ i, i < k + 1 → EntP n.E i) := fun i hi => by
                                    by_cases e : i = k
                                    · subst e; exact HEP2.out.2 hle
                                    · exact HPRE.out i (by omega)
                                  have hlb2 := hlb _ hle
                                  clear HEP HEP2 HNO hgd HPV HPRE hkz hlb hle hq HN
                                  refine wp_region_each (S := fun wx => wx = _) (by kernel_rfl) (by kernel_rfl) (fun d _ _ _ _ h => by cases d <;> exact h) rfl (by kernel_rfl) ?_
                                  repeat (first
                                    | (refine EachList.cons (.bool true) (EachIf.call rfl 12 #[.string nm] ?he ?h) ?_; (case he => (intro wz; go_simp)); (case h => exact fun wx hx => (HG.out wx).mono fun e w' he => ⟨he.1, he.2 ▸ hx⟩); simp only [Act.put, List.setIfInBounds_toArray, List.set_cons_zero, List.set_cons_succ])
                                    | (refine EachList.cons undef (EachIf.off rfl) ?_; simp only [Act.put, List.setIfInBounds_toArray, List.set_cons_zero, List.set_cons_succ])
                                    | ((with_reducible show EachList _ _ _ _ (⟨_, _, 4, _, _, _⟩ :: _) _); refine EachList.cons (.bool true) (EachIf.val rfl ?h) ?_; (case h => (intro wx hx; subst hx; first | (go_simp; done) | (go_simp; simp [*]; done))); simp only [Act.put, List.setIfInBounds_toArray, List.set_cons_zero, List.set_cons_succ])
                                    | ((with_reducible show EachList _ _ _ _ (⟨_, _, 4, _, _, _⟩ :: _) _); refine EachList.cons (.bool false) (EachIf.val rfl ?h) ?_; (case h => (intro wx hx; subst hx; first | (go_simp; done) | (go_simp; simp [*]; done))); simp only [Act.put, List.setIfInBounds_toArray, List.set_cons_zero, List.set_cons_succ])
                                    | ((with_reducible show EachList _ _ _ _ (⟨some 133, _, _, _, _, _⟩ :: _) _); refine EachList.cons (.int .i64 (q : Int)) (EachIf.val rfl ?h) ?_; (case h => (intro wx hx; subst hx; go_simp; done)); simp only [Act.put, List.setIfInBounds_toArray, List.set_cons_zero, List.set_cons_succ])
                                    | (refine EachList.cons ?_ (EachIf.val rfl ?h) ?_; (case h => (intro wx hx; subst hx; go_simp; rfl)); simp only [Act.put, List.setIfInBounds_toArray, List.set_cons_zero, List.set_cons_succ]))
                                  refine EachList.done fun wx hx => ?_
                                  subst hx
                                  go_wp2_with fail
                                  go_roundg gg
                                  case measure => omega
                                  case rel => exact ⟨k + 1, by omega, by go_num, HPN.out, (HKR.out.alloc _).drew⟩
                                · have HF : Hid (decide (RightP n) = false) := HNO.out fun h => by
                                    have := HEP2.out.1 h
                                    rw [hle] at this
                                    cases this
                                  have hlb2 := hlb _ hle
                                  clear HEP HEP2 HNO hgd HPV HPRE hkz hlb hle hq hk HKR HN
                                  refine wp_region_each (S := fun wx => wx = _) (by kernel_rfl) (by kernel_rfl) (fun d _ _ _ _ h => by cases d <;> exact h) rfl (by kernel_rfl) ?_
                                  repeat (first
                                    | (refine EachList.cons (.bool true) (EachIf.call rfl 12 #[.string nm] ?he ?h) ?_; (case he => (intro wz; go_simp)); (case h => exact fun wx hx => (HG.out wx).mono fun e w' he => ⟨he.1, he.2 ▸ hx⟩); simp only [Act.put, List.setIfInBounds_toArray, List.set_cons_zero, List.set_cons_succ])
                                    | (refine EachList.cons undef (EachIf.off rfl) ?_; simp only [Act.put, List.setIfInBounds_toArray, List.set_cons_zero, List.set_cons_succ])
                                    | ((with_reducible show EachList _ _ _ _ (⟨_, _, 4, _, _, _⟩ :: _) _); refine EachList.cons (.bool true) (EachIf.val rfl ?h) ?_; (case h => (intro wx hx; subst hx; first | (go_simp; done) | (go_simp; simp [*]; done))); simp only [Act.put, List.setIfInBounds_toArray, List.set_cons_zero, List.set_cons_succ])
                                    | ((with_reducible show EachList _ _ _ _ (⟨_, _, 4, _, _, _⟩ :: _) _); refine EachList.cons (.bool false) (EachIf.val rfl ?h) ?_; (case h => (intro wx hx; subst hx; first | (go_simp; done) | (go_simp; simp [*]; done))); simp only [Act.put, List.setIfInBounds_toArray, List.set_cons_zero, List.set_cons_succ])
                                    | ((with_reducible show EachList _ _ _ _ (⟨some 133, _, _, _, _, _⟩ :: _) _); refine EachList.cons (.int .i64 (q : Int)) (EachIf.val rfl ?h) ?_; (case h => (intro wx hx; subst hx; go_simp; done)); simp only [Act.put, List.setIfInBounds_toArray, List.set_cons_zero, List.set_cons_succ])
                                    | (refine EachList.cons ?_ (EachIf.val rfl ?h) ?_; (case h => (intro wx hx; subst hx; go_simp; rfl)); simp only [Act.put, List.setIfInBounds_toArray, List.set_cons_zero, List.set_cons_succ]))
                                  refine EachList.done fun wx hx => ?_
                                  subst hx
                                  go_wp2_with fail
                                  go_ret
                                  exact ⟨by rw [HF.out]; rfl, (HKW.out.alloc _).drew⟩

end Go.Proofs.Ytlfkodlnhfdgjaa

namespace Go.Proofs.Ytlfkodlnhfdgjaa
open Go.RowKit

/-- What Few leaves. -/
def FewPost (w : World) (n : Ino) (e : Ending) (w' : World) : Prop := (∃ b, e = .returned (.bool b) ∧ (b = true → n.E.length ≤ 40 ∧ ∀ k, k < n.E.length → (enm n.E k).size ≤ 50)) ∧ Keeps [] w w'

set_option maxRecDepth 100000 in
set_option maxHeartbeats 2000000 in
theorem refFew_at (n : Ino) (v : Value) (g : Nat) (hB : n.B.length = 13) (w : World) (hE : EReads w v g n.E) :
    Calls Try.prog 5 #[.agg (inoC n v)] w (FewPost w n) := by
  have HFP : Hid (∀ b w', (b = true → n.E.length ≤ 40 ∧ ∀ k, k < n.E.length → (enm n.E k).size ≤ 50) → Keeps [] w w' → FewPost w n (.returned (.bool b)) w') := fun b w' h hk => ⟨⟨b, rfl, h⟩, hk⟩
  obtain ⟨a, cap, rfl, hcap, hmax, HEC⟩ := hE.open
  have hat := inoAt (.slice a n.E.length cap) hB
  generalize inoC n (.slice a n.E.length cap) = Z at *
  have hb0 := Blk.new w Z 25
  have c17 : (w.alloc (.cells Z 25)).cell? ⟨w.heap.size, 17, none⟩ = some (.slice a n.E.length cap) := by rw [hb0.cell]; exact hat.f5
  have HK : Hid (Keeps [] w (w.alloc (.cells Z 25))) := (Keeps.refl [] w).alloc _
  unfold maxLen at hmax
  clear hb0 hat hB hE
  generalize hm : n.E.length = m at *
  clear hm
  go_enter Try.func5, Try.ntmps5
  go_wp2_with fail
  go_loopg [3] 50 (fun gh s3 wx => ∃ k : Nat, k + gh = 50 ∧ k ≤ m ∧ s3 = .int .i64 (k : Int) ∧ wx = w.alloc (.cells Z 25) ∧ Hid (∀ i, i < k → (enm n.E i).size ≤ 50))
  case atStart => exact ⟨0, by omega, by omega, rfl, rfl, by intro i hi; omega⟩
  case round =>
    obtain ⟨k, hk, hkm, rfl, rfl, HP⟩ := hrel
    by_cases hlt : k < m
    · have h1 : (k : Int) < (m : Int) := by omega
      cases gk with
      | zero =>
        have h50 : ¬ (k : Int) < 50 := by omega
        have h40 : ¬ (m : Int) ≤ 40 := by omega
        go_wp2_with fail
        go_ret
        exact HFP.out _ _ (fun h => (by cases h)) HK.out
      | succ gg =>
        have h50 : (k : Int) < 50 := by omega
        have hk0 : (0 : Int) ≤ (k : Int) := by omega
        obtain ⟨hg, off, rfl, e0, -⟩ := HEC.out k hlt
        have c0 : (w.alloc (.cells Z 25)).cell? ⟨g, off + k * 2, none⟩ = some (.string (enm n.E k)) := (World.cell?_of_block (w := w) (a := ⟨g, off + k * 2, none⟩) (HK.out.block g hg (by simp))).trans e0
        clear e0
        by_cases hs : 50 < (enm n.E k).size
        · have hs' : (50 : Int) < ((enm n.E k).size : Int) := by omega
          clear HEC HP
          generalize enm n.E k = nm at *
          go_wp2_with fail
          go_ret
          exact HFP.out _ _ (fun h => (by cases h)) HK.out
        · have hs' : ¬ (50 : Int) < ((enm n.E k).size : Int) := by omega
          have HP2 : Hid (∀ i, i < k + 1 → (enm n.E i).size ≤ 50) := fun i hi => by
            by_cases e : i = k
            · subst e; omega
            · exact HP.out i (by omega)
          clear HEC HP
          generalize enm n.E k = nm at *
          go_wp2_with fail
          go_roundg gg
          case measure => omega
          case rel => exact ⟨k + 1, by omega, by omega, by go_num, rfl, HP2⟩
    · have h1 : ¬ (k : Int) < (m : Int) := by omega
      obtain rfl : k = m := by omega
      have HQ := Lib.hid HP.out
      go_wp2_with fail
      go_ret
      exact HFP.out _ _ (fun h => ⟨by have := of_decide_eq_true h; omega, HQ.out⟩) HK.out

end Go.Proofs.Ytlfkodlnhfdgjaa
