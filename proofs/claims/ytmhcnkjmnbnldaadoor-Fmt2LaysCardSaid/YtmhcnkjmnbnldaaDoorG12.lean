/-
  Layer 6, the reference: Word. Layer 6: what Lay does, whatever it is; what words have that were laid. Layer 7: what Lay does, whatever it is; what words have that were laid. Layer 7 (fmt2): numbersOf. Layer 7 (fmt2), plain: the runs of numbers tell the numbers again. append of a slice, whatever it is (nil too), onto a row of its own; and of noughts onto nil. Nothing of the program is named here. Layer 7 (fmt2): slices.Grow of nil, slices.Concat of two rows of words.
-/
import Derived.Test.YtmhcnkjmnbnldaaDoorG08
import Derived.Test.YtmhcnkjmnbnldaaDoorG11
import Derived.Test.YtmhcnkjmnbnldaaDoorG07
import Derived.Test.YtmhcnkjmnbnldaaDoorG10
import Derived.Test.YtmhcnkjmnbnldaaDoorG05
import Derived.Test.YtmhcnkjmnbnldaaDoorG09
import Derived.Test.YtmhcnkjmnbnldaaDoorG00
import Derived.Laws.AppendOwn
import Derived.Lib.AppendZerosOnto
import Derived.Test.YtmhcnkjmnbnldaaDoorG04
namespace Go.Proofs.YtmhcnkjmnbnldaaDoor
open Go.RowKit

/-- What a place has, as the reference tells it. -/
def Want (n : Ino) (own : List Nat) (p k : Nat) (x : Int) (ok : Bool) : Prop :=
  (p ≤ k ∧ k < p + 8 → x = (inoRow n (laidL n own) ((listI n own : Nat) : Int)).getD (k - p) 0 ∧ ok = true) ∧
  (¬ (p ≤ k ∧ k < p + 8) → (∀ m, m < own.length → 1080 + 8 * own.getD m 0 ≤ k ∧ k < 1080 + 8 * own.getD m 0 + 8 → x = (ownRow n own m).getD (k - (1080 + 8 * own.getD m 0)) 0 ∧ ok = true) ∧
    ((∀ m, m < own.length → ¬ (1080 + 8 * own.getD m 0 ≤ k ∧ k < 1080 + 8 * own.getD m 0 + 8)) → x = 0 ∧ ok = false))

def WantPost (w : World) (n : Ino) (own : List Nat) (p k : Nat) (e : Ending) (w' : World) : Prop :=
  ∃ x ok, e = .returned (.tuple #[.int .u64 x, .bool ok]) ∧ Want n own p k x ok ∧ Keeps [] w w'

theorem Want.row {n : Ino} {own : List Nat} {p j : Nat} (hj : j < 8) : Want n own p (p + j) ((inoRow n (laidL n own) ((listI n own : Nat) : Int)).getD j 0) true :=
  ⟨fun _ => ⟨by rw [Nat.add_sub_cancel_left], rfl⟩, fun h => absurd ⟨by omega, by omega⟩ h⟩

theorem Want.own {n : Ino} {own : List Nat} {p k m y : Nat} (hn : own.Nodup) (hp : ¬ (p ≤ k ∧ k < p + 8)) (hm : m < own.length) (hy : y < 8) (hk : k = 1080 + 8 * own.getD m 0 + y) : Want n own p k ((ownRow n own m).getD y 0) true := by
  refine ⟨fun h => absurd h hp, fun _ => ⟨fun m' hm' h => ?_, fun h => absurd ⟨by omega, by omega⟩ (h m hm)⟩⟩
  have : own.getD m' 0 = own.getD m 0 := by omega
  obtain rfl := getD_inj hn hm' hm this
  exact ⟨by rw [hk, Nat.add_sub_cancel_left], rfl⟩

theorem Want.none {n : Ino} {own : List Nat} {p k : Nat} (hp : ¬ (p ≤ k ∧ k < p + 8)) (h : ∀ m, m < own.length → ¬ (1080 + 8 * own.getD m 0 ≤ k ∧ k < 1080 + 8 * own.getD m 0 + 8)) : Want n own p k 0 false :=
  ⟨fun h' => absurd h' hp, fun _ => ⟨fun m hm h' => absurd h' (h m hm), fun _ => ⟨rfl, rfl⟩⟩⟩

/-- A list is needed, both ways. -/
theorem any_list {n : Ino} (hB : n.B.length = 13) (h0 : ∀ k, 0 ≤ n.B.getD k 0) : anyTo n.B (blocksN n.E.length) 13 = true ↔ (5 < blocksN n.E.length ∨ n.B.drop 5 ≠ List.replicate 8 0) := by
  unfold anyTo
  rw [List.any_eq_true]
  constructor
  · rintro ⟨j, hj, h⟩
    rw [List.mem_range] at hj
    simp only [Bool.and_eq_true, Bool.or_eq_true, decide_eq_true_eq] at h
    rcases h.2 with h1 | h1
    · right
      intro he
      have e : (n.B.drop 5).getD (j - 5) 0 = 0 := by
        rw [he, List.getD_eq_getElem?_getD, List.getElem?_replicate]
        split <;> rfl
      rw [drop5_get, show 5 + (j - 5) = j by omega] at e
      omega
    · exact .inl h1
  · intro h
    by_cases h5 : 5 < blocksN n.E.length
    · exact ⟨5, by simp, by simp [h5]⟩
    · have h6 := h.resolve_left h5
      rcases Classical.em (∃ j, j < 13 ∧ 5 ≤ j ∧ 0 < n.B.getD j 0) with ⟨j, h1, h2, h3⟩ | hno
      · exact ⟨j, by simpa using h1, by rw [decide_eq_true h2, decide_eq_true h3]; rfl⟩
      · refine absurd (z_ext (by rw [List.length_drop, hB]; rfl) fun k hk => ?_) h6
        rw [List.length_drop, hB] at hk
        have e : (List.replicate 8 (0 : Int)).getD k 0 = 0 := by
          rw [List.getD_eq_getElem?_getD, List.getElem?_replicate]
          split <;> rfl
        rw [drop5_get, e]
        have h7 := h0 (5 + k)
        rcases Int.lt_or_le 0 (n.B.getD (5 + k) 0) with h8 | h8
        · exact absurd ⟨5 + k, by omega, by omega, h8⟩ hno
        · omega

theorem needL_need {n : Ino} (hB : n.B.length = 13) (h0 : ∀ k, 0 ≤ n.B.getD k 0) : needN n = blocksN n.E.length + needL n ∧ needL n ≤ 1 := by
  have h := any_list hB h0
  unfold needN needL
  by_cases hp : 5 < blocksN n.E.length ∨ n.B.drop 5 ≠ List.replicate 8 0
  · rw [if_pos hp, if_pos (h.2 hp)]; exact ⟨rfl, Nat.le_refl _⟩
  · rw [if_neg hp, if_neg (fun h' => hp (h.1 h'))]; exact ⟨rfl, by omega⟩

theorem ent_cond {z m len : Nat} (hz : z < 8) : z < 2 * min 4 (len - 4 * m) ↔ 4 * m + z / 2 < len := by omega

theorem w64_small (x : Nat) (h1 : x < 9000000000) : wrap64 (x : Int) = (x : Int) := by unfold wrap64; omega

theorem five_facts (z : Nat) (hz : z < 8) : 5 + z < 13 ∧ wrap64 ((5 + z : Nat) : Int) = ((5 + z : Nat) : Int) ∧ (5 : Int) + (z : Int) = ((5 + z : Nat) : Int) ∧ (0 : Int) ≤ ((5 + z : Nat) : Int) ∧ ((5 + z : Nat) : Int) < 13 :=
  ⟨by omega, w64_small _ (by omega), by omega, by omega, by omega⟩

theorem lt_three {m j l : Nat} (a : m < l) (b : l ≤ j + 1) (c : m ≠ j) : m < j := by omega

theorem cast_ne {m j : Nat} (c : m ≠ j) : ((m : Int) == (j : Int)) = false := by simp; omega

theorem len_facts {e len : Nat} (h : ¬ len ≤ e) : ¬ (len : Int) ≤ (e : Int) ∧ (e : Int) < (len : Int) ∧ (0 : Int) ≤ (e : Int) ∧ e < len := by omega

theorem half_facts (z m : Nat) (hm : m < 100) (hz : z < 8) : ((z : Nat) : Int).tdiv 2 = ((z / 2 : Nat) : Int) ∧ ((z : Nat) : Int).tmod 2 = ((z % 2 : Nat) : Int) ∧ wrap64 ((z / 2 : Nat) : Int) = ((z / 2 : Nat) : Int) ∧ wrap64 ((z % 2 : Nat) : Int) = ((z % 2 : Nat) : Int) ∧ wrap64 (4 * (m : Int)) = 4 * (m : Int) ∧ 4 * (m : Int) + ((z / 2 : Nat) : Int) = ((4 * m + z / 2 : Nat) : Int) ∧ wrap64 ((4 * m + z / 2 : Nat) : Int) = ((4 * m + z / 2 : Nat) : Int) := by
  refine ⟨by rw [show (2 : Int) = ((2 : Nat) : Int) from rfl, Int.ofNat_tdiv], by rw [show (2 : Int) = ((2 : Nat) : Int) from rfl, Int.ofNat_tmod], w64_small _ (by omega), w64_small _ (by omega), ?_, by omega, w64_small _ (by omega)⟩
  unfold wrap64
  omega

/-- The numbers as the reference lays them. -/
def lTo (n : Ino) (own : List Nat) (k : Nat) : List Int := (own.take k).map (fun x : Nat => (x : Int)) ++ n.B.drop k

theorem lTo_len {n : Ino} {own : List Nat} {k : Nat} (hB : n.B.length = 13) (hk : k ≤ own.length) (h13 : k ≤ 13) : (lTo n own k).length = 13 := by simp [lTo, hB]; omega

theorem lTo_succ {n : Ino} {own : List Nat} {k : Nat} (hB : n.B.length = 13) (hk : k < own.length) (h13 : k < 13) : (lTo n own k).set k ((own.getD k 0 : Nat) : Int) = lTo n own (k + 1) := by
  have h1 : ((own.take k).map (fun x : Nat => (x : Int))).length = k := by rw [List.length_map, List.length_take]; omega
  unfold lTo
  rw [List.set_append_right _ _ (by rw [h1]; exact Nat.le_refl _), h1, Nat.sub_self, List.take_succ_eq_append_getElem hk, List.map_append, List.append_assoc]
  congr 1
  rw [List.drop_eq_getElem_cons (by omega : k < n.B.length), List.set_cons_zero]
  simp [List.getD_eq_getElem?_getD, hk]

set_option maxRecDepth 100000 in
set_option maxHeartbeats 1500000 in
theorem refWordI_at (n : Ino) (v : Value) (g : Nat) (own : List Nat) (vo : Value) (go p k : Nat) (hB : n.B.length = 13) (hR : RightP n) (ho : own.length = needN n) (hm : ∀ c ∈ own, c ≠ 0 ∧ c < 256) (hnd : own.Nodup) (hp : p < 3128) (hk : k < 3128) (w : World) (hE : EReads w v g n.E) (hO : Reads w vo go (i64s own)) :
    Calls Tryd.prog 21 #[.agg (inoC n v), .int .i64 (p : Int), vo, .int .i64 (k : Int)] w (WantPost w n own p k) := by
  have hbl := blocks_le hR
  have hcn := need_le n
  have hoc : blocksN n.E.length ≤ own.length := by omega
  have h256 := laidL_256 hR hB hoc hm
  have hll := laidL_len (own := own) hB (by omega) hoc
  have HTO := Lib.hid (tagOk_right hR)
  have hB0 : ∀ k, 0 ≤ n.B.getD k 0 := fun k => (right_len hR hB k).1
  obtain ⟨hnl, hnl1⟩ := needL_need hB hB0
  obtain ⟨a, cap, rfl, hcap, hmax, HEC⟩ := hE.open
  obtain ⟨ao, co, rfl, hco, hmo, HOC⟩ := ints_cell hO
  have HNEED : Hid (∀ wx, Calls Tryd.prog 19 #[.agg (inoC n (.slice a n.E.length cap))] wx fun e w' => e = .returned (.tuple #[.int .i64 ((blocksN n.E.length : Nat) : Int), .int .i64 ((needL n : Nat) : Int)]) ∧ Keeps [] wx w') := fun wx => refNeed_at n a cap hB (by omega) wx
  have HTAG : Hid (∀ wx, Calls Tryd.prog 47 #[.agg (inoC n (.slice a n.E.length cap))] wx fun e w' => e = .returned (.int .u64 (tagW n)) ∧ Keeps [] wx w') := fun wx => refTag_at n _ hB HTO.out wx
  have HENT : Hid (∀ e, e < n.E.length → goodN (bl (enm n.E e)) = true ∧ 0 ≤ eno n.E e ∧ eno n.E e ≤ 31) := fun e he => by
    have := (hbl.2.2 (by omega)).2.2.2.2 e he
    exact ⟨this.1, this.2.1⟩
  have HPOST : Hid (∀ x ok w', Want n own p k x ok → Keeps [] w w' → WantPost w n own p k (.returned (.tuple #[.int .u64 x, .bool ok])) w') := fun x ok w' h1 h2 => ⟨x, ok, rfl, h1, h2⟩
  have HROW : Hid (∀ j, j < 8 → k = p + j → Want n own p k ((inoRow n (laidL n own) ((listI n own : Nat) : Int)).getD j 0) true) := fun j hj e => by rw [e]; exact Want.row hj
  have HOWN : Hid (¬ (p ≤ k ∧ k < p + 8) → ∀ m y, m < own.length → y < 8 → k = 1080 + 8 * own.getD m 0 + y → Want n own p k ((ownRow n own m).getD y 0) true) := fun hp m y h1 h2 h3 => Want.own hnd hp h1 h2 h3
  have HNONE : Hid (¬ (p ≤ k ∧ k < p + 8) → (∀ m, m < own.length → ¬ (1080 + 8 * own.getD m 0 ≤ k ∧ k < 1080 + 8 * own.getD m 0 + 8)) → Want n own p k 0 false) := fun h1 h2 => Want.none h1 h2
  have hat := inoAt (.slice a n.E.length cap) hB
  have hzn := zero_n13
  have HLI : Hid (∀ wx, Blk wx w.heap.size (inoC n (.slice a n.E.length cap)) 25 → (loadVar 25 ⟨w.heap.size, 0, none⟩).run Tryd.prog wx = .ok (.agg (inoC n (.slice a n.E.length cap))) wx ∧ (loadVar 22 ⟨w.heap.size, 4, none⟩).run Tryd.prog wx = .ok (.agg (zs n.B).toArray) wx) := fun wx hb => ⟨load_ino hb hB, load_B hb hB⟩
  have HS0 : Hid (0 ≤ n.S ∧ n.S < 9223372036854775808) := HTO.out.s
  unfold maxLen at hmax hmo
  have hb0 := Blk.new w (inoC n (.slice a n.E.length cap)) 25
  have H3 := Lib.hid hat.f3
  have H17 := Lib.hid hat.f5
  have HK0 : Hid (Keeps [] w (w.alloc (.cells (inoC n (.slice a n.E.length cap)) 25))) := (Keeps.refl _ _).alloc _
  have hlo : own.length ≤ 7 := by omega
  have hod : own.length ≤ blocksN n.E.length + 1 := by omega
  have HOL : Hid (own.length = blocksN n.E.length + needL n) := by show _ = _; omega
  clear ho hnl hcn
  have HLO : Hid (∀ j, j < own.length → own.getD j 0 < 256) := fun j hj => (hm _ (getD_mem hj)).2
  clear hE hO hat hnd hm hR hB0
  generalize hZg : inoC n (.slice a n.E.length cap) = Z at *
  clear hZg
  have HB0 := Lib.hid hb0
  have HL0 := Lib.hid (HLI.out _ hb0).1
  clear hb0
  go_enter Tryd.func21, Tryd.ntmps21
  go_wp2_with ((with_reducible show wpList _ _ _ (⟨_, .load 25 (.tmp 4), _, _, _, _⟩ :: _) _ _); refine wpList_load_any rfl 25 (.tmp 4) rfl _ rfl _ HL0.out ?_)
  refine (HNEED.out _).mono ?_; rintro e w1 ⟨rfl, hk1⟩
  have HK1 := Lib.hid (HK0.out.trans' hk1)
  have HB1 := Lib.hid (HB0.out.keep hk1 (by simp))
  have HL1 := Lib.hid (HLI.out _ HB1.out).2
  have HN0 := Blk.new w1 (zs (List.replicate 13 0)).toArray 22
  obtain ⟨w2, hst2, hb2, hk2⟩ := store_whole (P := Tryd.prog) (ty := 22) (cs := zs n.B) (by rw [zs_len, hB]; exact size_n13) HN0 (by simp [zs_len, hB]) (zs_one _)
  have HST2 := Lib.hid hst2
  have hk12 : Keeps [] w1 w2 := ((Keeps.refl [] w1).alloc _).trans hk2 (by intro x hx; rw [List.mem_singleton] at hx; omega)
  have HK2 := Lib.hid (HK1.out.trans' hk12)
  have HB2 := Lib.hid (HB1.out.keep hk12 (by simp))
  have HA2 : Hid (Blk w2 w1.heap.size (zs (lTo n own 0)).toArray 22) := hb2
  have hz1 := HK1.out.size
  have hlt1 := HB1.out.lt
  clear hk1 hst2 hb2 hk2 hk12 HN0 HK0 HB0 HL0 HNEED HK1 HB1
  have HNB := Lib.hid hB
  have HLD : Hid (laidL n own = lTo n own (blocksN n.E.length)) := rfl
  generalize hcnt : blocksN n.E.length = d at *
  have HD := Lib.hid hcnt
  clear hcnt
  generalize (zs n.B).toArray = ZB at *
  generalize (zs (List.replicate 13 0)).toArray = ZN at *
  go_wp2_with (first | ((with_reducible show wpList _ _ _ (⟨_, .load 22 (.tmp 23), _, _, _, _⟩ :: _) _ _); refine wpList_load_any rfl 22 (.tmp 23) rfl _ rfl _ HL1.out ?_) | ((with_reducible show wpList _ _ _ (⟨_, .store 22 (.tmp 12) (.tmp 24), _, _, _, _⟩ :: _) _ _); refine wpList_store_any rfl 22 (.tmp 12) (.tmp 24) rfl _ rfl _ rfl _ HST2.out ?_))
  clear hzn HL1 HST2
  generalize w1.heap.size = lb at *
  go_loopg [13] d (fun gh s13 wx => ∃ j : Nat, j + gh = d ∧ s13 = .int .i64 (j : Int) ∧ Hid (Blk wx w.heap.size Z 25 ∧ Blk wx lb (zs (lTo n own j)).toArray 22 ∧ Keeps [] w wx))
  case atStart => exact ⟨0, by omega, rfl, HB2.out, HA2.out, HK2.out⟩
  case round =>
    clear HB2 HA2 HK2
    obtain ⟨j, hj, rfl, HP⟩ := hrel
    obtain ⟨hbr, har, hkr⟩ := HP.out
    cases gk with
    | succ gg =>
      have hjd : j < d := by omega
      have hlt : (j : Int) < (d : Int) := by omega
      have hj0 : (0 : Int) ≤ (j : Int) := by omega
      have hj13 : (j : Int) < 13 := by omega
      have hjo : (j : Int) < (own.length : Int) := by omega
      obtain ⟨hgo, off, rfl, hc⟩ := HOC.out j (by omega)
      have c1 : wr.cell? ⟨go, off + j, none⟩ = some (.int .i64 ((own.getD j 0 : Nat) : Int)) := (World.cell?_of_block (hkr.block go hgo (by simp))).trans hc
      have c2 : wr.cell? ⟨lb, j, none⟩ = some (.int .i64 ((lTo n own j).getD j 0)) := by rw [har.cell, List.getElem?_toArray, zs_get (by rw [lTo_len HNB.out (by omega) (by omega)]; omega)]
      have f2 : wr.frozen? ⟨lb, j, none⟩ = false := har.frozen j
      have HNEW : Hid (Blk (wr.setCell ⟨lb, j, none⟩ (.int .i64 ((own.getD j 0 : Nat) : Int))) w.heap.size Z 25 ∧ Blk (wr.setCell ⟨lb, j, none⟩ (.int .i64 ((own.getD j 0 : Nat) : Int))) lb (zs (lTo n own (j + 1))).toArray 22 ∧ Keeps [] w (wr.setCell ⟨lb, j, none⟩ (.int .i64 ((own.getD j 0 : Nat) : Int)))) := by
        refine ⟨hbr.other (by first | (show lb ≠ w.heap.size; omega) | (show w.heap.size ≠ lb; omega)) _, ?_, hkr.setCell (.inr (by show w.heap.size ≤ lb; omega)) _⟩
        have := har.set j (.int .i64 ((own.getD j 0 : Nat) : Int))
        rw [List.setIfInBounds_toArray, zs_set, lTo_succ HNB.out (by omega) (by omega)] at this
        exact this
      clear HP hbr har hkr hc HOC HEC
      generalize (lTo n own j).getD j 0 = y at *
      generalize ((own.getD j 0 : Nat) : Int) = x at *
      go_wp2_with fail
      go_roundg gg
      case measure => omega
      case rel => exact ⟨j + 1, by omega, by go_num, HNEW.out⟩
    | zero =>
      obtain rfl : j = d := by omega
      have HBR := Lib.hid hbr
      have HAR := Lib.hid har
      have HKR := Lib.hid hkr
      have har2 := har
      rw [← HLD.out] at har2
      have HC : Hid (∀ i, i < 13 → wr.cell? ⟨lb, i, none⟩ = some (.int .i64 ((laidL n own).getD i 0))) := fun i hi => by rw [har2.cell, List.getElem?_toArray, zs_get (by omega)]
      have HLR := Lib.hid (HLI.out _ hbr).1
      have HW : Hid (∀ i, IntKind.u64.wrap ((laidL n own).getD i 0) = (laidL n own).getD i 0) := fun i => wrap_nat64 (h256 i).1 (by have := (h256 i).2; omega)
      clear HP hbr har hkr har2 hj
      generalize wr = wA at *
      clear HLI
      by_cases hin : p ≤ k ∧ k < p + 8
      · obtain ⟨i, hi, hpi⟩ : ∃ i, k = p + i ∧ i < 8 := ⟨k - p, by omega, by omega⟩
        have hsub : wrap64 ((k : Int) - (p : Int)) = (i : Int) := by unfold wrap64; omega
        have hsub0 : (k : Int) - (p : Int) = (i : Int) := by omega
        have HRI := Lib.hid (HROW.out i hpi hi)
        clear HOWN HNONE HROW hin hi
        rcases (show i = 0 ∨ i = 1 ∨ i = 2 ∨ i = 3 ∨ i = 4 ∨ i = 5 ∨ i = 6 ∨ i = 7 by omega) with rfl | rfl | rfl | rfl | rfl | rfl | rfl | rfl
        · go_wp2_with ((with_reducible show wpList _ _ _ (⟨_, .load 25 (.tmp 4), _, _, _, _⟩ :: _) _ _); refine wpList_load_any rfl 25 (.tmp 4) rfl _ rfl _ HLR.out ?_)
          refine (HTAG.out _).mono ?_; rintro e w4 ⟨rfl, hk4⟩
          have HK4 := Lib.hid (HKR.out.trans' hk4)
          clear hk4
          go_wp2_with fail
          go_ret2
          exact HPOST.out _ _ _ HRI.out HK4.out
        · have c3 : wA.cell? ⟨w.heap.size, 3, none⟩ = some (.int .i64 n.S) := by rw [HBR.out.cell]; exact H3.out
          have hws := wrap_nat64 HS0.out.1 HS0.out.2
          have hr1 : (inoRow n (laidL n own) ((listI n own : Nat) : Int)).getD 1 0 = n.S := rfl
          rw [hr1] at HRI
          generalize n.S = s at *
          go_wp2_with fail
          go_ret2
          exact HPOST.out _ _ _ HRI.out HKR.out
        · have c3 := HC.out 0 (by omega)
          have hws := HW.out 0
          have hr1 : (inoRow n (laidL n own) ((listI n own : Nat) : Int)).getD 2 0 = (laidL n own).getD 0 0 := by
            show ((laidL n own).take 5 ++ [((listI n own : Nat) : Int)]).getD 0 0 = _
            rw [List.getD_eq_getElem?_getD, List.getElem?_append_left (by rw [List.length_take, hll]; omega), List.getElem?_take, if_pos (by omega), ← List.getD_eq_getElem?_getD]
          rw [hr1] at HRI
          generalize (laidL n own).getD 0 0 = x at *
          go_wp2_with fail
          go_ret2
          exact HPOST.out _ _ _ HRI.out HKR.out
        · have c3 := HC.out 1 (by omega)
          have hws := HW.out 1
          have hr1 : (inoRow n (laidL n own) ((listI n own : Nat) : Int)).getD 3 0 = (laidL n own).getD 1 0 := by
            show ((laidL n own).take 5 ++ [((listI n own : Nat) : Int)]).getD 1 0 = _
            rw [List.getD_eq_getElem?_getD, List.getElem?_append_left (by rw [List.length_take, hll]; omega), List.getElem?_take, if_pos (by omega), ← List.getD_eq_getElem?_getD]
          rw [hr1] at HRI
          generalize (laidL n own).getD 1 0 = x at *
          go_wp2_with fail
          go_ret2
          exact HPOST.out _ _ _ HRI.out HKR.out
        · have c3 := HC.out 2 (by omega)
          have hws := HW.out 2
          have hr1 : (inoRow n (laidL n own) ((listI n own : Nat) : Int)).getD 4 0 = (laidL n own).getD 2 0 := by
            show ((laidL n own).take 5 ++ [((listI n own : Nat) : Int)]).getD 2 0 = _
            rw [List.getD_eq_getElem?_getD, List.getElem?_append_left (by rw [List.length_take, hll]; omega), List.getElem?_take, if_pos (by omega), ← List.getD_eq_getElem?_getD]
          rw [hr1] at HRI
          generalize (laidL n own).getD 2 0 = x at *
          go_wp2_with fail
          go_ret2
          exact HPOST.out _ _ _ HRI.out HKR.out
        · have c3 := HC.out 3 (by omega)
          have hws := HW.out 3
          have hr1 : (inoRow n (laidL n own) ((listI n own : Nat) : Int)).getD 5 0 = (laidL n own).getD 3 0 := by
            show ((laidL n own).take 5 ++ [((listI n own : Nat) : Int)]).getD 3 0 = _
            rw [List.getD_eq_getElem?_getD, List.getElem?_append_left (by rw [List.length_take, hll]; omega), List.getElem?_take, if_pos (by omega), ← List.getD_eq_getElem?_getD]
          rw [hr1] at HRI
          generalize (laidL n own).getD 3 0 = x at *
          go_wp2_with fail
          go_ret2
          exact HPOST.out _ _ _ HRI.out HKR.out
        · have c3 := HC.out 4 (by omega)
          have hws := HW.out 4
          have hr1 : (inoRow n (laidL n own) ((listI n own : Nat) : Int)).getD 6 0 = (laidL n own).getD 4 0 := by
            show ((laidL n own).take 5 ++ [((listI n own : Nat) : Int)]).getD 4 0 = _
            rw [List.getD_eq_getElem?_getD, List.getElem?_append_left (by rw [List.length_take, hll]; omega), List.getElem?_take, if_pos (by omega), ← List.getD_eq_getElem?_getD]
          rw [hr1] at HRI
          generalize (laidL n own).getD 4 0 = x at *
          go_wp2_with fail
          go_ret2
          exact HPOST.out _ _ _ HRI.out HKR.out
        · rw [inoRow_7 hll] at HRI
          rcases (show needL n = 0 ∨ needL n = 1 by omega) with hl0 | hl0
          · have hli : listI n own = 0 := by have hol := HOL.out; unfold listI; rw [HD.out, if_neg (by omega)]
            rw [hli] at HRI
            rw [hl0]
            go_wp2_with fail
            go_ret2
            exact HPOST.out _ _ _ HRI.out HKR.out
          · have hjl : j < own.length := by have hol := HOL.out; omega
            have hli : listI n own = own.getD j 0 := by unfold listI; rw [HD.out, if_pos hjl]
            obtain ⟨hgo, off, rfl, hc⟩ := HOC.out j hjl
            have c1 : wA.cell? ⟨go, off + j, none⟩ = some (.int .i64 ((own.getD j 0 : Nat) : Int)) := (World.cell?_of_block (HKR.out.block go hgo (by simp))).trans hc
            have hjo : (j : Int) < (own.length : Int) := by omega
            have hj0 : (0 : Int) ≤ (j : Int) := by omega
            have hx256 := HLO.out j hjl
            have hws : IntKind.u64.wrap ((own.getD j 0 : Nat) : Int) = ((own.getD j 0 : Nat) : Int) := wrap_nat64 (by omega) (by omega)
            rw [hli] at HRI
            rw [hl0]
            clear hc hx256
            generalize ((own.getD j 0 : Nat) : Int) = x at *
            go_wp2_with fail
            go_ret2
            exact HPOST.out _ _ _ HRI.out HKR.out
      · obtain ⟨i, hi⟩ : ∃ i : Int, (k : Int) - (p : Int) = i := ⟨_, rfl⟩
        have hsub : wrap64 ((k : Int) - (p : Int)) = i := by rw [hi]; unfold wrap64; omega
        have hior : i < 0 ∨ 8 ≤ i := by omega
        have HOW := Lib.hid (HOWN.out hin)
        have HNN := Lib.hid (HNONE.out hin)
        have i0 : (i == 0) = false := by simp; omega
        have i1 : (i == 1) = false := by simp; omega
        have i7 : (i == 7) = false := by simp; omega
        clear HROW HOWN HNONE hin HTAG HLR HAR
        rcases hior with hio | hio
        · have hi2 : ¬ (2 : Int) ≤ i := by omega
          go_wp2_with fail
          go_loopg [15] own.length (fun gh s15 wx => ∃ m : Nat, m + gh = own.length ∧ s15 = .int .i64 (m : Int) ∧ wx = wA ∧ Hid (∀ i, i < m → ¬ (1080 + 8 * own.getD i 0 ≤ k ∧ k < 1080 + 8 * own.getD i 0 + 8)))
          case atStart => exact ⟨0, by omega, rfl, rfl, by intro i hi; omega⟩
          case round =>
            obtain ⟨m, hm, rfl, rfl, HQ⟩ := hrel
            clear i0 i1 i7 hio hi2 hi hsub
            try clear hi7
            cases gk with
            | zero =>
              obtain rfl : m = own.length := by omega
              have HRI := Lib.hid (HNN.out HQ.out)
              clear HQ HOW HNN HC HW hm
              go_wp2_with fail
              go_ret2
              exact HPOST.out _ _ _ HRI.out HKR.out
            | succ gg =>
              have hml : m < own.length := by omega
              have hmo : (m : Int) < (own.length : Int) := by omega
              have hm0 : (0 : Int) ≤ (m : Int) := by omega
              obtain ⟨hgo, off, rfl, hc⟩ := HOC.out m hml
              have c1 : wr.cell? ⟨go, off + m, none⟩ = some (.int .i64 ((own.getD m 0 : Nat) : Int)) := (World.cell?_of_block (HKR.out.block go hgo (by simp))).trans hc
              have hx256 := HLO.out m hml
              have hs1 : wrap64 ((k : Int) - 1080) = (k : Int) - 1080 := by unfold wrap64; omega
              have hs2 : wrap64 (8 * ((own.getD m 0 : Nat) : Int)) = 8 * ((own.getD m 0 : Nat) : Int) := by unfold wrap64; omega
              obtain ⟨y, hy⟩ : ∃ y : Int, (k : Int) - 1080 - 8 * ((own.getD m 0 : Nat) : Int) = y := ⟨_, rfl⟩
              have hs3 : wrap64 ((k : Int) - 1080 - 8 * ((own.getD m 0 : Nat) : Int)) = y := by rw [hy]; unfold wrap64; omega
              have hwy : wrap64 y = y := by unfold wrap64; omega
              have HNX : Hid ((y < 0 ∨ 7 < y) → ∀ i, i < m + 1 → ¬ (1080 + 8 * own.getD i 0 ≤ k ∧ k < 1080 + 8 * own.getD i 0 + 8)) := fun h i hi => by
                by_cases e : i = m
                · subst e; omega
                · exact HQ.out i (by omega)
              have HOM : Hid (∀ z : Nat, z < 8 → y = (z : Int) → Want n own p k ((ownRow n own m).getD z 0) true) := fun z hz e => HOW.out m z hml hz (by omega)
              clear hc HQ
              by_cases y0 : y < 0
              · have HN2 := Lib.hid (HNX.out (.inl y0))
                clear HOM HOW HNN HC HW HEC HOC HNX hx256
                generalize ((own.getD m 0 : Nat) : Int) = o at *
                go_wp2_with fail
                go_roundg gg
                case measure => omega
                case rel => exact ⟨m + 1, by omega, by go_num, rfl, HN2.out⟩
              · by_cases y7 : 7 < y
                · have HN2 := Lib.hid (HNX.out (.inr y7))
                  clear HOM HOW HNN HC HW HEC HOC HNX hx256
                  generalize ((own.getD m 0 : Nat) : Int) = o at *
                  go_wp2_with fail
                  go_roundg gg
                  case measure => omega
                  case rel => exact ⟨m + 1, by omega, by go_num, rfl, HN2.out⟩
                · obtain ⟨z, hz⟩ : ∃ z : Nat, y = (z : Int) := ⟨y.toNat, by omega⟩
                  have hz8 : z < 8 := by omega
                  have HRI := Lib.hid (HOM.out z hz8 hz)
                  clear HOM HOW HNN HNX hm
                  subst hz
                  generalize ((own.getD m 0 : Nat) : Int) = o at *
                  by_cases hmd : m = j
                  · subst hmd
                    obtain ⟨hix13, hwix, hixb, hix0, hix1⟩ := five_facts z hz8
                    have c3 := HC.out (5 + z) hix13
                    have hws := HW.out (5 + z)
                    rw [ownRow, HD.out, if_neg (Nat.lt_irrefl _), drop5_get] at HRI
                    clear HC HW HEC HOC hx256 h256 hll hbl hoc hnl1 hod hlo hcap hmax hco hk hp hix13 hB
                    generalize (laidL n own).getD (5 + z) 0 = x at *
                    generalize 5 + z = q at *
                    go_wp2_with fail
                    go_ret2
                    exact HPOST.out _ _ _ HRI.out HKR.out
                  · have hmd' := cast_ne hmd
                    have hmj : m < j := lt_three hml hod hmd
                    rw [ownRow, HD.out, if_pos hmj, entRow, entTo_get _ _ _ _ hz8] at HRI
                    clear h256 hll hoc hnl1 hk hp hB hmj
                    obtain ⟨hq2, hm2, hwq, hwm, hw4, hwf, hwee⟩ := half_facts z m (Nat.lt_of_lt_of_le hml (Nat.le_trans hlo (by decide))) hz8
                    have c17 : wr.cell? ⟨w.heap.size, 17, none⟩ = some (.slice a n.E.length cap) := by rw [HBR.out.cell]; exact H17.out
                    obtain ⟨e, he⟩ : ∃ e, e = 4 * m + z / 2 := ⟨_, rfl⟩
                    rw [← he] at hwee hwf
                    have hcond := ent_cond (m := m) (len := n.E.length) hz8
                    rw [← he] at hcond
                    have hel64 : n.E.length ≤ 24 := hbl.1
                    by_cases hel : n.E.length ≤ e
                    · have hel' : (n.E.length : Int) ≤ (e : Int) := Int.ofNat_le.2 hel
                      rw [if_neg (fun h => Nat.not_lt.2 hel (hcond.1 h))] at HRI
                      clear HC HW HEC HOC hx256 hcond he hbl hod hlo hcap hmax hco hel64 hel hmd hm2 hwm
                      generalize z / 2 = z2 at *
                      generalize n.E.length = len at *
                      go_wp2_with fail
                      go_ret2
                      exact HPOST.out _ _ _ HRI.out HKR.out
                    · obtain ⟨hel', hel2, he0, hlt0⟩ := len_facts hel
                      rw [if_pos (hcond.2 (Nat.lt_of_not_le hel))] at HRI
                      clear hcond
                      obtain ⟨hgg, off2, rfl, d1, d2⟩ := HEC.out e hlt0
                      have c4 : wr.cell? ⟨g, off2 + e * 2, none⟩ = some (.string (enm n.E e)) := (World.cell?_of_block (HKR.out.block g hgg (by simp))).trans d1
                      have c5 : wr.cell? ⟨g, off2 + e * 2 + 1, none⟩ = some (.int .i64 (eno n.E e)) := (World.cell?_of_block (HKR.out.block g hgg (by simp))).trans d2
                      obtain ⟨en1, en2, en3⟩ := HENT.out e hlt0
                      unfold entX at HRI
                      rw [← he] at HRI
                      by_cases hz2 : z % 2 = 0
                      · rw [if_pos hz2] at HRI
                        rw [hz2] at hm2 hwm
                        unfold wordV at HRI
                        rw [if_pos en1] at HRI
                        have HWD := Lib.hid (fun wx => refWord_at (enm n.E e) (by have := (goodN_len en1).2; rwa [bl_len] at this) wx)
                        clear HC HW HEC HOC d1 d2 en1 hx256 he hbl hod hlo hcap hmax hco hel64 hel hmd hlt0 hz2
                        generalize enm n.E e = nm at *
                        generalize z / 2 = z2 at *
                        generalize n.E.length = len at *
                        go_wp2_with fail
                        refine (HWD.out _).mono ?_; rintro e w' ⟨rfl, rfl⟩
                        go_wp2_with fail
                        go_ret2
                        exact HPOST.out _ _ _ HRI.out HKR.out
                      · rw [if_neg hz2] at HRI
                        rw [(Nat.mod_two_eq_zero_or_one z).resolve_left hz2] at hm2 hwm
                        have hws : IntKind.u64.wrap (eno n.E e) = eno n.E e := wrap_nat64 en2 (Int.lt_of_le_of_lt en3 (by decide))
                        clear HC HW HEC HOC d1 d2 en1 hx256 he hbl hod hlo hcap hmax hco hel64 hel hmd hlt0 hz2
                        generalize eno n.E e = x at *
                        generalize z / 2 = z2 at *
                        generalize n.E.length = len at *
                        go_wp2_with fail
                        go_ret2
                        exact HPOST.out _ _ _ HRI.out HKR.out
        · have hi2 : (2 : Int) ≤ i := by omega
          have hi7 : ¬ i < 7 := by omega
          go_wp2_with fail
          go_loopg [15] own.length (fun gh s15 wx => ∃ m : Nat, m + gh = own.length ∧ s15 = .int .i64 (m : Int) ∧ wx = wA ∧ Hid (∀ i, i < m → ¬ (1080 + 8 * own.getD i 0 ≤ k ∧ k < 1080 + 8 * own.getD i 0 + 8)))
          case atStart => exact ⟨0, by omega, rfl, rfl, by intro i hi; omega⟩
          case round =>
            obtain ⟨m, hm, rfl, rfl, HQ⟩ := hrel
            clear i0 i1 i7 hio hi2 hi hsub
            try clear hi7
            cases gk with
            | zero =>
              obtain rfl : m = own.length := by omega
              have HRI := Lib.hid (HNN.out HQ.out)
              clear HQ HOW HNN HC HW hm
              go_wp2_with fail
              go_ret2
              exact HPOST.out _ _ _ HRI.out HKR.out
            | succ gg =>
              have hml : m < own.length := by omega
              have hmo : (m : Int) < (own.length : Int) := by omega
              have hm0 : (0 : Int) ≤ (m : Int) := by omega
              obtain ⟨hgo, off, rfl, hc⟩ := HOC.out m hml
              have c1 : wr.cell? ⟨go, off + m, none⟩ = some (.int .i64 ((own.getD m 0 : Nat) : Int)) := (World.cell?_of_block (HKR.out.block go hgo (by simp))).trans hc
              have hx256 := HLO.out m hml
              have hs1 : wrap64 ((k : Int) - 1080) = (k : Int) - 1080 := by unfold wrap64; omega
              have hs2 : wrap64 (8 * ((own.getD m 0 : Nat) : Int)) = 8 * ((own.getD m 0 : Nat) : Int) := by unfold wrap64; omega
              obtain ⟨y, hy⟩ : ∃ y : Int, (k : Int) - 1080 - 8 * ((own.getD m 0 : Nat) : Int) = y := ⟨_, rfl⟩
              have hs3 : wrap64 ((k : Int) - 1080 - 8 * ((own.getD m 0 : Nat) : Int)) = y := by rw [hy]; unfold wrap64; omega
              have hwy : wrap64 y = y := by unfold wrap64; omega
              have HNX : Hid ((y < 0 ∨ 7 < y) → ∀ i, i < m + 1 → ¬ (1080 + 8 * own.getD i 0 ≤ k ∧ k < 1080 + 8 * own.getD i 0 + 8)) := fun h i hi => by
                by_cases e : i = m
                · subst e; omega
                · exact HQ.out i (by omega)
              have HOM : Hid (∀ z : Nat, z < 8 → y = (z : Int) → Want n own p k ((ownRow n own m).getD z 0) true) := fun z hz e => HOW.out m z hml hz (by omega)
              clear hc HQ
              by_cases y0 : y < 0
              · have HN2 := Lib.hid (HNX.out (.inl y0))
                clear HOM HOW HNN HC HW HEC HOC HNX hx256
                generalize ((own.getD m 0 : Nat) : Int) = o at *
                go_wp2_with fail
                go_roundg gg
                case measure => omega
                case rel => exact ⟨m + 1, by omega, by go_num, rfl, HN2.out⟩
              · by_cases y7 : 7 < y
                · have HN2 := Lib.hid (HNX.out (.inr y7))
                  clear HOM HOW HNN HC HW HEC HOC HNX hx256
                  generalize ((own.getD m 0 : Nat) : Int) = o at *
                  go_wp2_with fail
                  go_roundg gg
                  case measure => omega
                  case rel => exact ⟨m + 1, by omega, by go_num, rfl, HN2.out⟩
                · obtain ⟨z, hz⟩ : ∃ z : Nat, y = (z : Int) := ⟨y.toNat, by omega⟩
                  have hz8 : z < 8 := by omega
                  have HRI := Lib.hid (HOM.out z hz8 hz)
                  clear HOM HOW HNN HNX hm
                  subst hz
                  generalize ((own.getD m 0 : Nat) : Int) = o at *
                  by_cases hmd : m = j
                  · subst hmd
                    obtain ⟨hix13, hwix, hixb, hix0, hix1⟩ := five_facts z hz8
                    have c3 := HC.out (5 + z) hix13
                    have hws := HW.out (5 + z)
                    rw [ownRow, HD.out, if_neg (Nat.lt_irrefl _), drop5_get] at HRI
                    clear HC HW HEC HOC hx256 h256 hll hbl hoc hnl1 hod hlo hcap hmax hco hk hp hix13 hB
                    generalize (laidL n own).getD (5 + z) 0 = x at *
                    generalize 5 + z = q at *
                    go_wp2_with fail
                    go_ret2
                    exact HPOST.out _ _ _ HRI.out HKR.out
                  · have hmd' := cast_ne hmd
                    have hmj : m < j := lt_three hml hod hmd
                    rw [ownRow, HD.out, if_pos hmj, entRow, entTo_get _ _ _ _ hz8] at HRI
                    clear h256 hll hoc hnl1 hk hp hB hmj
                    obtain ⟨hq2, hm2, hwq, hwm, hw4, hwf, hwee⟩ := half_facts z m (Nat.lt_of_lt_of_le hml (Nat.le_trans hlo (by decide))) hz8
                    have c17 : wr.cell? ⟨w.heap.size, 17, none⟩ = some (.slice a n.E.length cap) := by rw [HBR.out.cell]; exact H17.out
                    obtain ⟨e, he⟩ : ∃ e, e = 4 * m + z / 2 := ⟨_, rfl⟩
                    rw [← he] at hwee hwf
                    have hcond := ent_cond (m := m) (len := n.E.length) hz8
                    rw [← he] at hcond
                    have hel64 : n.E.length ≤ 24 := hbl.1
                    by_cases hel : n.E.length ≤ e
                    · have hel' : (n.E.length : Int) ≤ (e : Int) := Int.ofNat_le.2 hel
                      rw [if_neg (fun h => Nat.not_lt.2 hel (hcond.1 h))] at HRI
                      clear HC HW HEC HOC hx256 hcond he hbl hod hlo hcap hmax hco hel64 hel hmd hm2 hwm
                      generalize z / 2 = z2 at *
                      generalize n.E.length = len at *
                      go_wp2_with fail
                      go_ret2
                      exact HPOST.out _ _ _ HRI.out HKR.out
                    · obtain ⟨hel', hel2, he0, hlt0⟩ := len_facts hel
                      rw [if_pos (hcond.2 (Nat.lt_of_not_le hel))] at HRI
                      clear hcond
                      obtain ⟨hgg, off2, rfl, d1, d2⟩ := HEC.out e hlt0
                      have c4 : wr.cell? ⟨g, off2 + e * 2, none⟩ = some (.string (enm n.E e)) := (World.cell?_of_block (HKR.out.block g hgg (by simp))).trans d1
                      have c5 : wr.cell? ⟨g, off2 + e * 2 + 1, none⟩ = some (.int .i64 (eno n.E e)) := (World.cell?_of_block (HKR.out.block g hgg (by simp))).trans d2
                      obtain ⟨en1, en2, en3⟩ := HENT.out e hlt0
                      unfold entX at HRI
                      rw [← he] at HRI
                      by_cases hz2 : z % 2 = 0
                      · rw [if_pos hz2] at HRI
                        rw [hz2] at hm2 hwm
                        unfold wordV at HRI
                        rw [if_pos en1] at HRI
                        have HWD := Lib.hid (fun wx => refWord_at (enm n.E e) (by have := (goodN_len en1).2; rwa [bl_len] at this) wx)
                        clear HC HW HEC HOC d1 d2 en1 hx256 he hbl hod hlo hcap hmax hco hel64 hel hmd hlt0 hz2
                        generalize enm n.E e = nm at *
                        generalize z / 2 = z2 at *
                        generalize n.E.length = len at *
                        go_wp2_with fail
                        refine (HWD.out _).mono ?_; rintro e w' ⟨rfl, rfl⟩
                        go_wp2_with fail
                        go_ret2
                        exact HPOST.out _ _ _ HRI.out HKR.out
                      · rw [if_neg hz2] at HRI
                        rw [(Nat.mod_two_eq_zero_or_one z).resolve_left hz2] at hm2 hwm
                        have hws : IntKind.u64.wrap (eno n.E e) = eno n.E e := wrap_nat64 en2 (Int.lt_of_le_of_lt en3 (by decide))
                        clear HC HW HEC HOC d1 d2 en1 hx256 he hbl hod hlo hcap hmax hco hel64 hel hmd hlt0 hz2
                        generalize eno n.E e = x at *
                        generalize z / 2 = z2 at *
                        generalize n.E.length = len at *
                        go_wp2_with fail
                        go_ret2
                        exact HPOST.out _ _ _ HRI.out HKR.out

end Go.Proofs.YtmhcnkjmnbnldaaDoor

namespace Go.Proofs.YtmhcnkjmnbnldaaDoor
open Go.RowKit

/-- What Lay leaves. -/
def LayPost (w : World) (b gp : Nat) (B : List Int) (ps : List (Int × Int)) (i : Int) (n : Ino) (e : Ending) (w' : World) : Prop :=
  ∃ r qs gp', e = .returned (.int .i64 r) ∧ (gp' = gp ∨ (w.heap.size ≤ gp' ∧ gp' < w'.heap.size)) ∧ ShAt w' b gp' B (ps ++ qs) ∧ Keeps [b, gp] w w' ∧ qs.length ≤ 200 ∧
    ((r = 1 ∧ ¬ LayP i n ∧ qs = []) ∨ (r = 7 ∧ LayP i n ∧ (freeL (putAll B ps)).length < needN n ∧ qs = []) ∨
      (r = 0 ∧ LayP i n ∧ needN n ≤ (freeL (putAll B ps)).length ∧ qs = layPs (putAll B ps) i.toNat n ((freeL (putAll B ps)).take (needN n))))

theorem own_in {X : List Int} {m : Nat} : ∀ c ∈ (freeL X).take m, c ≠ 0 ∧ c < 256 := fun c hc => by
  have := freeTo_mem.1 (List.mem_of_mem_take hc)
  exact ⟨this.2.1, this.1⟩

theorem own_nodup {X : List Int} {m : Nat} : ((freeL X).take m).Nodup := List.Sublist.nodup (List.take_sublist _ _) (freeTo_nodup X 256)

theorem own_len {X : List Int} {m : Nat} (h : m ≤ (freeL X).length) : ((freeL X).take m).length = m := by rw [List.length_take, Nat.min_eq_left h]

theorem layPs_len {X : List Int} {i : Nat} {n : Ino} {own : List Nat} (hB : blocksN n.E.length ≤ 6) (hm : ∀ c ∈ own, c ≠ 0 ∧ c < 256) (ho : own.length ≤ 7) : (layPs X i n own).length ≤ 200 := by
  unfold layPs rowsPs listPs
  rw [List.length_append, List.length_append, List.length_append, takePs_len _ _ hm, entPs_len, rowPs_len]
  split
  · rw [rowPs_len]; omega
  · simp only [List.length_nil]; omega

theorem lay_any {w : World} {b gp : Nat} {B : List Int} {ps : List (Int × Int)} (h : ShAt w b gp B ps) (h64 : In64 (putAll B ps)) (hT : TabAt w) (hgp : gp < w.heap.size) (hps : ps.length ≤ 800000) (i : Int) (n : Ino) (v : Value) (g : Nat) (hB : n.B.length = 13) (hE : EReads w v g n.E)
    (hN : ∀ k, k < n.E.length → (enm n.E k).size ≤ 9223372036854775807) (hgg : n.E.length ≠ 0 → g ≠ b ∧ g ≠ gp) :
    Calls Tryd.prog 11 #[.pointer (some ⟨b, 0, none⟩), .int .i64 i, .agg (inoC n v)] w (LayPost w b gp B ps i n) := by
  by_cases hok : LayP i n
  · by_cases hn : needN n ≤ (freeL (putAll B ps)).length
    · refine (lay_ok h h64 hT hgp hps i n v g hB hE hN hok hgg hn).mono fun e w' he => ?_
      obtain ⟨he, gp', h1, h2, h3⟩ := he
      have hbl := blocks_le hok.2.2
      have hcn := need_le n
      exact ⟨0, _, gp', he, h1, h2, h3, layPs_len hbl.2.1 own_in (by rw [own_len hn]; omega), .inr (.inr ⟨rfl, hok, hn, rfl⟩)⟩
    · refine (lay_space h h64 i n v g hB hE hN hok (by omega)).mono fun e w' he => ?_
      exact ⟨7, [], gp, he.1, .inl rfl, by rw [List.append_nil]; exact h.keep he.2 (by simp) (by simp), he.2.mono (by simp), by simp, .inr (.inl ⟨rfl, hok, by omega, rfl⟩)⟩
  · refine (lay_arg i n v g hB hE hN hok).mono fun e w' he => ?_
    exact ⟨1, [], gp, he.1, .inl rfl, by rw [List.append_nil]; exact h.keep he.2 (by simp) (by simp), he.2.mono (by simp), by simp, .inl ⟨rfl, hok, rfl⟩⟩

theorem want_row {Y : List Int} {p k : Nat} {n : Ino} {own : List Nat} {x : Int} {ok : Bool} (hL : LaidAt Y p n own) (hk : p ≤ k ∧ k < p + 8) (h : Want n own p k x ok) : Y.getD k 0 = x ∧ ok = true := by
  obtain ⟨h1, h2⟩ := h.1 hk
  have h3 := rowL_get Y p (k - p) (by omega)
  rw [show p + (k - p) = k by omega, hL.row] at h3
  exact ⟨by rw [h1, h3], h2⟩

theorem want_own {Y : List Int} {p k m y : Nat} {n : Ino} {own : List Nat} {x : Int} {ok : Bool} (hL : LaidAt Y p n own) (hp : ¬ (p ≤ k ∧ k < p + 8)) (hm : m < own.length) (hy : y < 8) (hk : k = 1080 + 8 * own.getD m 0 + y) (h : Want n own p k x ok) : Y.getD k 0 = x ∧ ok = true := by
  obtain ⟨h1, h2⟩ := (h.2 hp).1 m hm (by omega)
  have h3 := rowL_get Y (1080 + 8 * own.getD m 0) y hy
  rw [← hk, hL.own m hm] at h3
  exact ⟨by rw [h1, ← h3, hk, Nat.add_sub_cancel_left], h2⟩

/-- Each word is what the reference wants, where all but what is laid is 0. -/
theorem want_laid {Y : List Int} {p k : Nat} {n : Ino} {own : List Nat} {x : Int} {ok : Bool} (hL : LaidAt Y p n own) (h0 : ¬ (p ≤ k ∧ k < p + 8) → ¬ (1080 ≤ k ∧ (k - 1080) / 8 ∈ own) → Y.getD k 0 = 0) (h : Want n own p k x ok) : Y.getD k 0 = x ∧ (ok = false → x = 0) := by
  by_cases hp : p ≤ k ∧ k < p + 8
  · obtain ⟨h1, h2⟩ := want_row hL hp h
    exact ⟨h1, fun h => by rw [h2] at h; cases h⟩
  · by_cases hm : 1080 ≤ k ∧ (k - 1080) / 8 ∈ own
    · obtain ⟨m, hml, hme⟩ := List.getElem_of_mem hm.2
      have e : own.getD m 0 = (k - 1080) / 8 := by rw [List.getD_eq_getElem?_getD, List.getElem?_eq_getElem hml, ← hme]; rfl
      obtain ⟨h1, h2⟩ := want_own (y := (k - 1080) % 8) hL hp hml (by omega) (by rw [e]; omega) h
      exact ⟨h1, fun h => by rw [h2] at h; cases h⟩
    · have h1 := (h.2 hp).2 fun m hml hin => hm ⟨by omega, by
        have : own.getD m 0 = (k - 1080) / 8 := by omega
        rw [← this]
        exact getD_mem hml⟩
      rw [h0 hp hm]
      exact ⟨h1.1.symm, fun _ => h1.1⟩

/-- A slice's first m numbers. -/
theorem reads_take {w : World} {a : Option Addr} {m cap g : Nat} {l : List Nat} (h : Reads w (.slice a l.length cap) g (i64s l)) (hm : m ≤ l.length) : Reads w (.slice a m cap) g (i64s (l.take m)) := by
  obtain ⟨a', cap', h1, h2, h3, h4⟩ := h
  injection h1 with e1 e2 e3
  subst e1 e3
  have hl : (i64s (l.take m)).length = m := by rw [i64s_len, List.length_take, Nat.min_eq_left hm]
  rw [i64s_len] at h2
  refine ⟨a, cap, by rw [hl], by rw [hl]; omega, h3, fun h0 => ?_⟩
  have hm0 : m ≠ 0 := by
    intro e
    apply h0
    rw [e, List.take_zero]
    rfl
  obtain ⟨h5, off, h6, h7⟩ := h4 (by intro e; have := congrArg List.length e; rw [i64s_len, List.length_nil] at this; omega)
  refine ⟨h5, off, h6, fun j hj => ?_⟩
  rw [hl] at hj
  rw [h7 j (by rw [i64s_len]; omega), i64s_get (by omega), i64s_get (by rw [List.length_take]; omega)]
  simp [List.getD_eq_getElem?_getD, hj]

/-- An inode is stored into a new variable. -/
theorem store_ino {w : World} {g : Nat} {cur : Array Value} {n : Ino} (hb : Blk w g cur 25) (hc : cur.size = 18) (hB : n.B.length = 13) {v : Value} (h1 : v.oneCell' = true) :
    ∃ w', (storeVar 25 ⟨g, 0, none⟩ (.agg (inoC n v))).run Tryd.prog w = .ok () w' ∧ Blk w' g (inoC n v) 25 ∧ Keeps [g] w w' :=
  store_whole (P := Tryd.prog) (ty := 25) (cs := inoL n v) (by rw [inoL_len, hB]; exact size_ino) hb (by rw [hc, inoL_len, hB]) (inoL_one h1)

theorem reads_one {w : World} {v : Value} {g : Nat} {E : List (ByteArray × Int)} (h : EReads w v g E) : v.oneCell' = true := by
  obtain ⟨a, cap, rfl, -⟩ := h
  rfl

end Go.Proofs.YtmhcnkjmnbnldaaDoor

namespace Go.Proofs.YtmhcnkjmnbnldaaDoor
open Go.RowKit

theorem In64.of_mem {l : List Int} (h : ∀ x, x ∈ l → 0 ≤ x ∧ x < 18446744073709551616) : In64 l := fun i => by
  rw [List.getD_eq_getElem?_getD]
  by_cases hi : i < l.length
  · rw [List.getElem?_eq_getElem hi]
    exact h _ (List.getElem_mem hi)
  · rw [List.getElem?_eq_none (by omega)]
    simp

theorem endAt_le (l : List Int) : ∀ f e, endAt l f e ≤ e + f
  | 0, e => Nat.le_refl _
  | f + 1, e => by
    unfold endAt
    split
    · have := endAt_le l f (e + 1); omega
    · omega

theorem runs_mem {l : List Int} {x : Int} : ∀ {k : Nat}, x ∈ runsTo l k → ∃ j, j < k ∧ startP l j ∧ x = runW j (l.getD j 0) (lenAt l j)
  | 0, h => by simp [runsTo] at h
  | k + 1, h => by
    unfold runsTo at h
    split at h
    · rename_i hs
      rcases List.mem_append.1 h with h | h
      · obtain ⟨j, h1, h2⟩ := runs_mem h
        exact ⟨j, by omega, h2⟩
      · rw [List.mem_singleton] at h
        exact ⟨k, by omega, hs, h⟩
    · obtain ⟨j, h1, h2⟩ := runs_mem h
      exact ⟨j, by omega, h2⟩

theorem runs_64 {l : List Int} {x : Int} (h : x ∈ runsL l) : 0 ≤ x ∧ x < 9223372036854775808 := by
  obtain ⟨j, hj, hs, rfl⟩ := runs_mem h
  have h1 := hs.1
  have h2 := endAt_le l 13 (j + 1)
  unfold isB at h1
  unfold runW lenAt
  omega

theorem own_lt {own : List Nat} (hm : ∀ c ∈ own, c ≠ 0 ∧ c < 256) (k : Nat) : own.getD k 0 < 256 := by
  by_cases h : k < own.length
  · exact (hm _ (getD_mem h)).2
  · rw [List.getD_eq_getElem?_getD, List.getElem?_eq_none (by omega)]
    decide

theorem rowF_64 {n : Ino} {own : List Nat} (hR : RightP n) (hm : ∀ c ∈ own, c ≠ 0 ∧ c < 256) : In64 (rowF n own) := by
  obtain ⟨t1, t2, t3, t4⟩ := tagOk_right hR
  have ht : 0 ≤ tagW n ∧ tagW n < 18446744073709551616 := by unfold tagW; omega
  have hs : 0 ≤ n.S ∧ n.S < 18446744073709551616 := by omega
  refine In64.of_mem fun x hx => ?_
  unfold rowF at hx
  split at hx
  · have hh : ∀ q, 0 ≤ hdTo n.E own 4 0 q ∧ hdTo n.E own 4 0 q < 18446744073709551616 := fun q => by
      unfold hdTo hdD
      have h1 := own_lt hm (fstN n.E q)
      split
      · split <;> omega
      · split <;> omega
    simp only [dirRow, rowD, List.mem_cons, List.not_mem_nil, or_false] at hx
    rcases hx with rfl | rfl | rfl | rfl | rfl | rfl | rfl | rfl
    · exact ht
    · exact hs
    · exact hh 0
    · exact hh 1
    · exact hh 2
    · exact hh 3
    · omega
    · omega
  · unfold fileRow at hx
    split at hx
    · rcases List.mem_cons.1 hx with rfl | hx
      · exact ht
      · rcases List.mem_cons.1 hx with rfl | hx
        · exact hs
        · rcases List.mem_append.1 hx with hx | hx
          · have := runs_64 hx; omega
          · have := List.eq_of_mem_replicate hx; omega
    · rcases List.mem_cons.1 hx with rfl | hx
      · exact ht
      · rcases List.mem_cons.1 hx with rfl | hx
        · exact hs
        · rcases List.mem_append.1 hx with hx | hx
          · have := runs_64 (List.mem_of_mem_take hx); omega
          · rw [List.mem_singleton] at hx
            have := own_lt hm 0
            omega

theorem blocksF_64 {n : Ino} {own : List Nat} (hR : RightP n) (hm : ∀ c ∈ own, c ≠ 0 ∧ c < 256) (m : Nat) : In64 ((blocksF n own).getD m []) := by
  by_cases hmb : m < (blocksF n own).length
  · unfold blocksF at hmb ⊢
    split at hmb
    · rename_i hK
      rw [if_pos hK]
      have hd : DirP n := (hR.2.2.resolve_left (fun h => by have := h.1; omega)).2
      rw [dirTo_len] at hmb
      obtain ⟨b, j, hb, hj, rfl⟩ := fst_cover n.E hmb
      rw [dirTo_get n.E own hj hb]
      intro y
      cases y with
      | zero =>
        show 0 ≤ (if j + 1 < dN n.E b then ((own.getD (fstN n.E b + (j + 1)) 0 : Nat) : Int) else 0) ∧ (if j + 1 < dN n.E b then ((own.getD (fstN n.E b + (j + 1)) 0 : Nat) : Int) else 0) < _
        have := own_lt hm (fstN n.E b + (j + 1))
        split <;> omega
      | succ y =>
        rw [blkD, blkX_succ]
        by_cases hy : y < 7
        · rw [blk_word _ _ _ hy]
          split
          · rename_i hc
            split
            · have := wordV_64 (enm (sprE n.E b) (3 * j + y / 2)); omega
            · obtain ⟨k, hk, -, e2⟩ := spr_mem hc.1
              rw [e2]
              have := (hd.2.2.2 k hk).2.1
              omega
          · omega
        · rw [List.getD_eq_getElem?_getD, List.getElem?_eq_none (by rw [wordsE_len, chE_len]; omega)]
          simp
    · rename_i hK
      rw [if_neg hK]
      unfold fileBlocks at *
      split
      · simp [In64]
      · refine In64.of_mem fun x hx => ?_
        rename_i h6
        rw [if_neg h6] at hmb
        obtain rfl : m = 0 := by simpa using hmb
        have hx : x ∈ (runsL n.B).drop 5 ++ List.replicate (13 - (runsL n.B).length) 0 := hx
        rcases List.mem_append.1 hx with hx | hx
        · have := runs_64 (List.mem_of_mem_drop hx); omega
        · have := List.eq_of_mem_replicate hx; omega
  · rw [List.getD_eq_getElem?_getD, List.getElem?_eq_none (by omega)]
    simp [In64]

theorem blkPs_mem {p : Int × Int} {Ls : List (List Int)} {own : List Nat} {k : Nat} (h : p ∈ blkPs Ls own k) : ∃ m j, m < k ∧ j < 8 ∧ p.1.toNat = 1080 + 8 * own.getD m 0 + j ∧ p.2 = (Ls.getD m []).getD j 0 := by
  unfold blkPs at h
  obtain ⟨m, hm, h⟩ := List.mem_flatMap.1 h
  rw [List.mem_range] at hm
  obtain ⟨j, hj, h1, h2⟩ := rowPs_mem h
  exact ⟨m, j, hm, hj, h1, h2⟩

theorem blk_put {X : List Int} (hX : X.length = 3128) {Ls : List (List Int)} {own : List Nat} (h8 : ∀ m, m < own.length → (Ls.getD m []).length = 8) (hn : own.Nodup) (hm : ∀ c ∈ own, c ≠ 0 ∧ c < 256) : ∀ k, k ≤ own.length → ∀ m, m < k → rowL (putAll X (blkPs Ls own k)) (1080 + 8 * own.getD m 0) = Ls.getD m [] := by
  intro k
  induction k with
  | zero => intro _ m h; omega
  | succ k ih =>
    intro hk m hmk
    have hkk := hm _ (getD_mem (show k < own.length by omega))
    have hmm := hm _ (getD_mem (show m < own.length by omega))
    rw [blkPs_succ, putAll_append]
    by_cases e : m = k
    · subst e
      exact rowL_put_eq (by rw [putAll_len, hX]) _ (by omega) (h8 m (by omega))
    · have : own.getD m 0 ≠ own.getD k 0 := fun h => e (getD_inj hn (by omega) (by omega) h)
      rw [rowL_put_ne (by rw [putAll_len, hX]) _ _ (by omega) (by omega)]
      exact ih (by omega) m (by omega)

/-- All that is known of words that were laid over words. -/
theorem laid2_all {X : List Int} (h64 : In64 X) (hX : X.length = 3128) {i : Int} {n : Ino} (hok : Lay2P i n) (hn : needF n ≤ (freeL X).length) :
    IsLaidP (putAll X (lay2Ps X i.toNat n ((freeL X).take (needF n)))) (rowL (putAll X (lay2Ps X i.toNat n ((freeL X).take (needF n)))) (824 + 8 * i.toNat)) n ((freeL X).take (needF n)) ∧ In64 (putAll X (lay2Ps X i.toNat n ((freeL X).take (needF n)))) ∧
    (∀ k, 820 ≤ k → ¬ (824 + 8 * i.toNat ≤ k ∧ k < 824 + 8 * i.toNat + 8) → ¬ (1080 ≤ k ∧ (k - 1080) / 8 ∈ (freeL X).take (needF n)) → (putAll X (lay2Ps X i.toNat n ((freeL X).take (needF n)))).getD k 0 = X.getD k 0) := by
  have hol := own_len hn
  have hi := hok.1
  have hm : ∀ c ∈ (freeL X).take (needF n), c ≠ 0 ∧ c < 256 := own_in
  have hnd : ((freeL X).take (needF n)).Nodup := own_nodup
  generalize (freeL X).take (needF n) = own at *
  have h8 : ∀ m, m < own.length → ((blocksF n own).getD m []).length = 8 := fun m hml => blocksF_len8 (by rw [blocksF_len hok.2.2 hol]; exact hml)
  refine ⟨?_, ?_, fun k hk h1 h2 => ?_⟩
  · unfold lay2Ps
    rw [putAll_append, putAll_append]
    refine ⟨fun m hml => ?_, (rowL_put_eq (by rw [putAll_len, putAll_len, hX]) _ (by omega) (rowF_len n own)).symm⟩
    have hmm := hm _ (getD_mem hml)
    rw [rowL_put_ne (by rw [putAll_len, putAll_len, hX]) _ _ (by omega) (by omega)]
    exact (blk_put (by rw [putAll_len, hX]) h8 hnd hm _ (Nat.le_refl _) m hml).symm
  · unfold lay2Ps
    rw [putAll_append]
    refine (takePs_state own X h64 hX hm).1.put fun p hp => ?_
    rcases List.mem_append.1 hp with hp | hp
    · obtain ⟨m, j, -, -, -, h⟩ := blkPs_mem hp
      rw [h]
      exact blocksF_64 hok.2.2 hm m j
    · obtain ⟨j, -, -, h⟩ := rowPs_mem hp
      rw [h]
      exact rowF_64 hok.2.2 hm j
  · refine putAll_other _ _ _ fun p hp hpk => ?_
    unfold lay2Ps at hp
    rcases List.mem_append.1 hp with hp | hp
    · rcases takePs_mem _ _ hm hp with h | h
      · omega
      · rw [hpk] at h; exact h2 h
    · rcases List.mem_append.1 hp with hp | hp
      · obtain ⟨m, j, h3, h4, h5, -⟩ := blkPs_mem hp
        refine h2 ⟨by omega, ?_⟩
        rw [← hpk, h5, show (1080 + 8 * own.getD m 0 + j - 1080) / 8 = own.getD m 0 by omega]
        exact getD_mem h3
      · obtain ⟨j, h4, h5, -⟩ := rowPs_mem hp
        exact h1 ⟨by omega, by omega⟩

/-- What Lay leaves. -/
def Lay2Post (w : World) (b gp : Nat) (B : List Int) (ps : List (Int × Int)) (i : Int) (n : Ino) (e : Ending) (w' : World) : Prop :=
  ∃ r qs gp', e = .returned (.int .i64 r) ∧ (gp' = gp ∨ (w.heap.size ≤ gp' ∧ gp' < w'.heap.size)) ∧ ShAt w' b gp' B (ps ++ qs) ∧ Keeps [b, gp] w w' ∧ qs.length ≤ 600 ∧
    ((r = 1 ∧ ¬ Lay2P i n ∧ qs = []) ∨ (r = 7 ∧ Lay2P i n ∧ (freeL (putAll B ps)).length < needF n ∧ qs = []) ∨
      (r = 0 ∧ Lay2P i n ∧ needF n ≤ (freeL (putAll B ps)).length ∧ qs = lay2Ps (putAll B ps) i.toNat n ((freeL (putAll B ps)).take (needF n))))

theorem lay2Ps_len {X : List Int} {i : Nat} {n : Ino} {own : List Nat} (hm : ∀ c ∈ own, c ≠ 0 ∧ c < 256) (ho : own.length ≤ 32) : (lay2Ps X i n own).length ≤ 600 := by
  unfold lay2Ps
  rw [List.length_append, List.length_append, takePs_len _ _ hm, blkPs_len, rowPs_len]
  omega

theorem lay2_any {w : World} {b gp : Nat} {B : List Int} {ps : List (Int × Int)} (h : ShAt w b gp B ps) (h64 : In64 (putAll B ps)) (hT : TabAt w) (hgp : gp < w.heap.size) (hps : ps.length ≤ 800000) (i : Int) (n : Ino) (v : Value) (g : Nat) (hB : n.B.length = 13) (hE : EReads w v g n.E)
    (hN : ∀ k, k < n.E.length → (enm n.E k).size ≤ 9223372036854775807) (hgg : n.E.length ≠ 0 → g ≠ b ∧ g ≠ gp) :
    Calls Tryd.prog 25 #[.pointer (some ⟨b, 0, none⟩), .int .i64 i, .agg (inoC n v)] w (Lay2Post w b gp B ps i n) := by
  by_cases hok : Lay2P i n
  · by_cases hn : needF n ≤ (freeL (putAll B ps)).length
    · refine (lay2_ok h h64 hT hgp hps i n v g hB hE hN hok hgg hn).mono fun e w' he => ?_
      obtain ⟨he, gp', h1, h2, h3⟩ := he
      exact ⟨0, _, gp', he, h1, h2, h3, lay2Ps_len own_in (by rw [own_len hn]; exact needF_le hok.2.2), .inr (.inr ⟨rfl, hok, hn, rfl⟩)⟩
    · refine (lay2_space h h64 i n v g hB hE hN hok (by omega)).mono fun e w' he => ?_
      exact ⟨7, [], gp, he.1, .inl rfl, by rw [List.append_nil]; exact h.keep he.2 (by simp) (by simp), he.2.mono (by simp), by simp, .inr (.inl ⟨rfl, hok, by omega, rfl⟩)⟩
  · refine (lay2_arg i n v g hB hE hN hok).mono fun e w' he => ?_
    exact ⟨1, [], gp, he.1, .inl rfl, by rw [List.append_nil]; exact h.keep he.2 (by simp) (by simp), he.2.mono (by simp), by simp, .inl ⟨rfl, hok, rfl⟩⟩

theorem want2_row {Y : List Int} {p k : Nat} {n : Ino} {own : List Nat} {x : Int} {ok : Bool} (hL : IsLaidP Y (rowL Y p) n own) (hk : p ≤ k ∧ k < p + 8) (h : WantR (rowF n own) (blocksF n own) own p k x ok) : Y.getD k 0 = x ∧ ok = true := by
  obtain ⟨h1, h2⟩ := h.1 hk
  have h3 := rowL_get Y p (k - p) (by omega)
  rw [show p + (k - p) = k by omega, ← hL.2] at h3
  exact ⟨by rw [h1, h3], h2⟩

theorem want2_own {Y : List Int} {p k m y : Nat} {n : Ino} {own : List Nat} {x : Int} {ok : Bool} (hL : IsLaidP Y (rowL Y p) n own) (hp : ¬ (p ≤ k ∧ k < p + 8)) (hm : m < own.length) (hy : y < 8) (hk : k = 1080 + 8 * own.getD m 0 + y) (h : WantR (rowF n own) (blocksF n own) own p k x ok) : Y.getD k 0 = x ∧ ok = true := by
  obtain ⟨h1, h2⟩ := (h.2 hp).1 m hm (by omega)
  have h3 := rowL_get Y (1080 + 8 * own.getD m 0) y hy
  rw [← hk, ← hL.1 m hm] at h3
  exact ⟨by rw [h1, ← h3, hk, Nat.add_sub_cancel_left], h2⟩

/-- Each word is what the reference wants, where all but what is laid is 0. -/
theorem want2_laid {Y : List Int} {p k : Nat} {n : Ino} {own : List Nat} {x : Int} {ok : Bool} (hL : IsLaidP Y (rowL Y p) n own) (h0 : ¬ (p ≤ k ∧ k < p + 8) → ¬ (1080 ≤ k ∧ (k - 1080) / 8 ∈ own) → Y.getD k 0 = 0) (h : WantR (rowF n own) (blocksF n own) own p k x ok) : Y.getD k 0 = x ∧ (ok = false → x = 0) := by
  by_cases hp : p ≤ k ∧ k < p + 8
  · obtain ⟨h1, h2⟩ := want2_row hL hp h
    exact ⟨h1, fun h => by rw [h2] at h; cases h⟩
  · by_cases hm : 1080 ≤ k ∧ (k - 1080) / 8 ∈ own
    · obtain ⟨m, hml, hme⟩ := List.getElem_of_mem hm.2
      have e : own.getD m 0 = (k - 1080) / 8 := by rw [List.getD_eq_getElem?_getD, List.getElem?_eq_getElem hml, ← hme]; rfl
      obtain ⟨h1, h2⟩ := want2_own (y := (k - 1080) % 8) hL hp hml (by omega) (by rw [e]; omega) h
      exact ⟨h1, fun h => by rw [h2] at h; cases h⟩
    · have h1 := (h.2 hp).2 fun m hml hin => hm ⟨by omega, by
        have : own.getD m 0 = (k - 1080) / 8 := by omega
        rw [← this]
        exact getD_mem hml⟩
      rw [h0 hp hm]
      exact ⟨h1.1.symm, fun _ => h1.1⟩

end Go.Proofs.YtmhcnkjmnbnldaaDoor

namespace Go.Proofs.YtmhcnkjmnbnldaaDoor
open Go.RowKit

/-- A run put in its place, the first j blocks of it. -/
def setTo (l : List Int) (p b : Nat) : Nat → List Int
  | 0 => l
  | j + 1 => (setTo l p b j).set (p + j) (((b + j : Nat) : Int))

theorem setTo_len (l : List Int) (p b : Nat) : ∀ j, (setTo l p b j).length = l.length
  | 0 => rfl
  | j + 1 => by unfold setTo; rw [List.length_set, setTo_len l p b j]

/-- The numbers that the first k words tell; none, if a run goes beyond the places. -/
def numsTo (L : List Int) : Nat → Option (List Int)
  | 0 => some (List.replicate 13 0)
  | k + 1 => match numsTo L k with
    | none => none
    | some l => if 13 < (L.getD k 0).toNat / 4294967296 + (L.getD k 0).toNat % 256 then none
      else some (setTo l ((L.getD k 0).toNat / 4294967296) ((L.getD k 0).toNat / 256 % 16777216) ((L.getD k 0).toNat % 256))

theorem numsTo_none {L : List Int} {k : Nat} (h : numsTo L k = none) : ∀ n, k ≤ n → numsTo L n = none
  | 0, hn => by have : k = 0 := by omega
                subst this; exact h
  | n + 1, hn => by
    by_cases e : k = n + 1
    · subst e; exact h
    · unfold numsTo
      rw [numsTo_none h n (by omega)]

theorem numsTo_len {L : List Int} : ∀ {k : Nat} {l : List Int}, numsTo L k = some l → l.length = 13
  | 0, l, h => by cases h; simp
  | k + 1, l, h => by
    unfold numsTo at h
    split at h
    · cases h
    · rename_i l0 h0
      split at h
      · cases h
      · cases h
        rw [setTo_len, numsTo_len h0]

theorem run_parts (x : Nat) (hx : x < 18446744073709551616) : bits .and .u64 ((x : Int) / 256) 16777215 = ((x / 256 % 16777216 : Nat) : Int) ∧ bits .and .u64 (x : Int) 255 = ((x % 256 : Nat) : Int) := by
  have h1 := Nat.div_le_self x 256
  constructor
  · rw [show (x : Int) / 256 = ((x / 256 : Nat) : Int) by omega, show (16777215 : Int) = ((16777215 : Nat) : Int) from rfl, u64_and_nat (x / 256) 16777215 (by omega) (by omega), show x / 256 &&& 16777215 = x / 256 % 2 ^ 24 from Nat.and_two_pow_sub_one_eq_mod _ 24]
  · rw [show (255 : Int) = ((255 : Nat) : Int) from rfl, u64_and_nat x 255 hx (by omega), show x &&& 255 = x % 2 ^ 8 from Nat.and_two_pow_sub_one_eq_mod x 8]

theorem results_cell2' {P : Program} {fn : Func} {tmps : Array Value} {a t b : Nat} {ad : Addr} {v x : Value} {w : World} (hfn : fn.results = #[.cell a t, .tmp b]) (ha : tmps.getD a undef = .pointer (some ad)) (hl : (loadVar t ad).run P w = .ok v w)
    (hb : tmps.getD b undef = x) : (results fn tmps).run P w = .ok (.tuple #[v, x]) w := by
  rw [Array.getD_eq_getD_getElem?] at ha hb
  unfold results
  rw [hfn]
  simp [Sem.run_bind, ha, asAddr_ptr, hl, hb]

/-- What numbersOf leaves. -/
def NumsPost (w : World) (L : List Int) (e : Ending) (w' : World) : Prop :=
  ∃ l ok, e = .returned (.tuple #[.agg (zs l).toArray, .bool ok]) ∧ l.length = 13 ∧ (ok = true → numsTo L L.length = some l) ∧ (ok = false → numsTo L L.length = none ∧ l = List.replicate 13 0) ∧ Keeps [] w w'

/-- Facts of one word. -/
theorem word_facts (x P N C : Nat) (hx : x < 18446744073709551616) (hP : P = x / 4294967296) (hN : N = x / 256 % 16777216) (hC : C = x % 256) :
    ∃ si : Int, (x : Int) / 4294967296 = (P : Int) ∧ bits .and .u64 ((x : Int) / 256) 16777215 = (N : Int) ∧ bits .and .u64 (x : Int) 255 = (C : Int) ∧ (P : Int) + (C : Int) = si ∧ IntKind.u64.wrap si = si ∧ (13 < P + C ↔ 13 < si) ∧ P < 4294967296 ∧ N < 16777216 ∧ C < 256 := by
  obtain ⟨h1, h2⟩ := run_parts x hx
  refine ⟨(P : Int) + (C : Int), by omega, by rw [hN]; exact h1, by rw [hC]; exact h2, rfl, num_u64 (by omega) (by omega), by omega, by omega, by omega, by omega⟩

theorem step_facts (P N C k : Nat) (hPC : P + C ≤ 13) (hk : k < C) (hN : N < 16777216) : ∃ ji vi : Int, (P : Int) + (k : Int) = ji ∧ IntKind.u64.wrap ji = ji ∧ 0 ≤ ji ∧ ji < 13 ∧ ji.toNat = P + k ∧ (N : Int) + (k : Int) = vi ∧ IntKind.u64.wrap vi = vi ∧ wrap64 vi = vi ∧ vi = ((N + k : Nat) : Int) :=
  ⟨(P : Int) + (k : Int), (N : Int) + (k : Int), rfl, num_u64 (by omega) (by omega), by omega, by omega, by omega, rfl, num_u64 (by omega) (by omega), w64_in (by omega) (by omega), by omega⟩

set_option maxRecDepth 100000 in
set_option maxHeartbeats 8000000 in
theorem nums2_at {w : World} {v : Value} {g : Nat} {L : List Int} (h : Reads w v g (u64s L)) (hL : L.length ≤ 100) (h64 : ∀ k, 0 ≤ L.getD k 0 ∧ L.getD k 0 < 18446744073709551616) :
    Calls Tryd.prog 91 #[v] w (NumsPost w L) := by
  obtain ⟨a, cap, rfl, h1, h2, HC⟩ := u64s_cell h
  have hzv := zero_n13
  have HB2 : Hid (Blk ((w.alloc (.cells (zs (List.replicate 13 0)).toArray 22)).alloc (.cells (zs (List.replicate 13 0)).toArray 22)) w.heap.size (zs (List.replicate 13 0)).toArray 22) := (Blk.new w _ _).alloc _
  have HB4 : Hid (Blk ((w.alloc (.cells (zs (List.replicate 13 0)).toArray 22)).alloc (.cells (zs (List.replicate 13 0)).toArray 22)) (w.heap.size + 1) (zs (List.replicate 13 0)).toArray 22) := by
    have := Blk.new (w.alloc (.cells (zs (List.replicate 13 0)).toArray 22)) (zs (List.replicate 13 0)).toArray 22
    have e : (w.alloc (.cells (zs (List.replicate 13 0)).toArray 22)).heap.size = w.heap.size + 1 := by simp
    rw [e] at this
    exact this
  have HK0 : Hid (Keeps [] w ((w.alloc (.cells (zs (List.replicate 13 0)).toArray 22)).alloc (.cells (zs (List.replicate 13 0)).toArray 22))) := ((Keeps.refl _ _).alloc _).alloc _
  have HSZ : Hid (∀ wx l, l.length = 13 → Blk wx w.heap.size (zs (List.replicate 13 0)).toArray 22 → ∃ w', (storeVar 22 ⟨w.heap.size, 0, none⟩ (.agg (zs l).toArray)).run Tryd.prog wx = .ok () w' ∧ (loadVar 22 ⟨w.heap.size, 0, none⟩).run Tryd.prog w' = .ok (.agg (zs l).toArray) w' ∧ Keeps [w.heap.size] wx w') := fun wx l hl hb => by
    obtain ⟨w', q1, q2, q3⟩ := store_whole (P := Tryd.prog) (ty := 22) (cs := zs l) (by rw [zs_len, hl]; exact size_n13) hb (by simp [zs_len, hl]) (zs_one _)
    exact ⟨w', q1, load_n13 (off := 0) q2 hl (fun k hk => by rw [Nat.zero_add, List.getElem?_toArray, zs_get (by omega)]), q3⟩
  have H64 := Lib.hid h64
  clear h h64
  generalize hn : L.length = n at *
  have HN := Lib.hid hn
  clear hn
  generalize hz0 : (zs (List.replicate 13 0)).toArray = Z0 at *
  have HZ0 := Lib.hid hz0
  clear hz0
  go_enter Tryd.func91, Tryd.ntmps91
  go_wp2_with fail
  go_loopg [13] n (fun gh s13 wx => ∃ (k : Nat) (l : List Int), k + gh = n ∧ s13 = .int .i64 (k : Int) ∧ Hid (numsTo L k = some l ∧ Blk wx (w.heap.size + 1) (zs l).toArray 22 ∧ Blk wx w.heap.size Z0 22 ∧ Keeps [] w wx))
  case atStart => exact ⟨0, List.replicate 13 0, by omega, rfl, rfl, by rw [HZ0.out]; exact HB4.out, HB2.out, HK0.out⟩
  case round =>
    clear HB2 HB4 HK0
    obtain ⟨k, l, hk, rfl, HP⟩ := hrel
    obtain ⟨hnum, hb4, hb2, hkp⟩ := HP.out
    have hl13 := numsTo_len hnum
    cases gk with
    | zero =>
      obtain rfl : k = n := by omega
      have HL := Lib.hid (load_n13 (off := 0) hb4 hl13 (fun k hk => by rw [Nat.zero_add, List.getElem?_toArray, zs_get (by omega)]))
      obtain ⟨w2, hS, hld, hk2⟩ := HSZ.out wr l hl13 hb2
      have HS := Lib.hid hS
      have HLD := Lib.hid hld
      have HF : Hid (NumsPost w L (.returned (.tuple #[.agg (zs l).toArray, .bool true])) w2) := ⟨l, true, rfl, hl13, fun _ => by rw [HN.out]; exact hnum, fun h => (by cases h), hkp.trans hk2 (by simp)⟩
      clear HP hnum hb4 hb2 hkp hS hld hk2 hk hzv
      go_wp2_with (first | ((with_reducible show wpList _ _ _ (⟨_, .load 22 (.tmp 4), _, _, _, _⟩ :: _) _ _); refine wpList_load_any rfl 22 (.tmp 4) rfl _ rfl _ HL.out ?_) | ((with_reducible show wpList _ _ _ (⟨_, .store 22 (.tmp 2) (.tmp 43), _, _, _, _⟩ :: _) _ _); refine wpList_store_any rfl 22 (.tmp 2) (.tmp 43) rfl _ rfl _ rfl _ HS.out ?_))
      exact bodyPost_ret (results_cell2' Tryd.results91 rfl HLD.out rfl) rfl HF.out
    | succ gg =>
      have hkn : k < n := by omega
      have hlt : (k : Int) < (n : Int) := by omega
      have hk0 : (0 : Int) ≤ (k : Int) := by omega
      obtain ⟨hgl, off, rfl, c0⟩ := HC.out k hkn
      have d0 := (World.cell?_of_block (w := w) (a := ⟨g, off + k, none⟩) (hkp.block g hgl (by simp))).trans c0
      have h64k := H64.out k
      obtain ⟨x, hx⟩ : ∃ x : Nat, L.getD k 0 = (x : Int) := ⟨(L.getD k 0).toNat, by omega⟩
      have hxt : (L.getD k 0).toNat = x := by omega
      have HSU : Hid (numsTo L (k + 1) = if 13 < x / 4294967296 + x % 256 then none else some (setTo l (x / 4294967296) (x / 256 % 16777216) (x % 256))) := by
        show _ = _
        rw [numsTo, hnum, hxt]
      rw [hx] at d0
      obtain ⟨P, hP⟩ : ∃ P, P = x / 4294967296 := ⟨_, rfl⟩
      obtain ⟨N, hNN⟩ : ∃ N, N = x / 256 % 16777216 := ⟨_, rfl⟩
      obtain ⟨C, hCC⟩ : ∃ C, C = x % 256 := ⟨_, rfl⟩
      obtain ⟨si, q1, q2, q3, q4, q5, q6, q7, q8, q9⟩ := word_facts x P N C (by omega) hP hNN hCC
      rw [← hP, ← hNN, ← hCC] at HSU
      have HKP := Lib.hid hkp
      have HB2 := Lib.hid hb2
      have HB4 := Lib.hid hb4
      clear hP hNN hCC c0 hx hxt h64k HP hnum hb4 hb2 hkp
      by_cases h13 : 13 < si
      · have HNO : Hid (numsTo L n = none) := numsTo_none (by rw [HSU.out, if_pos (q6.2 h13)]) n (by omega)
        obtain ⟨w2, hS, hld, hk2⟩ := HSZ.out wr (List.replicate 13 0) (by simp) HB2.out
        rw [HZ0.out] at hS hld
        have HS := Lib.hid hS
        have HLD := Lib.hid hld
        have HF : Hid (NumsPost w L (.returned (.tuple #[.agg Z0, .bool false])) w2) := ⟨List.replicate 13 0, false, by rw [HZ0.out], by simp, fun h => (by cases h), fun _ => ⟨by rw [HN.out]; exact HNO.out, rfl⟩, HKP.out.trans hk2 (by simp)⟩
        clear hS hld hk2 q6 q7 q8 q9
        go_wp2_with ((with_reducible show wpList _ _ _ (⟨_, .store 22 (.tmp 2) (.tmp 28), _, _, _, _⟩ :: _) _ _); refine wpList_store_any rfl 22 (.tmp 2) (.tmp 28) rfl _ rfl _ rfl _ HS.out ?_)
        exact bodyPost_ret (results_cell2' Tryd.results91 rfl HLD.out rfl) rfl HF.out
      · have hPC : P + C ≤ 13 := by
          have : ¬ 13 < P + C := fun h => h13 (q6.1 h)
          omega
        have HNX : Hid (numsTo L (k + 1) = some (setTo l P N C)) := by
          show _ = _
          rw [HSU.out, if_neg (by omega)]
        clear q6 HSU
        go_wp2_with fail
        clear d0 q1 q2 q3 q4 q5 hzv
        go_loopg [30] C (fun gh s30 wx => ∃ j : Nat, j + gh = C ∧ s30 = .int .u64 (j : Int) ∧ Hid (Blk wx (w.heap.size + 1) (zs (setTo l P N j)).toArray 22 ∧ Blk wx w.heap.size Z0 22 ∧ Keeps [] w wx))
        case atStart => exact ⟨0, by omega, rfl, HB4.out, HB2.out, HKP.out⟩
        case round =>
          clear HB4 HB2 HKP
          obtain ⟨j, hj, rfl, HQ⟩ := hrel
          cases gk with
          | zero =>
            obtain rfl : j = C := by omega
            have HQ2 := Lib.hid HQ.out
            clear HQ hj
            go_wp2_with fail
            go_roundg gg
            case measure => omega
            case rel => exact ⟨k + 1, _, by omega, by go_num, HNX.out, HQ2.out.1, HQ2.out.2.1, HQ2.out.2.2⟩
          | succ gk =>
            have hjC : j < C := by omega
            have hjlt : (j : Int) < (C : Int) := by omega
            have hj0 : (0 : Int) ≤ (j : Int) := by omega
            obtain ⟨ji, vi, r1, r2, r3, r4, r5, r6, r7, r8, r9⟩ := step_facts P N C j hPC hjC q8
            obtain ⟨hb4, hb2, hkp⟩ := HQ.out
            have hlen : (setTo l P N j).length = 13 := by rw [setTo_len]; exact hl13
            have hcell : wr.cell? ⟨w.heap.size + 1, P + j, none⟩ = some (.int .i64 ((setTo l P N j).getD (P + j) 0)) := by rw [hb4.cell, List.getElem?_toArray, zs_get (by omega)]
            have hfz : wr.frozen? ⟨w.heap.size + 1, P + j, none⟩ = false := hb4.frozen _
            have HR : Hid (Blk (wr.setCell ⟨w.heap.size + 1, P + j, none⟩ (.int .i64 vi)) (w.heap.size + 1) (zs (setTo l P N (j + 1))).toArray 22 ∧ Blk (wr.setCell ⟨w.heap.size + 1, P + j, none⟩ (.int .i64 vi)) w.heap.size Z0 22 ∧ Keeps [] w (wr.setCell ⟨w.heap.size + 1, P + j, none⟩ (.int .i64 vi))) := by
              refine ⟨?_, hb2.other (by simp) _, hkp.setCell (.inr (by show w.heap.size ≤ w.heap.size + 1; omega)) _⟩
              have := hb4.set (P + j) (.int .i64 vi)
              rw [List.setIfInBounds_toArray, zs_set, r9] at this
              rw [r9]
              exact this
            clear HQ hb4 hb2 hkp hlen r9
            generalize (setTo l P N j).getD (P + j) 0 = y at *
            have hju : IntKind.u64.wrap ((j : Int) + 1) = (j : Int) + 1 := num_u64 (by omega) (by omega)
            go_wp2_with fail
            go_roundg gk
            case measure => omega
            case rel => exact ⟨j + 1, by omega, by go_num, HR.out⟩

end Go.Proofs.YtmhcnkjmnbnldaaDoor

namespace Go.Proofs.YtmhcnkjmnbnldaaDoor
open Go.RowKit

theorem endAt_ge (l : List Int) : ∀ f e, e ≤ endAt l f e
  | 0, e => Nat.le_refl _
  | f + 1, e => by
    unfold endAt
    split
    · have := endAt_ge l f (e + 1); omega
    · omega

theorem endAt_cont (l : List Int) : ∀ f e i, e ≤ i → i < endAt l f e → contP l i
  | 0, e, i, h1, h2 => by unfold endAt at h2; omega
  | f + 1, e, i, h1, h2 => by
    unfold endAt at h2
    split at h2
    · rename_i hc
      by_cases h : i = e
      · subst h; exact hc
      · exact endAt_cont l f (e + 1) i (by omega) h2
    · omega

theorem endAt_stop (l : List Int) : ∀ f e, 13 ≤ e + f → ¬ contP l (endAt l f e)
  | 0, e, h => by
    unfold endAt
    exact fun hc => by have := hc.2.1; omega
  | f + 1, e, h => by
    unfold endAt
    split
    · exact endAt_stop l f (e + 1) (by omega)
    · assumption

theorem endAt_13 (l : List Int) (f e : Nat) (h : e ≤ 13) : endAt l f e ≤ 13 := by
  by_cases h1 : endAt l f e = e
  · omega
  · have h2 := endAt_ge l f e
    have := (endAt_cont l f e (endAt l f e - 1) (by omega) (by omega)).2.1
    omega

/-- The j-th number lies in a run that begins ahead of k. -/
def covP (l : List Int) (k j : Nat) : Prop := ∃ s, s < k ∧ startP l s ∧ s ≤ j ∧ j < s + lenAt l s

theorem lenAt_facts (l : List Int) {s : Nat} (hs : s < 13) : 1 ≤ lenAt l s ∧ s + lenAt l s ≤ 13 ∧ s + lenAt l s = endAt l 13 (s + 1) := by
  have h1 := endAt_ge l 13 (s + 1)
  have h2 := endAt_13 l 13 (s + 1) (by omega)
  unfold lenAt
  omega

theorem cov_num {l : List Int} {s j : Nat} (hs : s < 13) (h1 : s ≤ j) (h2 : j < s + lenAt l s) : l.getD j 0 = l.getD s 0 + ((j - s : Nat) : Int) := by
  obtain ⟨-, -, h3⟩ := lenAt_facts l hs
  rw [h3] at h2
  exact run_num (fun i hi hi2 => endAt_cont l 13 (s + 1) i (by omega) hi2) j h1 h2

theorem cov_all {l : List Int} : ∀ j, j < 13 → isB (l.getD j 0) → covP l (j + 1) j := by
  intro j
  induction j with
  | zero =>
    intro _ hb
    refine ⟨0, by omega, ⟨hb, fun h => by have := h.1; omega⟩, by omega, ?_⟩
    have := (lenAt_facts l (show 0 < 13 by omega)).1
    omega
  | succ j ih =>
    intro hj hb
    by_cases hc : contP l (j + 1)
    · have hb0 := hc.2.2.2.1
      rw [Nat.add_sub_cancel] at hb0
      obtain ⟨s, h1, h2, h3, h4⟩ := ih (by omega) hb0
      obtain ⟨-, -, h5⟩ := lenAt_facts l (show s < 13 by omega)
      refine ⟨s, by omega, h2, by omega, ?_⟩
      rw [h5] at h4 ⊢
      refine Nat.lt_of_not_le fun hle => ?_
      have h6 : endAt l 13 (s + 1) = j + 1 := by omega
      have := endAt_stop l 13 (s + 1) (by omega)
      rw [h6] at this
      exact this hc
    · refine ⟨j + 1, by omega, ⟨hb, hc⟩, by omega, ?_⟩
      have := (lenAt_facts l hj).1
      omega

theorem nums_pre (A C : List Int) : ∀ k, k ≤ A.length → numsTo (A ++ C) k = numsTo A k
  | 0, _ => rfl
  | k + 1, h => by
    unfold numsTo
    rw [nums_pre A C k (by omega), List.getD_eq_getElem?_getD, List.getD_eq_getElem?_getD, List.getElem?_append_left (by omega)]

theorem setTo_get (l : List Int) (p b : Nat) : ∀ c, p + c ≤ l.length → ∀ j, (setTo l p b c).getD j 0 = if p ≤ j ∧ j < p + c then ((b + (j - p) : Nat) : Int) else l.getD j 0
  | 0, _, j => by rw [if_neg (by omega)]; rfl
  | c + 1, h, j => by
    rw [setTo, getD_set_any, setTo_len, setTo_get l p b c (by omega)]
    by_cases e : p + c = j
    · subst e
      rw [if_pos ⟨rfl, by omega⟩, if_pos ⟨by omega, by omega⟩, Nat.add_sub_cancel_left]
    · rw [if_neg (by omega)]
      by_cases e2 : p ≤ j ∧ j < p + c
      · rw [if_pos e2, if_pos ⟨e2.1, by omega⟩]
      · rw [if_neg e2, if_neg (by omega)]

theorem word_parts (k b n : Nat) (hk : k < 256) (hb : b < 256) (hn : n < 256) : (runW k (b : Int) n).toNat / 4294967296 = k ∧ (runW k (b : Int) n).toNat / 256 % 16777216 = b ∧ (runW k (b : Int) n).toNat % 256 = n := by
  have e : (runW k (b : Int) n).toNat = k * 4294967296 + b * 256 + n := by unfold runW; omega
  rw [e]
  omega

/-- What the runs that begin ahead of k tell. -/
theorem nums_runs (B : List Int) : ∀ k, k ≤ 13 → ∃ l, numsTo (runsTo B k) (runsTo B k).length = some l ∧ (∀ j, covP B k j → l.getD j 0 = B.getD j 0) ∧ ∀ j, ¬ covP B k j → l.getD j 0 = 0 := by
  intro k
  induction k with
  | zero =>
    intro _
    refine ⟨List.replicate 13 0, rfl, fun j h => ?_, fun j _ => ?_⟩
    · obtain ⟨s, h1, -⟩ := h
      omega
    · rw [List.getD_eq_getElem?_getD, List.getElem?_replicate]
      split <;> rfl
  | succ k ih =>
    intro hk
    obtain ⟨l, h1, h2, h3⟩ := ih (by omega)
    by_cases hs : startP B k
    · obtain ⟨f1, f2, -⟩ := lenAt_facts B (show k < 13 by omega)
      obtain ⟨b, hb⟩ : ∃ b : Nat, B.getD k 0 = (b : Int) := ⟨(B.getD k 0).toNat, by have := hs.1; unfold isB at this; omega⟩
      have hb2 : b < 256 := by have := hs.1; unfold isB at this; omega
      obtain ⟨p1, p2, p3⟩ := word_parts k b (lenAt B k) (by omega) hb2 (by omega)
      have hl := numsTo_len h1
      have hg : (runsTo B k ++ [runW k (B.getD k 0) (lenAt B k)]).getD (runsTo B k).length 0 = runW k (b : Int) (lenAt B k) := by rw [hb]; simp [List.getD_eq_getElem?_getD]
      refine ⟨setTo l k b (lenAt B k), ?_, fun j hj => ?_, fun j hj => ?_⟩
      · rw [runsTo, if_pos hs, List.length_append, List.length_singleton, numsTo, nums_pre _ _ _ (Nat.le_refl _), h1, hg, p1, p2, p3]
        show (if 13 < k + lenAt B k then none else some _) = _
        rw [if_neg (by omega)]
      · rw [setTo_get _ _ _ _ (by omega)]
        by_cases hc : k ≤ j ∧ j < k + lenAt B k
        · rw [if_pos hc, cov_num (by omega) hc.1 hc.2, hb]
          omega
        · rw [if_neg hc]
          obtain ⟨s, g1, g2, g3, g4⟩ := hj
          refine h2 j ⟨s, ?_, g2, g3, g4⟩
          rcases (show s < k ∨ s = k by omega) with h | h
          · exact h
          · subst h; exact absurd ⟨g3, g4⟩ hc
      · rw [setTo_get _ _ _ _ (by omega), if_neg (fun hc => hj ⟨k, by omega, hs, hc.1, hc.2⟩)]
        exact h3 j fun ⟨s, g1, g2⟩ => hj ⟨s, by omega, g2⟩
    · refine ⟨l, ?_, fun j hj => ?_, fun j hj => ?_⟩
      · rw [runsTo, if_neg hs]; exact h1
      · obtain ⟨s, g1, g2, g3⟩ := hj
        refine h2 j ⟨s, ?_, g2, g3⟩
        rcases (show s < k ∨ s = k by omega) with h | h
        · exact h
        · subst h; exact absurd g2 hs
      · exact h3 j fun ⟨s, g1, g2⟩ => hj ⟨s, by omega, g2⟩

theorem nums_noughts (A : List Int) {l : List Int} (h : numsTo A A.length = some l) : ∀ z, numsTo (A ++ List.replicate z 0) (A.length + z) = some l
  | 0 => by simpa using h
  | z + 1 => by
    have ih := nums_noughts A h z
    have hz : (A ++ List.replicate (z + 1) (0 : Int)).getD (A.length + z) 0 = 0 := by
      rw [List.getD_eq_getElem?_getD, List.getElem?_append_right (by omega), List.getElem?_replicate]
      split <;> rfl
    have e : A ++ List.replicate (z + 1) (0 : Int) = (A ++ List.replicate z 0) ++ [0] := by rw [List.replicate_succ', List.append_assoc]
    show numsTo _ (A.length + z + 1) = _
    rw [numsTo, hz, e, nums_pre _ _ _ (by simp), ih]
    rfl

/-- All runs, and noughts behind. -/
theorem nums_again {B : List Int} (hB : B.length = 13) (hn : ∀ k, k < 13 → 0 ≤ B.getD k 0 ∧ B.getD k 0 < 256) (z : Nat) : numsTo (runsL B ++ List.replicate z 0) ((runsL B).length + z) = some B := by
  obtain ⟨l, h1, h2, h3⟩ := nums_runs B 13 (Nat.le_refl _)
  have hl := numsTo_len h1
  have e : l = B := z_ext (by omega) fun j hj => by
    by_cases hc : covP B 13 j
    · exact h2 j hc
    · rw [h3 j hc]
      by_cases hb : isB (B.getD j 0)
      · obtain ⟨s, g1, g2⟩ := cov_all j (by omega) hb
        exact absurd ⟨s, by omega, g2⟩ hc
      · have := hn j (by omega)
        unfold isB at hb
        omega
  subst e
  exact nums_noughts (runsL l) h1 z

end Go.Proofs.YtmhcnkjmnbnldaaDoor

namespace Go.Proofs.YtmhcnkjmnbnldaaDoor
open Go.RowKit

theorem run_append_any {P : Program} {w : World} (t T ty : TypeId) (i : TypeInfo) (z : Value) (size bytes : Nat) (ht : P.underlying t = some (.slice T)) (hi : P.info? T = some i) (hz : i.zero = some z) (hsz : i.size = size) (hby : i.bytes = bytes) (hzs : z.cells.size = size) (hpos : 0 < size)
    (base n : Nat) (v : Value) (xs : List Value) (hown : w.ownsRow base T size v n xs) (a : Option Addr) (m c : Nat) (ys : List Value) (hl : ys.length = m * size) (hc : m ≠ 0 → ∃ ad, a = some ad ∧ ∀ j u, ys[j]? = some u → w.cell? (ad.add j) = some u) (h1 : ∀ u ∈ ys, u.oneCell' = true)
    (hlen : n + m ≤ maxLen) (hbytes : (n + m) * bytes ≤ 140737488355328) (hbase : base ≤ w.heap.size) :
    ∃ v' w', (Builtin.append_ #[t, t] ty #[v, .slice a m c]).run P w = .ok v' w' ∧ w'.ownsRow base T size v' (n + m) (xs ++ ys) ∧ w.grownBy w' v.ownBlock := by
  cases a with
  | none =>
    have h0 : m = 0 := by
      rcases Nat.eq_zero_or_pos m with h | h
      · exact h
      · obtain ⟨ad, e, -⟩ := hc (by omega); cases e
    subst h0
    have hys : ys = [] := List.eq_nil_of_length_eq_zero (by rw [hl]; simp)
    subst hys
    refine ⟨v, w, ?_, by simpa using hown, ⟨rfl, rfl, rfl, Nat.le_refl _, fun _ _ _ => rfl⟩⟩
    obtain ⟨-, h5⟩ := hown
    rcases h5 with ⟨rfl, rfl⟩ | ⟨g', cap', cur, rfl, hg, hh, q2, q3, q4, q5⟩
    · simp [Builtin.append_, run_underlying ht, sizeOf, typeInfo, hi, Builtin.lenOf, Builtin.firstCells]
    · simp [Builtin.append_, run_underlying ht, sizeOf, typeInfo, hi, Builtin.lenOf, Builtin.firstCells, q2, storeCells]
  | some ad =>
    have hcell : ∀ j u, ys[j]? = some u → w.cell? (ad.add j) = some u := by
      intro j u hu
      have hj : j < ys.length := (List.getElem?_eq_some_iff.1 hu).1
      have hm : m ≠ 0 := by
        intro e
        rw [hl, e] at hj
        simp at hj
      obtain ⟨ad', e, hc'⟩ := hc hm
      cases e
      exact hc' j u hu
    obtain ⟨v', w', hr, ho, hg, -⟩ := run_append_own (P := P) w base t ty T i z size bytes ht hi hz hsz hby hzs hpos v n xs hown ad m c ys hl hcell h1 hlen hbytes hbase
    exact ⟨v', w', hr, ho, hg⟩

theorem wpList_append_run {P : Program} {w : World} {ops : Array Oper} {rest : List Oper} {o : Oper} {a : Act} {Q : Exit → Act → World → Prop} (hgd : o.guard = none) (d x : Operand) (t t' : TypeId)
    (ho : o.op = .call { callee := .builtin .append, args := #[d, x], argTypes := #[t, t'] }) (v u : Value) (hd : a.eval d = v) (hx : a.eval x = u) {v' : Value} {w' : World}
    (hr : (Builtin.append_ #[t, t'] o.type #[v, u]).run P w = .ok v' w') (h : wpList P ops Q rest (a.put o.dst v') w') : wpList P ops Q (o :: rest) a w :=
  wpList_plain hgd fun _ hK => by
    unfold Oper.wp execOp
    simp only [ho, resolve, invoke, builtin, Sem.run_bind, Sem.run_pure, Result.andThen_ok, List.map_toArray, List.map_cons, List.map_nil, hd, hx, hr]
    exact hK _ _ h

/-- append of noughts onto nil: a new row. -/
theorem run_append_nought {P : Program} (w : World) (t tn e : TypeId) (i : TypeInfo) (z : Value) (kq kn : IntKind) (ht : P.underlying t = some (.slice e)) (htn : P.underlying tn = some (.int kn)) (hi : P.info? e = some i) (hz : i.zero = some z) (hsz : i.size = 1) (hzc : z.cells.size = 1)
    (k : Nat) (h0 : 0 < k) (hk : k ≤ 1000) (hby : i.bytes = 8) :
    ∃ c w', (∀ ty, (Builtin.append_ #[t, tn] ty #[.slice none 0 0, .int kq k]).run P w = .ok (.slice (some ⟨w.heap.size, 0, none⟩) k c) w') ∧ k ≤ c ∧ w'.ownsRow w.heap.size e 1 (.slice (some ⟨w.heap.size, 0, none⟩) 0 c) 0 [] ∧ Keeps [] w w' := by
  have hfc : (Builtin.firstCells i.size 0 (.slice none 0 0)).run P w.drew = .ok ([] : List Value).toArray w.drew := by simp [Builtin.firstCells]
  have hnc : Builtin.nextslicecap (0 + k) 0 ≤ 4 * 1000 + 64 := by
    unfold Builtin.nextslicecap
    split <;> omega
  have h := fun ty => Lib.run_append_grow_zeros w t tn ty e i z kq kn ht htn hi hz none 0 0 [] hfc k h0 (by omega) (by omega) (by omega) (by rw [hby]; omega) (by rw [hby]; omega)
  have hge := grownCap_ge w (0 + k) 0 e
  have hle := grownCap_le_maxLen w (0 + k) 0 e (by unfold maxLen; omega)
  rw [Nat.zero_add] at hge hle
  simp only [Nat.zero_add] at h
  refine ⟨_, _, h, hge, ⟨rfl, .inr ⟨w.heap.size, grownCap w k 0 e, _, rfl, Nat.le_refl _, Blk.new w.drew _ _, Nat.zero_le _, hle, ?_, by simp⟩⟩, ((Keeps.refl [] w).drew).alloc _⟩
  simp [size_zeroCells', hzc]
  omega

end Go.Proofs.YtmhcnkjmnbnldaaDoor

namespace Go.Proofs.YtmhcnkjmnbnldaaDoor
open Go.RowKit

set_option maxRecDepth 100000 in
set_option maxHeartbeats 2000000 in
theorem grow_at (k : Nat) (h0 : 0 < k) (hk : k ≤ 1000) (ki : Int) (hki : ki = (k : Int)) (w : World) : Calls Tryd.prog 99 #[.slice none 0 0, .int .i64 ki] w fun e w' =>
    ∃ c, e = .returned (.slice (some ⟨w.heap.size, 0, none⟩) 0 c) ∧ w'.ownsRow w.heap.size 30 1 (.slice (some ⟨w.heap.size, 0, none⟩) 0 c) 0 [] ∧ Keeps [] w w' := by
  obtain ⟨i0, hi, hz0, hz1, hz2⟩ := info_parts Tryd.info_u64
  obtain ⟨c, w', hr, hc, hown, hkk⟩ := run_append_nought (P := Tryd.prog) w 44 3 30 i0 _ .i64 .i64 Tryd.underlying44 Tryd.underlying3 hi hz0 hz1 rfl k h0 hk hz2
  have h1 : ¬ ki < 0 := by omega
  have h2 : 0 < ki := by omega
  have h3 : wrap64 ki = ki := by unfold wrap64; omega
  simp only [← hki] at hr
  have HO := Lib.hid hown
  have HK := Lib.hid hkk
  have hc0 : c ≠ 0 := by omega
  have hc1 : (0 : Int) ≤ (c : Int) := by omega
  clear hown hkk hki hi hz0 hz1 hz2 hc
  go_enter Tryd.func99, Tryd.ntmps99
  go_wp2_with (at_builtin; refine wpList_append_run rfl (.tmp 20) (.tmp 21) 44 3 ?_ (.slice none 0 0) (.int .i64 ki) ?_ ?_ (hr _) ?_; all_goals first | rfl | skip)
  go_ret
  exact ⟨c, rfl, HO.out, HK.out⟩

theorem reads_cells {w : World} {a : Option Addr} {m c g : Nat} {ys : List Value} (h : Reads w (.slice a m c) g ys) (hm : m ≠ 0) : ∃ ad, a = some ad ∧ ∀ j u, ys[j]? = some u → w.cell? (ad.add j) = some u := by
  obtain ⟨a', c', h1, h2, h3, h4⟩ := h
  cases h1
  obtain ⟨-, off, rfl, hc⟩ := h4 (by intro e; rw [e] at hm; exact hm rfl)
  refine ⟨_, rfl, fun j u hu => ?_⟩
  have hj : j < ys.length := (List.getElem?_eq_some_iff.1 hu).1
  rw [add_plain, hc j hj, hu]

def szC (j : Nat) : Nat := if j = 0 then 0 else if j = 1 then 5 else 13
def rowC (L1 L2 : List Int) (j : Nat) : List Int := if j = 0 then [] else if j = 1 then L1 else L1 ++ L2

set_option maxRecDepth 100000 in
set_option maxHeartbeats 4000000 in
theorem concat_at {w : World} {gs g1 g2 T : Nat} {x1 x2 : Value} {L1 L2 : List Int} (hb : Blk w gs #[x1, x2] T) (h1 : Reads w x1 g1 (u64s L1)) (h2 : Reads w x2 g2 (u64s L2)) (hl1 : L1.length = 5) (hl2 : L2.length = 8) :
    Calls Tryd.prog 90 #[.slice (some ⟨gs, 0, none⟩) 2 2] w (MadeWords w (L1 ++ L2)) := by
  obtain ⟨i0, hi, hz0, hz1, hz2⟩ := info_parts Tryd.info_u64
  obtain ⟨a1, c1, rfl, hc1, hm1, H1⟩ := u64s_cell h1
  obtain ⟨a2, c2, rfl, hc2, hm2, H2⟩ := u64s_cell h2
  rw [hl1] at hb hc1 h1
  rw [hl2] at hb hc2 h2
  have HR1 := Lib.hid h1
  have HR2 := Lib.hid h2
  have HB := Lib.hid hb
  clear h1 h2 hb H1 H2
  have hv0 : ∀ wx, Keeps [] w wx → wx.cell? ⟨gs, 0, none⟩ = some (.slice a1 5 c1) := fun wx hk => by rw [(HB.out.keep hk (by simp)).cell]; rfl
  have hv1 : ∀ wx, Keeps [] w wx → wx.cell? ⟨gs, 1, none⟩ = some (.slice a2 8 c2) := fun wx hk => by rw [(HB.out.keep hk (by simp)).cell]; rfl
  have HV0 := Lib.hid hv0
  have HV1 := Lib.hid hv1
  clear hv0 hv1
  go_enter Tryd.func90, Tryd.ntmps90
  go_wp2_with fail
  go_loopg [3, 11] 2 (fun gh s3 s11 wx => ∃ j : Nat, j + gh = 2 ∧ s11 = .int .i64 (j : Int) ∧ s3 = .int .i64 ((szC j : Nat) : Int) ∧ w = wx)
  case atStart => exact ⟨0, rfl, rfl, rfl, rfl⟩
  case round =>
    obtain ⟨j, hj, rfl, rfl, rfl⟩ := hrel
    have e0 := HV0.out w (Keeps.refl _ _)
    have e1 := HV1.out w (Keeps.refl _ _)
    rcases (show gk = 0 ∨ gk = 1 ∨ gk = 2 by omega) with rfl | rfl | rfl
    · obtain rfl : j = 2 := by omega
      rw [show szC 2 = 13 from rfl]
      clear e0 e1
      go_wp2_with fail
      refine (grow_at 13 (by omega) (by omega) 13 rfl w).mono ?_
      rintro e w1 ⟨c, rfl, hown, hk1⟩
      have HO := Lib.hid hown
      have HK := Lib.hid hk1
      clear hown hk1
      go_wp2_with fail
      go_loopg [6, 27] 2 (fun gh s6 s27 wx => ∃ j : Nat, j + gh = 2 ∧ s27 = .int .i64 (j : Int) ∧ Hid (wx.ownsRow w.heap.size 30 1 s6 (szC j) (u64s (rowC L1 L2 j)) ∧ Keeps [] w wx))
      case atStart => exact ⟨0, rfl, rfl, HO.out, HK.out⟩
      case round =>
        clear HO HK
        obtain ⟨j, hj, rfl, HP⟩ := hrel
        obtain ⟨hown, hkp⟩ := HP.out
        have e0 := HV0.out _ hkp
        have e1 := HV1.out _ hkp
        rcases (show gk = 0 ∨ gk = 1 ∨ gk = 2 by omega) with rfl | rfl | rfl
        · obtain rfl : j = 2 := by omega
          have HM : Hid (MadeWords w (L1 ++ L2) (.returned u6) wr) := by
            obtain ⟨g, ho, hg⟩ := Owns.of_row hown
            exact ⟨u6, g, rfl, ho.reads, (hg (by decide)).1, hkp⟩
          clear e0 e1 hown hkp HP
          go_wp2_with fail
          go_ret
          exact HM.out
        · obtain rfl : j = 1 := by omega
          obtain ⟨v', w', hr, ho, hg⟩ := run_append_any (P := Tryd.prog) 44 30 44 i0 _ 1 8 Tryd.underlying44 hi hz0 hz1 hz2 rfl (by omega) w.heap.size 5 _ _ hown a2 8 c2 (u64s L2) (by rw [u64s_len, hl2]) (reads_cells (HR2.out.keep hkp (by simp))) (u64s_one _) (by decide) (by omega) hkp.size
          have HN : Hid (w'.ownsRow w.heap.size 30 1 v' 13 (u64s (rowC L1 L2 2)) ∧ Keeps [] w w') := by
            refine ⟨?_, hkp.grown hg (ownsRow_block hown)⟩
            have e : u64s (rowC L1 L2 2) = u64s (rowC L1 L2 1) ++ u64s L2 := by rw [← u64s_append]; rfl
            rw [e]
            exact ho
          clear hown hkp HP ho hg e0
          go_wp2_with (at_builtin; refine wpList_append_run rfl (.tmp 31) (.tmp 32) 44 44 ?_ u6 (.slice a2 8 c2) ?_ ?_ hr ?_; all_goals first | rfl | skip)
          go_roundg 0
          case measure => omega
          case rel => exact ⟨2, rfl, rfl, HN.out⟩
        · obtain rfl : j = 0 := by omega
          obtain ⟨v', w', hr, ho, hg⟩ := run_append_any (P := Tryd.prog) 44 30 44 i0 _ 1 8 Tryd.underlying44 hi hz0 hz1 hz2 rfl (by omega) w.heap.size 0 _ _ hown a1 5 c1 (u64s L1) (by rw [u64s_len, hl1]) (reads_cells (HR1.out.keep hkp (by simp))) (u64s_one _) (by decide) (by omega) hkp.size
          have HN : Hid (w'.ownsRow w.heap.size 30 1 v' 5 (u64s (rowC L1 L2 1)) ∧ Keeps [] w w') := by
            refine ⟨?_, hkp.grown hg (ownsRow_block hown)⟩
            have e : u64s (rowC L1 L2 1) = u64s (rowC L1 L2 0) ++ u64s L1 := rfl
            rw [e]
            exact ho
          clear hown hkp HP ho hg e1
          go_wp2_with (at_builtin; refine wpList_append_run rfl (.tmp 31) (.tmp 32) 44 44 ?_ u6 (.slice a1 5 c1) ?_ ?_ hr ?_; all_goals first | rfl | skip)
          go_roundg 1
          case measure => omega
          case rel => exact ⟨1, rfl, rfl, HN.out⟩
    · obtain rfl : j = 1 := by omega
      rw [show szC 1 = 5 from rfl]
      clear e0
      go_wp2_with fail
      go_roundg 0
      case measure => omega
      case rel => exact ⟨2, rfl, rfl, rfl, rfl⟩
    · obtain rfl : j = 0 := by omega
      rw [show szC 0 = 0 from rfl]
      clear e1
      go_wp2_with fail
      go_roundg 1
      case measure => omega
      case rel => exact ⟨1, rfl, rfl, rfl, rfl⟩

end Go.Proofs.YtmhcnkjmnbnldaaDoor
