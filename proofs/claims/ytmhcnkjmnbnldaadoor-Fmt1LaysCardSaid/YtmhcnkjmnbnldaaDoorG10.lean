/-
  math/bits' table, out of the row's condition; an array of four words, as an argument. Layer 6: the law Fmt1Reads. Layer 6: two inodes laid one behind the other, plain; what Lay leaves of a sheet that is one's own. A region that draws its order, with one operation F that may come up when what it waits for has, and what is free of it in whatever order; then last operations, one behind the other. Nothing of the program is named here. Layer 6: the law Fmt1Both.
-/
import Derived.Test.YtmhcnkjmnbnldaaDoorG05
import Derived.Test.YtmhcnkjmnbnldaaDoorRows
import Derived.ProofKit
import Derived.LaidMore
import Derived.OpenShut
import Derived.Stop.Joined
import Derived.Laws.IdiomArrays
import Derived.Test.YtmhcnkjmnbnldaaDoorG09
import Derived.Test.YtmhcnkjmnbnldaaDoorG00
import Derived.Test.YtmhcnkjmnbnldaaDoorG02
namespace Go.Proofs.YtmhcnkjmnbnldaaDoor
open Go.ChangeShapes Go.WideShapes Go.ChangeAt Go.WideMaps Go.WideElems Go.RowKit

theorem Tryd.gTab : Tryd.prog.globalNamed "math/bits.deBruijn64tab" = some 0 := by kernel_rfl
theorem Tryd.tTab : (Tryd.prog.globals[0]?).map (·.type) = some 134 := by kernel_rfl
theorem Tryd.cells_u8 : Tryd.prog.cellsOf 5 = 1 := by kernel_rfl
theorem Tryd.cells_u64 : Tryd.prog.cellsOf 30 = 1 := by kernel_rfl
theorem Tryd.cells_w4 : Tryd.prog.cellsOf 31 = 4 := by kernel_rfl

theorem tabList {H : Type} : Rows.laid_math_bits_deBruijn64tab (H := H) = .agg (Lib.deBruijn64tab.map fun n : Nat => .lit (.int .u8 (n : Int))) := rfl

/-- What the condition gives the walks. -/
theorem tab_of_laid {W : World} (h : laidMetH Tryd.prog [("math/bits.deBruijn64tab", Rows.laid_math_bits_deBruijn64tab)] W) : TabAt W := by
  rw [MakeChecks.laidMetH_plain _ _ _ (by kernel_rfl)] at h
  obtain ⟨ps, ⟨g0, t0, cs0, f0, p0, q0, hg0, ht0, hv0, hd0, _, _⟩, _, _⟩ := h
  obtain rfl := Option.some.inj (Tryd.gTab.symm.trans hg0)
  obtain rfl := Option.some.inj (Tryd.tTab.symm.trans ht0)
  obtain ⟨xs, m, rfl, hx, hlen, hn, hel⟩ := DataW.trod_array Tryd.underlying134 hd0
  rw [tabList] at hx
  simp only [Prod.mk.injEq, DataW.agg.injEq] at hx
  intro j hj
  have hj' := hel j hj
  rw [Tryd.cells_u8, Nat.mul_one] at hj'
  cases hxj : xs[j]? with
  | none => rw [List.getElem?_eq_none_iff] at hxj; omega
  | some y =>
    rw [hxj] at hj'
    have hlen' : ((cs0.toList.drop j).take 1).length = 1 := by
      rw [List.length_take, List.length_drop]
      have h64 : Tryd.prog.cellsOf 134 = 64 := by kernel_rfl
      rw [h64] at hlen
      omega
    obtain ⟨c, hc⟩ : ∃ c, (cs0.toList.drop j).take 1 = [c] := by
      match (cs0.toList.drop j).take 1, hlen' with
      | [c], _ => exact ⟨c, rfl⟩
    rw [hc] at hj'
    obtain ⟨k, e1, e2, _⟩ := DataW.trod_int Tryd.underlying5 hj'
    have hk : (xs.map (·.1))[j]? = some (.lit (.int .u8 k)) := by rw [List.getElem?_map, hxj, e2]; rfl
    rw [← hx.1, List.getElem?_map] at hk
    have hjl : j < Lib.deBruijn64tab.length := hj
    rw [List.getElem?_eq_getElem hjl] at hk
    have hk2 : k = ((Lib.deBruijn64tab.getD j 0 : Nat) : Int) := by
      have : ((Lib.deBruijn64tab[j] : Nat) : Int) = k := by simpa using hk
      rw [← this, List.getD_eq_getElem?_getD, List.getElem?_eq_getElem hjl]
      rfl
    have hcell := World.var?_cell hg0 hv0 j
    rw [hcell, ← hk2]
    have h3 : ((cs0.toList.drop j).take 1)[0]? = some c := by rw [hc]; rfl
    rw [List.getElem?_take, if_pos (by omega), List.getElem?_drop, Nat.add_zero, Array.getElem?_toList] at h3
    rw [h3]
    simp only [List.cons.injEq, and_true] at e1
    rw [e1]

set_option maxRecDepth 100000 in
/-- The start meets the condition. -/
theorem door_met (os : Os) (args : Array Value) : laidMetH Tryd.prog [("math/bits.deBruijn64tab", Rows.laid_math_bits_deBruijn64tab)] ((World.doorLaid Tryd.prog 400 os).forCall (fun _ _ => 0) ⟨#[], args, []⟩).memory :=
  laidMetH_of_parts3 (fuel := 8) (laidMet_of_run' 8 (by kernel_rfl) (by kernel_rfl)) (by kernel_rfl) (by kernel_rfl)

set_option maxRecDepth 100000 in
/-- An array of four words, as it was read. -/
theorem open_w4 {H : Type} {enc : TypeId × Value → H} {W : World} {base b0 : Nat} {spare : Nat → Bool} {held : Bool} {v : Value} {d : DataW H} {p : List MemPlace} (hval : Value.okWide Tryd.prog W .any b0 31 v)
    (h : DataW.Trod enc Tryd.prog W base spare held 31 v d p) : ∃ ws : List Nat, v = .agg (w4 ws) ∧ ∀ i, ws.getD i 0 < 18446744073709551616 := by
  obtain ⟨cs, rfl, hsz, _⟩ : ∃ cs, v = .agg cs ∧ cs.size = Tryd.prog.cellsOf 31 ∧ Row.okWide Tryd.prog W .any b0 31 cs := by
    simpa [Value.okWide, Tryd.underlying31] using hval
  rw [Tryd.cells_w4] at hsz
  obtain ⟨l⟩ := cs
  obtain ⟨c0, c1, c2, c3, rfl⟩ : ∃ c0 c1 c2 c3, l = [c0, c1, c2, c3] := by
    match l, hsz with
    | [a, b, c, d], _ => exact ⟨a, b, c, d, rfl⟩
  obtain ⟨fuel, hf⟩ := h
  obtain ⟨y0, y1, y2, y3, m, hx, hy0, hy1, hy2, hy3⟩ := trod_array4 Tryd.underlying31 Tryd.cells_u64 hf
  obtain ⟨x0, e0, -, w0⟩ := DataW.trod_int Tryd.underlying30 hy0
  obtain ⟨x1, e1, -, w1⟩ := DataW.trod_int Tryd.underlying30 hy1
  obtain ⟨x2, e2, -, w2⟩ := DataW.trod_int Tryd.underlying30 hy2
  obtain ⟨x3, e3, -, w3⟩ := DataW.trod_int Tryd.underlying30 hy3
  simp only [List.cons.injEq, and_true] at e0 e1 e2 e3
  subst e0 e1 e2 e3
  have b0 := bounds_u64 w0
  have b1 := bounds_u64 w1
  have b2 := bounds_u64 w2
  have b3 := bounds_u64 w3
  obtain ⟨n0, rfl⟩ := Int.eq_ofNat_of_zero_le b0.1
  obtain ⟨n1, rfl⟩ := Int.eq_ofNat_of_zero_le b1.1
  obtain ⟨n2, rfl⟩ := Int.eq_ofNat_of_zero_le b2.1
  obtain ⟨n3, rfl⟩ := Int.eq_ofNat_of_zero_le b3.1
  refine ⟨[n0, n1, n2, n3], rfl, fun i => ?_⟩
  rcases (show i = 0 ∨ i = 1 ∨ i = 2 ∨ i = 3 ∨ 4 ≤ i by omega) with rfl | rfl | rfl | rfl | hi
  · show n0 < _; omega
  · show n1 < _; omega
  · show n2 < _; omega
  · show n3 < _; omega
  · rw [List.getD_eq_getElem?_getD, List.getElem?_eq_none (by simpa using hi)]
    simp

end Go.Proofs.YtmhcnkjmnbnldaaDoor

namespace Go.Proofs.YtmhcnkjmnbnldaaDoor
open Go.RowKit

theorem build_w4 (w : World) : (Instr.build 31 #[]).run Tryd.prog w = .ok (.agg (w4 [])) w := by kernel_rfl

theorem nil_64 : ∀ i, ([] : List Nat).getD i 0 < 18446744073709551616 := fun i => by simp

/-- Where a pair is put. -/
theorem bend_at (x : Int) : ∃ z : Nat, z < 300 ∧ (IntKind.i64.wrap (x.tmod 300) = x.tmod 300 ∧ IntKind.i64.wrap (x.tmod 300 + 300) = x.tmod 300 + 300) ∧ (x.tmod 300 + 300).tmod 300 = (z : Int) ∧ IntKind.i64.wrap (z : Int) = (z : Int) ∧ 848 + (z : Int) = ((848 + z : Nat) : Int) ∧ IntKind.i64.wrap ((848 + z : Nat) : Int) = ((848 + z : Nat) : Int) := by
  have h1 := Int.lt_tmod_of_pos x (show (0 : Int) < 300 by decide)
  have h2 := Int.tmod_lt_of_pos x (show (0 : Int) < 300 by decide)
  have h3 := Int.tmod_lt_of_pos (x.tmod 300 + 300) (show (0 : Int) < 300 by decide)
  have h4 := Int.tmod_nonneg 300 (show 0 ≤ x.tmod 300 + 300 by omega)
  refine ⟨((x.tmod 300 + 300).tmod 300).toNat, by omega, ⟨IntWalk.i64_in _ (by omega), IntWalk.i64_in _ (by omega)⟩, (Int.toNat_of_nonneg h4).symm, IntWalk.i64_in _ (by omega), by omega, IntWalk.i64_in _ (by omega)⟩

theorem names_small {n : Ino} (h : RightP n) : ∀ k, k < n.E.length → (enm n.E k).size ≤ 9223372036854775807 := fun k hk => by
  have h1 := (((blocks_le h).2.2 (by omega)).2.2.2.2 k hk).1
  have h2 := (goodN_len h1).2
  rw [bl_len] at h2
  omega

theorem blk_facts (o : Nat) (ho : o < 256) : ∃ q1 : Nat, q1 = 1080 + 8 * o ∧ wrap64 (8 * (o : Int)) = 8 * (o : Int) ∧ 1080 + 8 * (o : Int) = (q1 : Int) ∧ wrap64 (q1 : Int) = (q1 : Int) ∧ q1 + 8 ≤ 3128 :=
  ⟨1080 + 8 * o, rfl, by unfold wrap64; omega, by omega, w64_small _ (by omega), by omega⟩

theorem q_facts (q1 j : Nat) (h : q1 + 8 ≤ 3128) (hj : j < 8) : ∃ q2 : Nat, q2 = q1 + j ∧ (q1 : Int) + (j : Int) = (q2 : Int) ∧ wrap64 (q2 : Int) = (q2 : Int) ∧ q2 < 3128 ∧ (q2 : Int) < 3128 ∧ (0 : Int) ≤ (q2 : Int) :=
  ⟨q1 + j, rfl, by omega, w64_small _ (by omega), by omega, by omega, by omega⟩

theorem not_row {q o j : Nat} (hq : q = 1080 + 8 * o + j) : ¬ (848 ≤ q ∧ q < 848 + 8) := by omega

/-- A sheet, of which words may be otherwise. -/
def ShMid (w : World) (b : Nat) (X : List Int) (q : Nat) (wx : World) : Prop :=
  ∃ gp qs, ShAt wx b gp X qs ∧ gp < wx.heap.size ∧ w.heap.size ≤ gp ∧ In64 (putAll X qs) ∧ qs.length ≤ 200 + q ∧ Keeps [] w wx

set_option maxRecDepth 100000 in
set_option maxHeartbeats 8000000 in
theorem f1Reads_at (n : Ino) (v : Value) (g : Nat) (hB : n.B.length = 13) (vb : Value) (gb : Nat) (ps : List (Int × Int)) (w : World) (hE : EReads w v g n.E) (hP : PReads w vb gb ps) (hok : okP ps) (hT : TabAt w) :
    Calls Tryd.prog 5 #[.agg (inoC n v), vb] w fun e w' => e = .returned (.bool true) ∧ Keeps [] w w' := by
  obtain ⟨ab, cb, rfl, hcb, hmb⟩ := hP.val
  have HB := Lib.hid hB
  have HPO := Lib.hid hok
  have HLI0 : Hid (∀ wx, Blk wx w.heap.size (inoC n v) 25 → (loadVar 25 ⟨w.heap.size, 0, none⟩).run Tryd.prog wx = .ok (.agg (inoC n v)) wx) := fun wx hb => load_ino hb hB
  have HAW := Lib.hid (fun wx => f1Awake_at wx)
  have HFEW : Hid (∀ wx, Keeps [] w wx → Calls Tryd.prog 9 #[.agg (inoC n v)] wx (FewPost wx n)) := fun wx hk => refFew_at n v g hB wx (hE.keep hk (by simp))
  have HSH := Lib.hid (fun wx => sheet6_at [] wx)
  have HLAY : Hid ((∀ k, k < n.E.length → (enm n.E k).size ≤ 9223372036854775807) → ∀ wx b, Keeps [] w wx → w.heap.size ≤ b → ShAt wx b b (laidX [] 4 1080) [] → Calls Tryd.prog 11 #[.pointer (some ⟨b, 0, none⟩), .int .i64 3, .agg (inoC n v)] wx (LayPost wx b b (laidX [] 4 1080) [] 3 n)) := fun h wx b hk hb hs =>
    lay_any hs (laidX_64 [] nil_64) (hT.keep hk) hs.raw.lt (by simp) 3 n v g hB (hE.keep hk (by simp)) h (fun h0 => by
      have := hE.apart (l := [b]) (fun x hx => by rw [List.mem_singleton] at hx; omega) h0
      rw [List.mem_singleton] at this
      exact ⟨this, this⟩)
  have HPR : Hid (∀ wx, Keeps [] w wx → PReads wx (.slice ab ps.length cb) gb ps) := fun wx hk => hP.keep hk (by simp)
  obtain ⟨Z, hZ⟩ : ∃ Z, inoC n v = Z := ⟨_, rfl⟩
  rw [hZ] at HLI0 HFEW HLAY ⊢
  have hbi := Blk.new w Z 25
  have HK0 : Hid (Keeps [] w (w.alloc (.cells Z 25))) := (Keeps.refl [] w).alloc _
  have HLI : Hid (∀ wx, Keeps [] (w.alloc (.cells Z 25)) wx → (loadVar 25 ⟨w.heap.size, 0, none⟩).run Tryd.prog wx = .ok (.agg Z) wx) := fun wx hk => HLI0.out wx (hbi.keep hk (by simp))
  have HZ0 : Hid ((w.alloc (.cells Z 25)).heap.size = w.heap.size + 1) := by show _ = _; simp
  have hb4 := build_w4
  unfold maxLen at hmb
  clear hbi hB hE hT hok hP HLI0 hZ
  generalize hmg : ps.length = mp at *
  have HMP := Lib.hid hmg
  clear hmg
  go_enter Tryd.func5, Tryd.ntmps5
  go_wp2_with fail
  refine (HAW.out _).mono ?_; rintro e w1 ⟨rfl, hk1⟩
  have HK1 := Lib.hid hk1
  have HL1 := Lib.hid (HLI.out w1 hk1)
  clear hk1
  go_wp2_with ((with_reducible show wpList _ _ _ (⟨_, .load 25 (.tmp 2), _, _, _, _⟩ :: _) _ _); refine wpList_load_want (by first | rfl | simp [Region.wanted, yielded]) 25 (.tmp 2) rfl _ rfl _ HL1.out ?_)
  refine (HFEW.out w1 (HK0.out.trans' HK1.out)).mono ?_; rintro e w2 ⟨⟨fb, rfl, hfb⟩, hk2⟩
  have HK2 := Lib.hid (HK1.out.trans' hk2)
  have HFB := Lib.hid hfb
  clear hk2 hfb HK1 HL1 HFEW
  have HAW2 := Lib.hid (HAW.out w2)
  cases fb
  · clear HLAY HSH HPR
    go_wp2_with fail
    refine HAW2.out.mono ?_; rintro e w3 ⟨rfl, hk3⟩
    have HK3 := Lib.hid (HK0.out.trans' (HK2.out.trans' hk3))
    clear hk3
    go_wp2_with fail
    go_ret
    exact ⟨rfl, HK3.out⟩
  · by_cases h6 : 6 < mp
    · have h6i : (6 : Int) < (mp : Int) := by omega
      clear HLAY HSH HPR
      go_wp2_with fail
      refine HAW2.out.mono ?_; rintro e w3 ⟨rfl, hk3⟩
      have HK3 := Lib.hid (HK0.out.trans' (HK2.out.trans' hk3))
      clear hk3
      go_wp2_with fail
      go_ret
      exact ⟨rfl, HK3.out⟩
    · have h6i : ¬ (6 : Int) < (mp : Int) := by omega
      have hfb := HFB.out rfl
      have HNS : Hid (∀ k, k < n.E.length → (enm n.E k).size ≤ 9223372036854775807) := fun k hk => by have := hfb.2 k hk; omega
      have HLAY := Lib.hid (HLAY.out HNS.out)
      clear hfb HFB HNS HAW2 HAW
      go_wp2_with fail
      refine (HSH.out w2).mono ?_; rintro e w3 ⟨b, rfl, hb3, hs3, hk3⟩
      have HK3 := Lib.hid (HK2.out.trans' hk3)
      have HL3 := Lib.hid (HLI.out w3 HK3.out)
      have hbw : (w.alloc (.cells Z 25)).heap.size ≤ b := Nat.le_trans HK2.out.size hb3
      have hbw2 : w.heap.size ≤ b := by rw [HZ0.out] at hbw; omega
      have HLY := Lib.hid (HLAY.out w3 b (HK0.out.trans' HK3.out) hbw2 hs3)
      have hb3l := hs3.raw.lt
      clear hk3 hs3 hb3 HLAY HSH HK2 hb4
      go_wp2_with ((with_reducible show wpList _ _ _ (⟨_, .load 25 (.tmp 2), _, _, _, _⟩ :: _) _ _); refine wpList_load_want (by first | rfl | simp [Region.wanted, yielded]) 25 (.tmp 2) rfl _ rfl _ HL3.out ?_)
      refine HLY.out.mono ?_; rintro e w4 ⟨r, qs, gp, rfl, hgp, hs4, hk4, hql, hr⟩
      have hz4 := hk4.size
      have HSM : Hid (ShMid (w.alloc (.cells Z 25)) b (laidX [] 4 1080) 0 w4) := by
        refine ⟨gp, qs, by rw [List.nil_append] at hs4; exact hs4, by omega, by omega, ?_, by omega, HK3.out.trans hk4 (by intro x hx; simp only [List.mem_cons, List.not_mem_nil, or_false] at hx; omega)⟩
        rcases hr with ⟨_, _, rfl⟩ | ⟨_, _, _, rfl⟩ | ⟨_, ho, hen, rfl⟩
        · exact laidX_64 [] nil_64
        · exact laidX_64 [] nil_64
        · exact (laid_all (laidX_64 [] nil_64) (laidX_len _ _ _) HB.out ho hen).2.1
      have HXL := Lib.hid (laidX_len [] 4 1080)
      have HBW : Hid ((w.alloc (.cells Z 25)).heap.size ≤ b) := hbw
      generalize laidX [] 4 1080 = X at *
      clear hs4 hk4 hgp hr HLY HL3 HK3 hbw hbw2 hql hz4 hb3l HB
      go_wp2_with fail
      go_loopg [6] mp (fun gh s6 wx => ∃ k : Nat, k + gh = mp ∧ s6 = .int .i64 (k : Int) ∧ Hid (ShMid (w.alloc (.cells Z 25)) b X k wx))
      case atStart => exact ⟨0, by omega, rfl, HSM.out⟩
      case round =>
        clear HSM
        obtain ⟨k, hk, rfl, HM⟩ := hrel
        cases gk with
        | succ gg =>
          have hkm : k < mp := by omega
          have hki : (k : Int) < (mp : Int) := by omega
          have hk0 : (0 : Int) ≤ (k : Int) := by omega
          obtain ⟨gp2, qs2, hs, hgl, hgw, h64, hl, hkk⟩ := HM.out
          obtain ⟨hgb, offb, rfl, d1, d2⟩ := (HPR.out wr (HK0.out.trans' hkk)).get (j := k) (by rw [HMP.out]; exact hkm)
          have HC : Hid (∀ wx, Keeps [] wr wx → wx.cell? ⟨gb, offb + k * 2, none⟩ = some (.int .i64 (patN ps k)) ∧ wx.cell? ⟨gb, offb + k * 2 + 1, none⟩ = some (.int .u64 (pwdN ps k))) := fun wx hk' =>
            ⟨(World.cell?_of_block (hk'.block gb hgb (by simp))).trans d1, (World.cell?_of_block (hk'.block gb hgb (by simp))).trans d2⟩
          obtain ⟨z, hz, ⟨b1, b2⟩, b3, b4, b5, b6⟩ := bend_at (patN ps k)
          have hpw := (okP_get HPO.out (k := k) (by rw [HMP.out]; exact hkm)).2
          have HPUT : Hid (∀ wx, Keeps [] wr wx → Calls Tryd.prog 23 #[.pointer (some ⟨b, 0, none⟩), .int .i64 ((848 + z : Nat) : Int), .int .u64 (pwdN ps k)] wx fun e w' => e = .returned (.tuple #[]) ∧ Hid (ShMid (w.alloc (.cells Z 25)) b X (k + 1) w')) := fun wx hk' => by
            have h1 := txPut_at (hs.keep hk' (by simp) (by simp)) (by omega) ((848 + z : Nat) : Int) (pwdN ps k)
            refine h1.mono ?_
            rintro e w' ⟨he, gp3, hg3, hs3, hk3⟩
            have hz1 := hk'.size
            have hz2 := hk3.size
            have hbw := HBW.out
            have hz0 := hkk.size
            rw [putN, if_pos (by rw [inB_iff]; omega)] at hs3
            refine ⟨he, gp3, _, hs3, by omega, by omega, ?_, by rw [List.length_append, List.length_singleton]; omega, (hkk.trans' hk').trans hk3 (by intro x hx; simp only [List.mem_cons, List.not_mem_nil, or_false] at hx; omega)⟩
            rw [putAll_append]
            exact h64.put (by intro p hp; rw [List.mem_singleton] at hp; subst hp; exact ⟨hpw.1, by show pwdN ps k < _; omega⟩)
          clear HM hs h64 d1 d2 HPO hpw hkk
          generalize patN ps k = x at *
          generalize pwdN ps k = y at *
          generalize 848 + z = q at *
          go_wp2_with fail
          refine wp_region_last (l := [_, _, _, _, _, _, _, _, _, _, _, _, _, _, _]) (o := _) (S := fun wx => Keeps [] wr wx) (by kernel_rfl) rfl (by kernel_rfl) (fun d _ _ _ _ h => by cases d <;> exact h) ((Keeps.refl _ _).drew) (by kernel_rfl) (by kernel_rfl) ?_
          repeat (first
            | ((with_reducible show EachList _ _ _ _ (⟨some 52, _, _, _, _, _⟩ :: _) _); refine EachList.cons (.int .i64 x) (EachIf.val rfl ?h) ?_; (case h => (intro wx hx; have hcq := (HC.out wx hx).1; clear hx; go_simp; done)); simp only [Act.put, List.setIfInBounds_toArray, List.set_cons_zero, List.set_cons_succ])
            | ((with_reducible show EachList _ _ _ _ (⟨some 61, _, _, _, _, _⟩ :: _) _); refine EachList.cons (.int .u64 y) (EachIf.val rfl ?h) ?_; (case h => (intro wx hx; have hcq := (HC.out wx hx).2; clear hx; go_simp; done)); simp only [Act.put, List.setIfInBounds_toArray, List.set_cons_zero, List.set_cons_succ])
            | ((with_reducible show EachList _ _ _ _ (⟨some 53, _, _, _, _, _⟩ :: _) _); refine EachList.cons (.int .i64 (x.tmod 300)) (EachIf.val rfl ?h) ?_; (case h => (intro wx hx; clear hx; first | (go_simp; done) | (go_simp; simp [b1]; done))); simp only [Act.put, List.setIfInBounds_toArray, List.set_cons_zero, List.set_cons_succ])
            | ((with_reducible show EachList _ _ _ _ (⟨some 54, _, _, _, _, _⟩ :: _) _); refine EachList.cons (.int .i64 (x.tmod 300 + 300)) (EachIf.val rfl ?h) ?_; (case h => (intro wx hx; clear hx; first | (go_simp; done) | (go_simp; simp [b2]; done))); simp only [Act.put, List.setIfInBounds_toArray, List.set_cons_zero, List.set_cons_succ])
            | ((with_reducible show EachList _ _ _ _ (⟨some 55, _, _, _, _, _⟩ :: _) _); refine EachList.cons (.int .i64 (z : Int)) (EachIf.val rfl ?h) ?_; (case h => (intro wx hx; clear hx; first | (go_simp; done) | (go_simp; simp [b3, b4]; done))); simp only [Act.put, List.setIfInBounds_toArray, List.set_cons_zero, List.set_cons_succ])
            | ((with_reducible show EachList _ _ _ _ (⟨some 56, _, _, _, _, _⟩ :: _) _); refine EachList.cons (.int .i64 (q : Int)) (EachIf.val rfl ?h) ?_; (case h => (intro wx hx; clear hx; first | (go_simp; done) | (go_simp; simp [b5, b6]; done))); simp only [Act.put, List.setIfInBounds_toArray, List.set_cons_zero, List.set_cons_succ])
            | (refine EachList.cons ?_ (EachIf.val rfl ?h) ?_; (case h => (intro wx hx; clear hx; go_simp; rfl)); simp only [Act.put, List.setIfInBounds_toArray, List.set_cons_zero, List.set_cons_succ]))
          refine EachList.done fun wx hx => ?_
          have HKX := Lib.hid hx
          clear hx
          go_wp2_with fail
          refine (HPUT.out wx HKX.out).mono ?_; rintro e w' ⟨rfl, HM2⟩
          go_wp2_with fail
          go_roundg gg
          case measure => omega
          case rel => exact ⟨k + 1, by omega, by go_num, HM2.out⟩
        | zero =>
          obtain rfl : k = mp := by omega
          obtain ⟨gp2, qs2, hs, hgl, hgw, h64, hl, hkk⟩ := HM.out
          have HKR := Lib.hid hkk
          have HRD := Lib.hid (read_at hs h64 3)
          have HWDS : Hid (∀ wx, Keeps [] wr wx → Calls Tryd.prog 20 #[.pointer (some ⟨b, 0, none⟩)] wx (MadeWords wx (putAll X qs2))) := fun wx hk => txWords_at (hs.keep hk (by simp) (by simp))
          have HYL : Hid ((putAll X qs2).length = 3128) := by show _ = _; rw [putAll_len, HXL.out]
          have H64 := Lib.hid h64
          clear HM hs h64 hgl hgw hl hkk hk HPR HPO HXL HBW HLI h6 h6i HMP
          generalize putAll X qs2 = Y at *
          have hzi := zero_ino
          go_wp2_with fail
          refine HRD.out.mono ?_
          rintro e w5 ⟨m, vm, gm, ow, va, ga, ok, rfl, hmB, hme, hgm, hra, hga, hokt, hokf, hk5⟩
          have HK5 := Lib.hid (HKR.out.trans' hk5)
          have HK5r := Lib.hid hk5
          obtain ⟨w6, hst, hb6, hk6⟩ := store_ino (n := m) (v := vm) (Blk.new w5 (inoC inoZ (.slice none 0 0)) 25) rfl hmB (reads_one hme)
          have HST := Lib.hid hst
          have hk56 : Keeps [] w5 w6 := ((Keeps.refl [] w5).alloc _).trans hk6 (by intro x hx; rw [List.mem_singleton] at hx; omega)
          have HK6 := Lib.hid (HK5.out.trans' hk56)
          have HK6r := Lib.hid (HK5r.out.trans' hk56)
          have HRA := Lib.hid (hra.keep hk56 (by simp))
          have HME := Lib.hid (hme.keep hk56 (by simp))
          have HB6 := Lib.hid hb6
          have HMB := Lib.hid hmB
          have HF0 : Hid (∀ wx, Keeps [] w6 wx → wx.cell? ⟨w5.heap.size, 0, none⟩ = some (.int .i64 m.F)) := fun wx hk => by rw [(hb6.keep hk (by simp)).cell]; exact (inoAt vm hmB).f0
          have HLM : Hid (∀ wx, Keeps [] w6 wx → (loadVar 25 ⟨w5.heap.size, 0, none⟩).run Tryd.prog wx = .ok (.agg (inoC m vm)) wx) := fun wx hk => load_ino (hb6.keep hk (by simp)) hmB
          have HRAR := Lib.hid (hra.keep hk56 (by simp))
          obtain ⟨aa, ca, rfl, hca, hma, HCA⟩ := ints_cell HRA.out
          have HKF : Hid (∀ wx, Keeps [] w6 wx → Keeps [] w wx) := fun wx hk => HK0.out.trans' (HK6.out.trans' hk)
          clear hst hb6 hk6 hk56 hra hme hk5 HRD hmB hgm hga HK5 HK5r
          unfold maxLen at hma
          generalize inoC inoZ (.slice none 0 0) = ZZ at *
          cases ok
          · obtain ⟨-, hm, how⟩ := hokf rfl
            have c0 := HF0.out w6 (Keeps.refl _ _)
            have hmF : m.F = 0 := by rw [hm]; rfl
            have hol : ow.length = 0 := by rw [how]; rfl
            rw [hmF] at c0
            rw [hol] at hca HCA HRAR ⊢
            clear hokt hokf hm how HLM HCA HRA HME HWDS
            generalize inoC m vm = ZM at *
            go_wp2_with ((with_reducible show wpList _ _ _ (⟨_, .store 25 (.tmp 7) (.tmp 66), _, _, _, _⟩ :: _) _ _); refine wpList_store_any rfl 25 (.tmp 7) (.tmp 66) rfl _ rfl _ rfl _ HST.out ?_)
            go_ret
            exact ⟨rfl, HKF.out w6 (Keeps.refl _ _)⟩
          · obtain ⟨-, hro, hm, how⟩ := hokt rfl
            have hx : inoAtX Y 3 = rowL Y 848 := rfl
            rw [hx] at hro hm how
            obtain ⟨hR, hF, -, hlen, hmem, hnd, hla⟩ := laid_read H64.out hro
            rw [← hm] at hR hF hlen hla
            rw [← how] at hlen hmem hnd hla
            have hbl := blocks_le hR
            have hcn := need_le m
            obtain ⟨hnl, hnl1⟩ := needL_need HMB.out (fun k => (right_len hR HMB.out k).1)
            have HNEED : Hid (∀ wx, Calls Tryd.prog 19 #[.agg (inoC m vm)] wx fun e w' => e = .returned (.tuple #[.int .i64 ((blocksN m.E.length : Nat) : Int), .int .i64 ((needL m : Nat) : Int)]) ∧ Keeps [] wx w') := fun wx => by
              obtain ⟨a, cap, rfl, -⟩ := HME.out
              exact refNeed_at m a cap HMB.out (by omega) wx
            have HRR : Hid (∀ wx, Keeps [] w6 wx → Calls Tryd.prog 15 #[.agg (inoC m vm)] wx fun e w' => e = .returned (.bool true) ∧ Keeps [] wx w') := fun wx hk => by
              have := refRight_at m vm gm HMB.out wx (HME.out.keep hk (by simp)) (names_small hR)
              rwa [decide_eq_true hR] at this
            have HWORD : Hid (∀ k, k < 3128 → ∀ wx, Keeps [] w6 wx → Calls Tryd.prog 21 #[.agg (inoC m vm), .int .i64 848, .slice aa ow.length ca, .int .i64 ((k : Nat) : Int)] wx (WantPost wx m ow 848 k)) := fun k hk wx hkk =>
              refWordI_at m vm gm ow (.slice aa ow.length ca) ga 848 k HMB.out hR hlen hmem hnd (by omega) hk wx (HME.out.keep hkk (by simp)) (HRAR.out.keep hkk (by simp))
            have HLA := Lib.hid hla
            have HND := Lib.hid hnd
            have HOI : Hid (∀ k, k < ow.length → ow.getD k 0 ≠ 0 ∧ ow.getD k 0 < 256) := fun k hk => hmem _ (getD_mem hk)
            have c0 := HF0.out
            rw [hF] at c0
            have HC0 := Lib.hid c0
            have hdl : ((blocksN m.E.length : Nat) : Int) + ((needL m : Nat) : Int) = ((ow.length : Nat) : Int) := by rw [hlen]; omega
            have hwl : wrap64 ((ow.length : Nat) : Int) = ((ow.length : Nat) : Int) := w64_small _ (by omega)
            have HL6 := Lib.hid (HLM.out w6 (Keeps.refl _ _))
            have hol7 : ow.length ≤ 7 := by omega
            clear hokt hokf hro hm how hx hR hF hlen hmem hnd hla hbl hcn hnl hnl1 c0 HF0 HME HRA HRAR HMB HB6 H64
            generalize inoC m vm = ZM at *
            generalize blocksN m.E.length = d at *
            generalize needL m = ld at *
            generalize hmo : ow.length = mo at *
            have HMO := Lib.hid hmo
            clear hmo
            go_wp2_with (first | ((with_reducible show wpList _ _ _ (⟨_, .store 25 (.tmp 7) (.tmp 66), _, _, _, _⟩ :: _) _ _); refine wpList_store_any rfl 25 (.tmp 7) (.tmp 66) rfl _ rfl _ rfl _ HST.out ?_) | ((with_reducible show wpList _ _ _ (⟨_, .load 25 (.tmp 7), _, _, _, _⟩ :: _) _ _); refine wpList_load_want (by first | rfl | simp [Region.wanted, yielded]) 25 (.tmp 7) rfl _ rfl _ HL6.out ?_))
            refine (HNEED.out w6).mono ?_; rintro e w7 ⟨rfl, hk7⟩
            have HK7 := Lib.hid hk7
            have HL7 := Lib.hid (HLM.out w7 hk7)
            clear hk7 HL6 HNEED HST hzi
            go_wp2_with ((with_reducible show wpList _ _ _ (⟨_, .load 25 (.tmp 7), _, _, _, _⟩ :: _) _ _); refine wpList_load_want (by first | rfl | simp [Region.wanted, yielded]) 25 (.tmp 7) rfl _ rfl _ HL7.out ?_)
            refine (HRR.out w7 HK7.out).mono ?_; rintro e w8 ⟨rfl, hk8⟩
            have HK8 := Lib.hid (HK7.out.trans' hk8)
            have c0 := HC0.out w8 HK8.out
            clear hk8 HL7 HK7 HRR HC0
            go_wp2_with fail
            clear c0 hdl hwl
            go_loopg [12] mo (fun gh s12 wx => ∃ k : Nat, k + gh = mo ∧ s12 = .int .i64 (k : Int) ∧ Hid (Keeps [] w6 wx))
            case atStart => exact ⟨0, by omega, rfl, HK8.out⟩
            case round =>
              obtain ⟨k, hk, rfl, HP⟩ := hrel
              cases gk with
              | succ gg =>
                have hkm : k < mo := by omega
                have hki : (k : Int) < (mo : Int) := by omega
                have hk0 : (0 : Int) ≤ (k : Int) := by omega
                obtain ⟨hg1, off1, rfl, d1⟩ := HCA.out k (by first | exact hkm | (rw [HMO.out]; exact hkm))
                have c1 : wr.cell? ⟨ga, off1 + k, none⟩ = some (.int .i64 ((ow.getD k 0 : Nat) : Int)) := (World.cell?_of_block (HP.out.block ga hg1 (by simp))).trans d1
                have ho := HOI.out k (by first | exact hkm | (rw [HMO.out]; exact hkm))
                have HCJ : Hid (∀ j wx, j < mo → Keeps [] w6 wx → wx.cell? ⟨ga, off1 + j, none⟩ = some (.int .i64 ((ow.getD j 0 : Nat) : Int))) := fun j wx hj hk' => by
                  obtain ⟨hg2, off2, he, d2⟩ := HCA.out j (by first | exact hj | (rw [HMO.out]; exact hj))
                  cases he
                  exact (World.cell?_of_block (hk'.block ga hg2 (by simp))).trans d2
                have HNE : Hid (∀ j, j < k → ow.getD j 0 ≠ ow.getD k 0) := fun j hj he => by
                  have := getD_inj HND.out (j := j) (k := k) (by rw [HMO.out]; omega) (by rw [HMO.out]; omega) he
                  omega
                clear d1
                generalize hok : ow.getD k 0 = o at *
                have HOK := Lib.hid hok
                clear hok
                have ho1 : ¬ (o : Int) < 1 := by omega
                have ho2 : ¬ (255 : Int) < (o : Int) := by omega
                clear ho
                go_wp2_with fail
                clear c1 ho1 ho2
                go_loopg [13] k (fun gh s13 wx => ∃ j : Nat, j + gh = k ∧ s13 = .int .i64 (j : Int) ∧ Hid (Keeps [] w6 wx))
                case atStart => exact ⟨0, by omega, rfl, HP.out⟩
                case round =>
                  clear HP
                  obtain ⟨j, hj, rfl, HP⟩ := hrel
                  cases gk with
                  | zero =>
                    obtain rfl : j = k := by omega
                    clear hj
                    go_wp2_with fail
                    go_roundg gg
                    case measure => omega
                    case rel => exact ⟨j + 1, by omega, by go_num, HP.out⟩
                  | succ g2 =>
                    have hjk : j < k := by omega
                    have hji : (j : Int) < (k : Int) := by omega
                    have hj0 : (0 : Int) ≤ (j : Int) := by omega
                    have hjm : (j : Int) < (mo : Int) := by omega
                    have c1 := HCJ.out k wr hkm HP.out
                    have c2 := HCJ.out j wr (by omega) HP.out
                    have hne := HNE.out j hjk
                    rw [HOK.out] at c1
                    generalize ow.getD j 0 = y at *
                    have e1 := cast_ne hne
                    have e2 : (y == o) = false := by simpa using hne
                    clear hne
                    go_wp2_with fail
                    go_quiet (fail)
                    go_wp2_with fail
                    go_roundg g2
                    case measure => omega
                    case rel => exact ⟨j + 1, by omega, by go_num, HP.out.drewN _⟩
              | zero =>
                obtain rfl : k = mo := by omega
                clear hk
                go_wp2_with fail
                refine (HWDS.out wr (HK6r.out.trans' HP.out)).mono ?_; rintro e w9 ⟨vw, gw, rfl, hrw, hgw, hk9⟩
                have HK9 := Lib.hid (HP.out.trans' hk9)
                obtain ⟨aw, cw, rfl, hcw, hmw, HWC⟩ := words_cell hrw
                have hcw2 := hcw
                rw [HYL.out] at hcw2
                unfold maxLen at hmw
                clear hk9 hrw HWDS hcw
                rw [HYL.out]
                have HWC2 : Hid (∀ q, q < 3128 → ∃ off, aw = some ⟨gw, off, none⟩ ∧ ∀ wx, Keeps [] w9 wx → wx.cell? ⟨gw, off + q, none⟩ = some (.int .u64 (Y.getD q 0))) := fun q hq => by
                  obtain ⟨h1, off, h2, h3⟩ := HWC.out q (by rw [HYL.out]; exact hq)
                  exact ⟨off, h2, fun wx hk => (World.cell?_of_block (hk.block gw h1 (by simp))).trans h3⟩
                clear HWC
                go_wp2_with fail
                go_loopg [15] 8 (fun gh s15 wx => ∃ q : Nat, q + gh = 856 ∧ 848 ≤ q ∧ s15 = .int .i64 (q : Int) ∧ Hid (Keeps [] w9 wx))
                case atStart => exact ⟨848, by omega, by omega, rfl, Keeps.refl _ _⟩
                case round =>
                  clear HP
                  obtain ⟨q, hq, hq8, rfl, HP⟩ := hrel
                  cases gk with
                  | succ gg =>
                    have hqi : (q : Int) < 856 := by omega
                    have hq3 : (q : Int) < 3128 := by omega
                    have hq0 : (0 : Int) ≤ (q : Int) := by omega
                    have HLR := Lib.hid (HLM.out wr (HK9.out.trans' HP.out))
                    have HWD := Lib.hid (HWORD.out q (by omega) wr (HK9.out.trans' HP.out))
                    go_wp2_with ((with_reducible show wpList _ _ _ (⟨_, .load 25 (.tmp 7), _, _, _, _⟩ :: _) _ _); refine wpList_load_want (by first | rfl | simp [Region.wanted, yielded]) 25 (.tmp 7) rfl _ rfl _ HLR.out ?_)
                    refine HWD.out.mono ?_; rintro e w11 ⟨x, ok, rfl, hwant, hk11⟩
                    have hxy := (want_row HLA.out (by omega) hwant).1
                    have HK11 := Lib.hid (HP.out.trans' hk11)
                    obtain ⟨offw, rfl, hcc⟩ := HWC2.out q (by omega)
                    have cw1 := hcc w11 HK11.out
                    rw [hxy] at cw1
                    have hxx : (x != x) = false := by simp
                    clear hwant hk11 hcc hxy HLR HWD HWC2
                    go_wp2_with fail
                    go_roundg gg
                    case measure => omega
                    case rel => exact ⟨q + 1, by omega, by omega, by go_num, HK11.out⟩
                  | zero =>
                    obtain rfl : q = 856 := by omega
                    clear hq hq8
                    go_wp2_with fail
                    go_loopg [18] k (fun gh s18 wx => ∃ i : Nat, i + gh = k ∧ s18 = .int .i64 (i : Int) ∧ Hid (Keeps [] w9 wx))
                    case atStart => exact ⟨0, by omega, rfl, HP.out⟩
                    case round =>
                      clear HP
                      obtain ⟨i, hi, rfl, HP⟩ := hrel
                      cases gk with
                      | zero =>
                        obtain rfl : i = k := by omega
                        clear hi
                        go_wp2_with fail
                        go_ret
                        exact ⟨rfl, HKF.out wr (HK9.out.trans' HP.out)⟩
                      | succ gg =>
                        have hik : i < k := by omega
                        have hii : (i : Int) < (k : Int) := by omega
                        have hi0 : (0 : Int) ≤ (i : Int) := by omega
                        obtain ⟨hg1, off1, rfl, d1⟩ := HCA.out i (by first | exact hik | (rw [HMO.out]; exact hik))
                        have HCI : Hid (∀ wx, Keeps [] w9 wx → wx.cell? ⟨ga, off1 + i, none⟩ = some (.int .i64 ((ow.getD i 0 : Nat) : Int))) := fun wx hk' => (World.cell?_of_block ((HK9.out.trans' hk').block ga hg1 (by simp))).trans d1
                        have ho := (HOI.out i (by first | exact hik | (rw [HMO.out]; exact hik))).2
                        have HWO : Hid (∀ j q x ok, j < 8 → q = 1080 + 8 * ow.getD i 0 + j → Want m ow 848 q x ok → Y.getD q 0 = x) := fun j q x ok hj hq hw =>
                          (want_own HLA.out (not_row hq) (by first | exact hik | (rw [HMO.out]; exact hik)) hj hq hw).1
                        clear d1
                        generalize ow.getD i 0 = o at *
                        obtain ⟨q1, hq1, hm8, hs1, hw1, hq1l⟩ := blk_facts o ho
                        have HQ1 := Lib.hid hq1
                        clear hq1
                        go_wp2_with fail
                        go_loopg [19] 8 (fun gh s19 wx => ∃ j : Nat, j + gh = 8 ∧ s19 = .int .i64 (j : Int) ∧ Hid (Keeps [] w9 wx))
                        case atStart => exact ⟨0, by omega, rfl, HP.out⟩
                        case round =>
                          clear HP
                          obtain ⟨j, hj, rfl, HP⟩ := hrel
                          cases gk with
                          | zero =>
                            obtain rfl : j = 8 := by omega
                            clear hj
                            go_wp2_with fail
                            go_roundg gg
                            case measure => omega
                            case rel => exact ⟨i + 1, by omega, by go_num, HP.out⟩
                          | succ g2 =>
                            have hj8 : (j : Int) < 8 := by omega
                            have hjn : j < 8 := by omega
                            have c1 := HCI.out wr HP.out
                            obtain ⟨q2, hq2, hs2, hw2, hq23, hq2i, hq20⟩ := q_facts q1 j hq1l hjn
                            have HQ2 : Hid (q2 = 1080 + 8 * o + j) := by show _ = _; rw [hq2, HQ1.out]
                            clear hq2
                            have HLR := Lib.hid (HLM.out wr (HK9.out.trans' HP.out))
                            have HWD := Lib.hid (HWORD.out q2 hq23 wr (HK9.out.trans' HP.out))
                            go_wp2_with ((with_reducible show wpList _ _ _ (⟨_, .load 25 (.tmp 7), _, _, _, _⟩ :: _) _ _); refine wpList_load_want (by first | rfl | simp [Region.wanted, yielded]) 25 (.tmp 7) rfl _ rfl _ HLR.out ?_)
                            refine HWD.out.mono ?_; rintro e w11 ⟨x, ok, rfl, hwant, hk11⟩
                            have hxy := HWO.out j q2 x ok hjn HQ2.out hwant
                            have HK11 := Lib.hid (HP.out.trans' hk11)
                            obtain ⟨offw, rfl, hcc⟩ := HWC2.out q2 hq23
                            have cw1 := hcc w11 HK11.out
                            rw [hxy] at cw1
                            have hxx : (x != x) = false := by simp
                            clear hwant hk11 hcc hxy HLR HWD HWC2 c1 hs1 hs2 hm8 hw1 hw2
                            go_wp2_with fail
                            go_roundg g2
                            case measure => omega
                            case rel => exact ⟨j + 1, by omega, by go_num, HK11.out⟩

end Go.Proofs.YtmhcnkjmnbnldaaDoor

namespace Go.Proofs.YtmhcnkjmnbnldaaDoor
open Go.RowKit

/-- A sheet with such puts. -/
def ShIn (w : World) (b : Nat) (X : List Int) (qs : List (Int × Int)) (wx : World) : Prop :=
  ∃ gp, ShAt wx b gp X qs ∧ gp < wx.heap.size ∧ w.heap.size ≤ gp ∧ Keeps [] w wx

theorem ShIn.keep {w wx wy : World} {b : Nat} {X : List Int} {qs : List (Int × Int)} (h : ShIn w b X qs wx) (hk : Keeps [] wx wy) : ShIn w b X qs wy := by
  obtain ⟨gp, h1, h2, h3, h4⟩ := h
  exact ⟨gp, h1.keep hk (by simp) (by simp), Nat.lt_of_lt_of_le h2 hk.size, h3, h4.trans' hk⟩

theorem ShIn.keeps {w wx : World} {b : Nat} {X : List Int} {qs : List (Int × Int)} (h : ShIn w b X qs wx) : Keeps [] w wx := by
  obtain ⟨gp, h1, h2, h3, h4⟩ := h
  exact h4

/-- What Lay tells, and puts, where there are blocks enough. -/
def LayRes (X : List Int) (i : Int) (n : Ino) (r : Int) (q : List (Int × Int)) : Prop :=
  (r = 1 ∧ ¬ LayP i n ∧ q = []) ∨ (r = 0 ∧ LayP i n ∧ q = layPs X i.toNat n ((freeL X).take (needN n)))

theorem layRes_ex (X : List Int) (i : Int) (n : Ino) : ∃ r q, LayRes X i n r q := by
  by_cases h : LayP i n
  · exact ⟨0, _, .inr ⟨rfl, h, rfl⟩⟩
  · exact ⟨1, _, .inl ⟨rfl, h, rfl⟩⟩

theorem need_7 {n : Ino} (h : RightP n) : needN n ≤ 7 := by
  have h1 := blocks_le h
  have h2 := need_le n
  omega

theorem lay_in {w wx : World} {b : Nat} {X : List Int} {ps : List (Int × Int)} (hbw : w.heap.size ≤ b) (h : ShIn w b X ps wx) (h64 : In64 (putAll X ps)) (hps : ps.length ≤ 1000) (hT : TabAt w) (i : Int) (n : Ino) (v : Value) (g : Nat) (hB : n.B.length = 13) (hE : EReads w v g n.E)
    (hN : ∀ k, k < n.E.length → (enm n.E k).size ≤ 9223372036854775807) (hfr : 7 ≤ (freeL (putAll X ps)).length) {r : Int} {q : List (Int × Int)} (hrq : LayRes (putAll X ps) i n r q) :
    Calls Tryd.prog 11 #[.pointer (some ⟨b, 0, none⟩), .int .i64 i, .agg (inoC n v)] wx fun e w' => e = .returned (.int .i64 r) ∧ ShIn w b X (ps ++ q) w' := by
  obtain ⟨gp, h1, h2, h3, h4⟩ := h
  refine (lay_any h1 h64 (hT.keep h4) h2 (by omega) i n v g hB (hE.keep h4 (by simp)) hN fun h0 => ?_).mono ?_
  · have := hE.apart (l := [b, gp]) (fun x hx => by simp only [List.mem_cons, List.not_mem_nil, or_false] at hx; omega) h0
    simp only [List.mem_cons, List.not_mem_nil, or_false, not_or] at this
    exact this
  · rintro e w' ⟨r', qs, gp', rfl, hgp, hs, hk, -, hr⟩
    have hz := hk.size
    have hz4 := h4.size
    have hkk : Keeps [] w w' := h4.trans hk fun x hx => by simp only [List.mem_cons, List.not_mem_nil, or_false] at hx; omega
    rcases hrq with ⟨rfl, hno, rfl⟩ | ⟨rfl, hok, rfl⟩
    · rcases hr with ⟨rfl, -, rfl⟩ | ⟨-, ho, -⟩ | ⟨-, ho, -⟩
      · exact ⟨rfl, gp', hs, by omega, by omega, hkk⟩
      · exact absurd ho hno
      · exact absurd ho hno
    · rcases hr with ⟨-, ho, -⟩ | ⟨-, -, hf, -⟩ | ⟨rfl, -, -, rfl⟩
      · exact absurd hok ho
      · have := need_7 hok.2.2
        omega
      · exact ⟨rfl, gp', hs, by omega, by omega, hkk⟩

/-- Of noughts all but the first block are free. -/
theorem free_noughts : freeL (laidX [] 4 1080) = (List.range 256).filter (fun b => b != 0) := by
  unfold freeL freeTo
  apply List.filter_congr
  intro b hb
  rw [List.mem_range] at hb
  have hu : usedN (laidX [] 4 1080) b = false := by
    rw [usedN, bw, laidX_get _ _ _ _ (by omega), if_pos (by omega)]
    simp
  rw [hu]
  simp

theorem free_noughts_len : (freeL (laidX [] 4 1080)).length = 255 := by rw [free_noughts]; decide +kernel

/-- Rows change no bits. -/
theorem used_rows {X : List Int} {i : Nat} {n : Ino} {own : List Nat} (ho : blocksN n.E.length ≤ own.length) : freeL (putAll X (rowsPs i n own)) = freeL X := by
  have hu : ∀ b, b < 256 → usedN (putAll X (rowsPs i n own)) b = usedN X b := fun b hb => by
    unfold usedN bw
    rw [putAll_other]
    intro p hp
    rcases rowsPs_mem ho hp with h | h
    · have := h.1; omega
    · have := h.1; omega
  unfold freeL freeTo
  apply List.filter_congr
  intro b hb
  rw [List.mem_range] at hb
  rw [hu b hb]

/-- Behind a lay the others are free. -/
theorem free_lay {X : List Int} (h64 : In64 X) (hX : X.length = 3128) {i : Int} {n : Ino} (hn : needN n ≤ (freeL X).length) : freeL (putAll X (layPs X i.toNat n ((freeL X).take (needN n)))) = (freeL X).drop (needN n) := by
  have hcn := need_le n
  unfold layPs
  rw [putAll_append, used_rows (by rw [own_len hn]; omega)]
  exact (freeL_take h64 hX (needN n)).2.2

theorem row_same {X Y : List Int} {p : Nat} (h : ∀ j, j < 8 → Y.getD (p + j) 0 = X.getD (p + j) 0) : rowL Y p = rowL X p :=
  rowL_ext (rowL_len _ _) fun j hj => by rw [h j hj, rowL_get _ _ _ hj]

/-- What was laid stays where another is laid. -/
theorem laid_stays {X : List Int} {q i : Nat} {n m : Ino} {own own2 : List Nat} (h : LaidAt X q n own) (hq : 820 ≤ q) (hq2 : q + 8 ≤ 824 + 8 * i ∨ 832 + 8 * i ≤ q) (hq3 : q + 8 ≤ 1080) (ho : blocksN m.E.length ≤ own2.length) (hm : ∀ c ∈ own, c ≠ 0 ∧ c < 256) (hm2 : ∀ c ∈ own2, c ≠ 0 ∧ c < 256) (hi : i < 32) (hd : ∀ c ∈ own, c ∉ own2) :
    LaidAt (putAll X (layPs X i m own2)) q n own := by
  refine ⟨?_, fun k hk => ?_⟩
  · rw [row_same (X := X) fun j hj => lay_other ho hm2 (by omega) (by omega) (by omega)]
    exact h.row
  · have hmem := getD_mem hk
    have h1 := hm _ hmem
    have h2 := hd _ hmem
    rw [row_same (X := X) fun j hj => lay_other ho hm2 (by omega) (fun h' => h2 (by
      have e : (1080 + 8 * own.getD k 0 + j - 1080) / 8 = own.getD k 0 := by omega
      rw [← e]
      exact h'.2)) (by omega)]
    exact h.own k hk

theorem take_drop_apart {l : List Nat} (hn : l.Nodup) {a b : Nat} : ∀ c ∈ l.take a, c ∉ (l.drop a).take b := fun c h1 h2 => by
  rw [← List.take_append_drop a l] at hn
  exact (List.nodup_append.1 hn).2.2 c h1 c (List.mem_of_mem_take h2) rfl

/-- Both are where they were laid. -/
theorem both_laid {X : List Int} (h64 : In64 X) (hX : X.length = 3128) (hfr : 14 ≤ (freeL X).length) {n m : Ino} (hB : n.B.length = 13) (hBm : m.B.length = 13) (hn : LayP 5 n) (hm : LayP 6 m) {qa qb : List (Int × Int)} (ha : LayRes X 5 n 0 qa) (hb : LayRes (putAll X qa) 6 m 0 qb) :
    ∃ oa ob, LaidAt (putAll X (qa ++ qb)) 864 n oa ∧ LaidAt (putAll X (qa ++ qb)) 872 m ob ∧ oa.length = needN n ∧ ob.length = needN m ∧ (∀ c ∈ oa, c ≠ 0 ∧ c < 256) ∧ (∀ c ∈ ob, c ≠ 0 ∧ c < 256) ∧ (∀ c ∈ oa, c ∉ ob) ∧ In64 (putAll X (qa ++ qb)) := by
  have n7 := need_7 hn.2.2
  have m7 := need_7 hm.2.2
  have hcm := need_le m
  rcases ha with ⟨h, _⟩ | ⟨-, -, rfl⟩
  · cases h
  · rcases hb with ⟨h, _⟩ | ⟨-, -, rfl⟩
    · cases h
    · obtain ⟨a1, a2, -⟩ := laid_all h64 hX hB hn (by omega : needN n ≤ (freeL X).length)
      have hfl := free_lay (i := 5) h64 hX (by omega : needN n ≤ (freeL X).length)
      have hYl : (putAll X (layPs X (5 : Int).toNat n ((freeL X).take (needN n)))).length = 3128 := by rw [putAll_len, hX]
      have hfm : needN m ≤ (freeL (putAll X (layPs X (5 : Int).toNat n ((freeL X).take (needN n))))).length := by rw [hfl, List.length_drop]; omega
      obtain ⟨b1, b2, -⟩ := laid_all a2 hYl hBm hm hfm
      have hdis : ∀ c ∈ (freeL X).take (needN n), c ∉ (freeL (putAll X (layPs X (5 : Int).toNat n ((freeL X).take (needN n))))).take (needN m) := by
        rw [hfl]
        exact take_drop_apart (freeTo_nodup X 256)
      refine ⟨_, _, ?_, ?_, own_len (by omega : needN n ≤ (freeL X).length), own_len hfm, own_in, own_in, hdis, by rw [putAll_append]; exact b2⟩
      · rw [putAll_append]
        exact laid_stays a1 (by decide) (by decide) (by decide) (by rw [own_len hfm]; omega) own_in own_in (by decide) hdis
      · rw [putAll_append]
        exact b1

end Go.Proofs.YtmhcnkjmnbnldaaDoor

namespace Go.Proofs.YtmhcnkjmnbnldaaDoor
section
variable {P : Program} {ops : Array Oper} {Q : Exit → Act → World → Prop} {md : Region.Mode}

/-- These are listed. -/
def listedOf (listed : Array Bool) : List Nat → Array Bool
  | [] => listed
  | i :: is => listedOf (listed.setIfInBounds i true) is

/-- The path is one that may be picked; each of its operations may be taken first where it stands, F and L wait for it or are others. -/
def pathB (md : Region.Mode) (ops : Array Oper) (F L : Nat) (listed : Array Bool) : List Nat → Bool
  | [] => true
  | i :: is => Region.free md ops listed i && (Region.ready md ops listed).contains i && (i != F) && (i != L) && leads md ops ops.size i L && pathB md ops F L (listed.setIfInBounds i true) is

theorem pathU {S : Bool → World → Prop} {F L : Nat} (hns : Region.noSelect ops = true) (hQ : ∀ d v c a w, Q (.panic c) (Act.put a d v) w → Q (.panic c) a w) {E : Act → Prop} (m : Nat) (done : Array Bool)
    (hend : ∀ a, E a → wpAnyU P md ops Q S F L m done a) : ∀ (is : List Nat) (l : List Oper) (listed : Array Bool) (a : Act), Closed md ops listed → pathB md ops F L listed is = true → listedOf listed is = done →
      l = is.filterMap (fun i => ops[i]?) → l.length = is.length → EachListB P ops S E l a → wpAnyU P md ops Q S F L (m + is.length) listed a := by
  intro is
  induction is with
  | nil =>
    intro l listed a _ _ hd hl _ h
    have hl' : l = [] := by rw [hl]; rfl
    subst hl'
    have hd' : listed = done := hd
    subst hd'
    exact hend a h
  | cons i is ih =>
    intro l listed a hc hp hd hl hlen h
    unfold pathB at hp
    simp only [Bool.and_eq_true, bne_iff_ne, ne_eq] at hp
    obtain ⟨⟨⟨⟨⟨c1, c2⟩, c3⟩, c4⟩, c5⟩, c6⟩ := hp
    cases ho : ops[i]? with
    | none =>
      exfalso
      rw [hl, List.filterMap_cons, ho] at hlen
      have := List.length_filterMap_le (fun i => ops[i]?) is
      simp only [List.length_cons] at hlen
      omega
    | some o =>
      rw [List.filterMap_cons, ho] at hl
      subst hl
      obtain ⟨v, hv, hr⟩ := h
      have hrd : i ∈ Region.ready md ops listed := by simpa using c2
      have hrec := ih _ (listed.setIfInBounds i true) (a.put o.dst v) (closed_set hc hrd) c6 hd rfl (by simpa using hlen) hr
      rw [List.length_cons, ← Nat.add_assoc]
      exact wpAnyU_first ho c4 c3 (Region.noSelect_spec hns) (hQ o.dst v) (.inr c5) _ _ a hc (Region.free_spec ho c1) hrd hv hrec

/-- THE LAW. -/
theorem wp_region_path {S : Bool → World → Prop} {id : Nat} {a : Act} {w : World} (path : List Nat) (F L : Nat) {l : List Oper} {f o : Oper} {tl : List Oper} (hm : P.follows .mixedOrders = true) (hns : Region.noSelect ops = true)
    (hp : pathB .any ops F L (listedTo ops.size 0) path = true) (hl : l = path.filterMap (fun i => ops[i]?)) (hll : l.length = path.length) (hf : ops[F]? = some f) (hr1 : Region.ready .any ops (listedOf (listedTo ops.size 0) path) = [F]) (hFL : F ≠ L)
    (hset : (listedOf (listedTo ops.size 0) path).setIfInBounds F true = listedTo ops.size L) (hpl : path.length + 1 = L) (hops : ops.toList.drop L = o :: tl) (hr2 : ((List.range (tl.length + 1)).all fun k => Region.ready .any ops (listedTo ops.size (L + k)) == [L + k]) = true) (hr3 : Region.ready .any ops (listedTo ops.size ops.size) = [])
    (hF0 : (listedOf (listedTo ops.size 0) path).getD F false = false) (hF1 : (listedTo ops.size L).getD F false = true)
    (hQ : ∀ d v c a w, Q (.panic c) (Act.put a d v) w → Q (.panic c) a w) (hS : S ((listedTo ops.size 0).getD F false) w.drew)
    (h : EachListB P ops S (fun a => ∃ v, Each2 P ops (S false) (S true) f v a ∧ ∀ w, S true w → wpList P ops Q (o :: tl) (a.put f.dst v) w) l a) : (Code.region id ops true).wp P Q a w := by
  have hsz : ops.size = L + (tl.length + 1) := by
    have h1 := congrArg List.length hops
    rw [List.length_drop, Array.length_toList, List.length_cons] at h1
    omega
  have hready := ready_single hr2
  rw [← hsz] at hready
  refine wp_region_any hm ?_
  rw [← listedTo_zero]
  refine wpAny_of_U (S := S) (F := F) (L := L) _ _ _ ?_ _ hS
  have hget : ∀ k, k < (o :: tl).length → ops[L + k]? = (o :: tl)[k]? := fun k _ => by rw [← hops, List.getElem?_drop, Array.getElem?_toList]
  have hn : ops.size = (tl.length + 2) + path.length := by omega
  have hc0 : Closed .any ops (listedTo ops.size 0) := by
    intro k o ho hl
    rw [listedTo_zero] at hl
    have hk : k < ops.size := (Array.getElem?_eq_some_iff.1 ho).1
    simp [hk] at hl
  have key := pathU (md := .any) (Q := Q) (S := S) (F := F) (L := L) hns hQ (E := fun a => ∃ v, Each2 P ops (S false) (S true) f v a ∧ ∀ w, S true w → wpList P ops Q (o :: tl) (a.put f.dst v) w) (tl.length + 2) (listedOf (listedTo ops.size 0) path) (fun a h => by
    obtain ⟨v, hf2, hrest⟩ := h
    have hL : wpAnyU P .any ops Q S F L (tl.length + 1) (listedTo ops.size L) (a.put f.dst v) := by
      have h2 := hready L (Nat.le_refl _) (by omega)
      have hany : ∀ w, S true w → wpAny P .any ops Q (ops.size - L) (listedTo ops.size L) (a.put f.dst v) w := fun w hS =>
        tail_any (o :: tl) L _ w (by rw [hsz]; simp) hget (fun j hj hj2 => hready j hj hj2) hr3 (hrest w hS)
      rw [show ops.size - L = tl.length + 1 by omega] at hany
      refine ⟨fun h0 => (by rw [h2] at h0; cases h0), fun i hi hne => ?_, fun hm w hS => ?_⟩
      · rw [h2, List.mem_singleton] at hi
        exact absurd hi hne
      · rw [hF1] at hS
        exact (hany w hS).2 _ hm
    refine ⟨fun h0 => (by rw [hr1] at h0; cases h0), fun i hi hne w hS => ?_, fun hm => ?_⟩
    · rw [hr1, List.mem_singleton] at hi
      subst hi
      rw [hF0] at hS
      refine hf2.wpOp hf hS fun w' hS' => ?_
      rw [hset, hF1]
      exact ⟨hS', hL⟩
    · rw [hr1, List.mem_singleton] at hm
      exact absurd hm.symm hFL) path l (listedTo ops.size 0) a hc0 hp rfl hl hll h
  rw [← hn] at key
  exact key

/-- A call, from one condition to another. -/
theorem Each2.call {S S' : World → Prop} {o : Oper} {v : Value} {a : Act} (hw : Region.wanted o (yielded ops a.tmps) = true) (f : Nat) (args : Array Value) (he : ∀ w, (execOp a.eval o).run P w = .ok (.enter f args) w) (h : ∀ w, S w → Calls P f args w fun e w' => e = .returned v ∧ S' w') : Each2 P ops S S' o v a :=
  ⟨hw, fun w hS => by rw [he w]; exact h w hS⟩
end

end Go.Proofs.YtmhcnkjmnbnldaaDoor

namespace Go.Proofs.YtmhcnkjmnbnldaaDoor
open Go.RowKit

set_option maxRecDepth 100000 in
set_option maxHeartbeats 8000000 in
theorem f1Both_at (n m : Ino) (v u : Value) (g h : Nat) (hB : n.B.length = 13) (hBm : m.B.length = 13) (w : World) (hE : EReads w v g n.E) (hEm : EReads w u h m.E) (hT : TabAt w) :
    Calls Tryd.prog 3 #[.agg (inoC n v), .agg (inoC m u)] w fun e w' => e = .returned (.bool true) ∧ Keeps [] w w' := by
  have HB := Lib.hid hB
  have HBM := Lib.hid hBm
  have HLI0 : Hid (∀ wx, Blk wx w.heap.size (inoC n v) 25 → (loadVar 25 ⟨w.heap.size, 0, none⟩).run Tryd.prog wx = .ok (.agg (inoC n v)) wx) := fun wx hb => load_ino hb hB
  have HLJ0 : Hid (∀ wx, Blk wx (w.heap.size + 1) (inoC m u) 25 → (loadVar 25 ⟨w.heap.size + 1, 0, none⟩).run Tryd.prog wx = .ok (.agg (inoC m u)) wx) := fun wx hb => load_ino hb hBm
  have HAW := Lib.hid (fun wx => f1Awake_at wx)
  have HFA : Hid (∀ wx, Keeps [] w wx → Calls Tryd.prog 9 #[.agg (inoC n v)] wx (FewPost wx n)) := fun wx hk => refFew_at n v g hB wx (hE.keep hk (by simp))
  have HFB : Hid (∀ wx, Keeps [] w wx → Calls Tryd.prog 9 #[.agg (inoC m u)] wx (FewPost wx m)) := fun wx hk => refFew_at m u h hBm wx (hEm.keep hk (by simp))
  have HSH := Lib.hid (fun wx => sheet6_at [] wx)
  have HSA : Hid (∀ vx gx wx, Keeps [] w wx → EReads wx vx gx n.E → Calls Tryd.prog 13 #[.agg (inoC n vx), .agg (inoC n v)] wx fun e w' => e = .returned (.bool true) ∧ Keeps [] wx w') := fun vx gx wx hk hx => refSame_at n vx v gx g hB wx hx (hE.keep hk (by simp))
  have HSB : Hid (∀ vx gx wx, Keeps [] w wx → EReads wx vx gx m.E → Calls Tryd.prog 13 #[.agg (inoC m vx), .agg (inoC m u)] wx fun e w' => e = .returned (.bool true) ∧ Keeps [] wx w') := fun vx gx wx hk hx => refSame_at m vx u gx h hBm wx hx (hEm.keep hk (by simp))
  obtain ⟨ra, qa, hra⟩ := layRes_ex (laidX [] 4 1080) 5 n
  obtain ⟨rb, qb, hrb⟩ := layRes_ex (putAll (laidX [] 4 1080) qa) 6 m
  have HX64 := Lib.hid (laidX_64 [] nil_64)
  have HXL := Lib.hid (laidX_len [] 4 1080)
  have HXF := Lib.hid free_noughts_len
  have HMID : Hid (In64 (putAll (laidX [] 4 1080) qa) ∧ qa.length ≤ 200 ∧ 7 ≤ (freeL (putAll (laidX [] 4 1080) qa)).length) := by
    rcases hra with ⟨-, -, rfl⟩ | ⟨-, ho, rfl⟩
    · exact ⟨HX64.out, by simp, by show 7 ≤ (freeL (laidX [] 4 1080)).length; rw [HXF.out]; omega⟩
    · have h7 := need_7 ho.2.2
      have hen : needN n ≤ (freeL (laidX [] 4 1080)).length := by rw [HXF.out]; omega
      refine ⟨(laid_all HX64.out HXL.out hB ho hen).2.1, layPs_len (blocks_le ho.2.2).2.1 own_in (by rw [own_len hen]; omega), ?_⟩
      rw [free_lay (i := 5) HX64.out HXL.out hen, List.length_drop, HXF.out]
      omega
  have HBOTH : Hid (ra = 0 → rb = 0 → LayP 5 n ∧ LayP 6 m ∧ ∃ oa ob, LaidAt (putAll (laidX [] 4 1080) (qa ++ qb)) 864 n oa ∧ LaidAt (putAll (laidX [] 4 1080) (qa ++ qb)) 872 m ob ∧ oa.length = needN n ∧ ob.length = needN m ∧ (∀ c ∈ oa, c ≠ 0 ∧ c < 256) ∧ (∀ c ∈ ob, c ≠ 0 ∧ c < 256) ∧ (∀ c ∈ oa, c ∉ ob) ∧ In64 (putAll (laidX [] 4 1080) (qa ++ qb))) := by
    rintro rfl rfl
    have h1 : LayP 5 n := by
      rcases hra with ⟨e, -⟩ | ⟨-, h, -⟩
      · cases e
      · exact h
    have h2 : LayP 6 m := by
      rcases hrb with ⟨e, -⟩ | ⟨-, h, -⟩
      · cases e
      · exact h
    exact ⟨h1, h2, both_laid HX64.out HXL.out (by rw [HXF.out]; omega) hB hBm h1 h2 hra hrb⟩
  have hrac : ra = 0 ∨ ra = 1 := by rcases hra with h | h; exact .inr h.1; exact .inl h.1
  have hrbc : rb = 0 ∨ rb = 1 := by rcases hrb with h | h; exact .inr h.1; exact .inl h.1
  have HLA : Hid ((∀ k, k < n.E.length → (enm n.E k).size ≤ 9223372036854775807) → ∀ (wy : World) b wx, Keeps [] w wy → wy.heap.size ≤ b → ShIn wy b (laidX [] 4 1080) [] wx → Calls Tryd.prog 11 #[.pointer (some ⟨b, 0, none⟩), .int .i64 5, .agg (inoC n v)] wx fun e w' => e = .returned (.int .i64 ra) ∧ ShIn wy b (laidX [] 4 1080) qa w') := fun hN wy b wx hk hb hs =>
    lay_in hb hs HX64.out (by simp) (hT.keep hk) 5 n v g hB (hE.keep hk (by simp)) hN (by show 7 ≤ (freeL (laidX [] 4 1080)).length; rw [HXF.out]; omega) hra
  have HLBB : Hid ((∀ k, k < m.E.length → (enm m.E k).size ≤ 9223372036854775807) → ∀ (wy : World) b wx, Keeps [] w wy → wy.heap.size ≤ b → ShIn wy b (laidX [] 4 1080) qa wx → Calls Tryd.prog 11 #[.pointer (some ⟨b, 0, none⟩), .int .i64 6, .agg (inoC m u)] wx fun e w' => e = .returned (.int .i64 rb) ∧ ShIn wy b (laidX [] 4 1080) (qa ++ qb) w') := fun hN wy b wx hk hb hs =>
    lay_in hb hs HMID.out.1 (by have := HMID.out.2.1; omega) (hT.keep hk) 6 m u h hBm (hEm.keep hk (by simp)) hN HMID.out.2.2 hrb
  obtain ⟨Z, hZ⟩ : ∃ Z, inoC n v = Z := ⟨_, rfl⟩
  obtain ⟨V, hV⟩ : ∃ V, inoC m u = V := ⟨_, rfl⟩
  rw [hZ] at HLI0 HFA HLA HSA ⊢
  rw [hV] at HLJ0 HFB HLBB HSB ⊢
  have hbi := (Blk.new w Z 25).alloc (.cells V 25)
  have hbj := Blk.new (w.alloc (.cells Z 25)) V 25
  rw [show (w.alloc (.cells Z 25)).heap.size = w.heap.size + 1 by simp] at hbj
  have HK0 : Hid (Keeps [] w ((w.alloc (.cells Z 25)).alloc (.cells V 25))) := ((Keeps.refl [] w).alloc _).alloc _
  have HLI : Hid (∀ wx, Keeps [] ((w.alloc (.cells Z 25)).alloc (.cells V 25)) wx → (loadVar 25 ⟨w.heap.size, 0, none⟩).run Tryd.prog wx = .ok (.agg Z) wx) := fun wx hk => HLI0.out wx (hbi.keep hk (by simp))
  have HLJ : Hid (∀ wx, Keeps [] ((w.alloc (.cells Z 25)).alloc (.cells V 25)) wx → (loadVar 25 ⟨w.heap.size + 1, 0, none⟩).run Tryd.prog wx = .ok (.agg V) wx) := fun wx hk => HLJ0.out wx (hbj.keep hk (by simp))
  have hb4 := build_w4
  clear hbi hbj hB hBm hE hEm hT HLI0 HLJ0 hZ hV hra hrb HX64 HXL HXF HMID
  generalize laidX [] 4 1080 = X at *
  go_enter Tryd.func3, Tryd.ntmps3
  go_wp2_with fail
  refine (HAW.out _).mono ?_; rintro e w1 ⟨rfl, hk1⟩
  have HK1 := Lib.hid hk1
  have HL1 := Lib.hid (HLI.out w1 hk1)
  clear hk1
  go_wp2_with ((with_reducible show wpList _ _ _ (⟨_, .load 25 (.tmp 2), _, _, _, _⟩ :: _) _ _); refine wpList_load_want (by first | rfl | simp [Region.wanted, yielded]) 25 (.tmp 2) rfl _ rfl _ HL1.out ?_)
  refine (HFA.out w1 (HK0.out.trans' HK1.out)).mono ?_; rintro e w2 ⟨⟨fa, rfl, hfa⟩, hk2⟩
  have HK2 := Lib.hid (HK1.out.trans' hk2)
  have HFAR := Lib.hid hfa
  clear hk2 hfa HK1 HL1 HFA
  cases fa
  · have HAW2 := Lib.hid (HAW.out w2)
    clear HLA HLBB HSH HSA HSB HBOTH HFB
    go_wp2_with fail
    refine HAW2.out.mono ?_; rintro e w3 ⟨rfl, hk3⟩
    have HK3 := Lib.hid (HK0.out.trans' (HK2.out.trans' hk3))
    clear hk3
    go_wp2_with fail
    go_ret
    exact ⟨rfl, HK3.out⟩
  · have HL2 := Lib.hid (HLJ.out w2 HK2.out)
    go_wp2_with ((with_reducible show wpList _ _ _ (⟨_, .load 25 (.tmp 3), _, _, _, _⟩ :: _) _ _); refine wpList_load_want (by first | rfl | simp [Region.wanted, yielded]) 25 (.tmp 3) rfl _ rfl _ HL2.out ?_)
    refine (HFB.out w2 (HK0.out.trans' HK2.out)).mono ?_; rintro e w3 ⟨⟨fb, rfl, hfb⟩, hk3⟩
    have HK3 := Lib.hid (HK2.out.trans' hk3)
    have HFBR := Lib.hid hfb
    clear hk3 hfb HK2 HL2 HFB
    cases fb
    · have HAW2 := Lib.hid (HAW.out w3)
      clear HLA HLBB HSH HSA HSB HBOTH
      go_wp2_with fail
      refine HAW2.out.mono ?_; rintro e w4 ⟨rfl, hk4⟩
      have HK4 := Lib.hid (HK0.out.trans' (HK3.out.trans' hk4))
      clear hk4
      go_wp2_with fail
      go_ret
      exact ⟨rfl, HK4.out⟩
    · have HLA := Lib.hid (HLA.out (fun k hk => by have := (HFAR.out (by first | rfl | trivial)).2 k hk; omega))
      have HLBB := Lib.hid (HLBB.out (fun k hk => by have := (HFBR.out (by first | rfl | trivial)).2 k hk; omega))
      clear HFAR HFBR HAW
      go_wp2_with fail
      refine (HSH.out w3).mono ?_; rintro e w4 ⟨b, rfl, hb4w, hs4, hk4⟩
      have HK4 := Lib.hid (HK3.out.trans' hk4)
      have hbw : ((w.alloc (.cells Z 25)).alloc (.cells V 25)).heap.size ≤ b := Nat.le_trans HK3.out.size hb4w
      have HIN : Hid (ShIn ((w.alloc (.cells Z 25)).alloc (.cells V 25)) b X [] w4) := ⟨b, hs4, hs4.raw.lt, hbw, HK4.out⟩
      have HBW := Lib.hid hbw
      clear hk4 hs4 hb4w hbw HSH HK3 hb4
      go_wp2_with fail
      refine wp_region_path (S := fun (t : Bool) wx => ShIn ((w.alloc (.cells Z 25)).alloc (.cells V 25)) b X (if t = true then qa else []) wx) [0, 1, 3, 4] 2 5 (l := [_, _, _, _]) (tl := [_, _]) (by kernel_rfl) (by kernel_rfl) (by kernel_rfl) rfl rfl rfl (by kernel_rfl) (by decide) (by kernel_rfl) rfl rfl (by kernel_rfl) (by kernel_rfl) (by kernel_rfl) (by kernel_rfl) (fun d _ _ _ _ h => by cases d <;> exact h) (HIN.out.keep (Keeps.refl _ _).drew) ?_
      repeat (first
        | (refine EachListB.cons (.agg Z) (fun t => EachIf.load rfl 25 (.tmp 2) rfl _ rfl fun wx hx => HLI.out wx hx.keeps) ?_; simp only [Act.put])
        | (refine EachListB.cons (.agg V) (fun t => EachIf.load rfl 25 (.tmp 3) rfl _ rfl fun wx hx => HLJ.out wx hx.keeps) ?_; simp only [Act.put])
        | (refine EachListB.cons ?_ (fun t => EachIf.val rfl ?h) ?_; (case h => (intro wx hx; clear hx; go_simp; rfl)); simp only [Act.put, List.setIfInBounds_toArray]))
      refine EachListB.done ⟨.int .i64 ra, Each2.call rfl 11 #[.pointer (some ⟨b, 0, none⟩), .int .i64 5, .agg Z] (fun wz => by go_simp) (fun wx hx => HLA.out _ b wx HK0.out HBW.out hx), fun wx hx => ?_⟩
      have HLBW := Lib.hid (HLBB.out _ b wx HK0.out HBW.out hx)
      clear hx HLA HLBB HIN
      go_wp2_with fail
      refine HLBW.out.mono ?_; rintro e w5 ⟨rfl, hs5⟩
      obtain ⟨gp, hs, hgl, hgw, hkk⟩ := hs5
      have HK5 := Lib.hid hkk
      have HRDA : Hid (In64 (putAll X (qa ++ qb)) → ∀ wx, Keeps [] w5 wx → Calls Tryd.prog 12 #[.pointer (some ⟨b, 0, none⟩), .int .i64 5] wx (ReadPost wx (putAll X (qa ++ qb)) 5)) := fun h64 wx hk => read_at (hs.keep hk (by simp) (by simp)) h64 5
      have HRDB : Hid (In64 (putAll X (qa ++ qb)) → ∀ wx, Keeps [] w5 wx → Calls Tryd.prog 12 #[.pointer (some ⟨b, 0, none⟩), .int .i64 6] wx (ReadPost wx (putAll X (qa ++ qb)) 6)) := fun h64 wx hk => read_at (hs.keep hk (by simp) (by simp)) h64 6
      have HKF : Hid (∀ wx, Keeps [] w5 wx → Keeps [] w wx) := fun wx hk => HK0.out.trans' (HK5.out.trans' hk)
      clear hs hgl hgw hkk HLBW HBW HK4
      rcases hrac with rfl | rfl
      · rcases hrbc with rfl | rfl
        · obtain ⟨h1, h2, oa, ob, la, lb, na, nb, ma, mb, hdis, h64⟩ := HBOTH.out rfl rfl
          have ra := read_laid HB.out h1.2.2 h1.2.1 na ma la
          have rb := read_laid HBM.out h2.2.2 h2.2.1 nb mb lb
          have HA := Lib.hid ra
          have HBb := Lib.hid rb
          have HRDA := Lib.hid (HRDA.out h64)
          have HRDB := Lib.hid (HRDB.out h64)
          have HDIS : Hid (∀ i k, i < oa.length → k < ob.length → oa.getD i 0 ≠ ob.getD k 0) := fun i k hi hk e => hdis _ (getD_mem hi) (by rw [e]; exact getD_mem hk)
          clear ra rb h1 h2 la lb na nb ma mb hdis h64 HBOTH
          generalize putAll X (qa ++ qb) = Y at *
          have hzi := zero_ino
          go_wp2_with fail
          refine (HRDA.out w5 (Keeps.refl _ _)).mono ?_
          rintro e w6 ⟨n', vn, gn, on, va, ga, ok, rfl, hnB, hne, hgn, hra, hga, hokt, hokf, hk6⟩
          obtain ⟨rfl, rfl, rfl⟩ : ok = true ∧ n' = n ∧ on = oa := by
            have hx : inoAtX Y 5 = rowL Y 864 := rfl
            rw [hx] at hokt hokf
            cases ok
            · exact absurd ⟨⟨by decide, by decide⟩, HA.out.1⟩ (hokf rfl).1
            · obtain ⟨-, -, e1, e2⟩ := hokt rfl
              exact ⟨rfl, e1.trans HA.out.2.1, e2.trans HA.out.2.2⟩
          obtain ⟨w7, hst, hb7, hk7⟩ := store_ino (n := n') (v := vn) (Blk.new w6 (inoC inoZ (.slice none 0 0)) 25) rfl hnB (reads_one hne)
          have HST := Lib.hid hst
          have hk67 : Keeps [] w6 w7 := ((Keeps.refl [] w6).alloc _).trans hk7 (by intro x hx; rw [List.mem_singleton] at hx; omega)
          have HK7 := Lib.hid (hk6.trans' hk67)
          have HRAW := Lib.hid (hra.keep hk67 (by simp))
          have HNE := Lib.hid (hne.keep hk67 (by simp))
          have HLN : Hid (∀ wx, Keeps [] w7 wx → (loadVar 25 ⟨w6.heap.size, 0, none⟩).run Tryd.prog wx = .ok (.agg (inoC n' vn)) wx) := fun wx hk => load_ino (hb7.keep hk (by simp)) hnB
          obtain ⟨ax, cx, rfl, hcx, hmx, -⟩ := ints_cell HRAW.out
          have HRB := Lib.hid (HRDB.out w7 HK7.out)
          clear hst hb7 hk7 hk67 hk6 hra hne hokt hokf hgn hga HRDA HRDB HA
          generalize hZZ : inoC inoZ (.slice none 0 0) = ZZ at *
          go_wp2_with ((with_reducible show wpList _ _ _ (⟨_, .store 25 (.tmp 8) (.tmp 52), _, _, _, _⟩ :: _) _ _); refine wpList_store_any rfl 25 (.tmp 8) (.tmp 52) rfl _ rfl _ rfl _ HST.out ?_)
          refine HRB.out.mono ?_
          rintro e w8 ⟨m', vm, gm, om, vb, gb, ok, rfl, hmB, hme, hgm, hrb, hgb, hokt, hokf, hk8⟩
          obtain ⟨rfl, rfl, rfl⟩ : ok = true ∧ m' = m ∧ om = ob := by
            have hx : inoAtX Y 6 = rowL Y 872 := rfl
            rw [hx] at hokt hokf
            cases ok
            · exact absurd ⟨⟨by decide, by decide⟩, HBb.out.1⟩ (hokf rfl).1
            · obtain ⟨-, -, e1, e2⟩ := hokt rfl
              exact ⟨rfl, e1.trans HBb.out.2.1, e2.trans HBb.out.2.2⟩
          have hbz := Blk.new w8 (inoC inoZ (.slice none 0 0)) 25
          obtain ⟨w9, hst, hb9, hk9⟩ := store_ino (n := m') (v := vm) hbz rfl hmB (reads_one hme)
          rw [hZZ] at hst hk9
          have HST9 := Lib.hid hst
          have hk89 : Keeps [] w8 w9 := ((Keeps.refl [] w8).alloc _).trans hk9 (by intro x hx; rw [List.mem_singleton] at hx; omega)
          have HK79 := Lib.hid (hk8.trans' hk89)
          have HK9 := Lib.hid (HK7.out.trans' (hk8.trans' hk89))
          have HRBW := Lib.hid (hrb.keep hk89 (by simp))
          have HME := Lib.hid (hme.keep hk89 (by simp))
          have HLMM : Hid (∀ wx, Keeps [] w9 wx → (loadVar 25 ⟨w8.heap.size, 0, none⟩).run Tryd.prog wx = .ok (.agg (inoC m' vm)) wx) := fun wx hk => load_ino (hb9.keep hk (by simp)) hmB
          have HRA9 := Lib.hid (HRAW.out.keep HK79.out (by simp))
          obtain ⟨ax', cx', hax, -, -, HCX⟩ := ints_cell HRA9.out
          injection hax with e1 e2 e3
          subst e1 e3
          obtain ⟨ay, cy, rfl, hcy, hmy, HCY⟩ := ints_cell HRBW.out
          clear hst hb9 hk9 hk89 hk8 hrb hme hokt hokf hgm hgb HRB HBb HRAW HRBW hbz
          unfold maxLen at hmx hmy
          generalize hlx : on.length = lx at *
          generalize hly : om.length = ly at *
          clear hlx hly e2
          have HSN : Hid (∀ wx, Keeps [] w9 wx → Calls Tryd.prog 13 #[.agg (inoC n' vn), .agg Z] wx fun e w' => e = .returned (.bool true) ∧ Keeps [] wx w') := fun wx hk => HSA.out vn gn wx (HKF.out wx (HK9.out.trans' hk)) (HNE.out.keep (HK79.out.trans' hk) (by simp))
          have HSMM : Hid (∀ wx, Keeps [] w9 wx → Calls Tryd.prog 13 #[.agg (inoC m' vm), .agg V] wx fun e w' => e = .returned (.bool true) ∧ Keeps [] wx w') := fun wx hk => HSB.out vm gm wx (HKF.out wx (HK9.out.trans' hk)) (HME.out.keep hk (by simp))
          clear HSA HSB HNE HME
          generalize inoC n' vn = ZN at *
          generalize inoC m' vm = ZM at *
          go_wp2_with ((with_reducible show wpList _ _ _ (⟨_, .store 25 (.tmp 11) (.tmp 58), _, _, _, _⟩ :: _) _ _); refine wpList_store_any rfl 25 (.tmp 11) (.tmp 58) rfl _ rfl _ rfl _ HST9.out ?_)
          clear HST HST9 hzi
          go_loopg [14] lx (fun gh s14 wx => ∃ i : Nat, i + gh = lx ∧ s14 = .int .i64 (i : Int) ∧ Hid (Keeps [] w9 wx))
          case atStart => exact ⟨0, by omega, rfl, Keeps.refl _ _⟩
          case round =>
            obtain ⟨i, hi, rfl, HP⟩ := hrel
            cases gk with
            | zero =>
              obtain rfl : i = lx := by omega
              have HLNR := Lib.hid (HLN.out wr (HK79.out.trans' HP.out))
              have HLIR := Lib.hid (HLI.out wr (HK5.out.trans' (HK9.out.trans' HP.out)))
              clear hi HCX HCY HDIS
              go_wp2_with (first | ((with_reducible show wpList _ _ _ (⟨_, .load 25 (.tmp 8), _, _, _, _⟩ :: _) _ _); refine wpList_load_want (by first | rfl | simp [Region.wanted, yielded]) 25 (.tmp 8) rfl _ rfl _ HLNR.out ?_) | ((with_reducible show wpList _ _ _ (⟨_, .load 25 (.tmp 2), _, _, _, _⟩ :: _) _ _); refine wpList_load_want (by first | rfl | simp [Region.wanted, yielded]) 25 (.tmp 2) rfl _ rfl _ HLIR.out ?_))
              refine (HSN.out wr HP.out).mono ?_; rintro e w10 ⟨rfl, hk10⟩
              have HK10 := Lib.hid (HP.out.trans' hk10)
              have HLMR := Lib.hid (HLMM.out w10 HK10.out)
              have HLJR := Lib.hid (HLJ.out w10 (HK5.out.trans' (HK9.out.trans' HK10.out)))
              clear hk10 HLNR HLIR
              go_wp2_with (first | ((with_reducible show wpList _ _ _ (⟨_, .load 25 (.tmp 11), _, _, _, _⟩ :: _) _ _); refine wpList_load_want (by first | rfl | simp [Region.wanted, yielded]) 25 (.tmp 11) rfl _ rfl _ HLMR.out ?_) | ((with_reducible show wpList _ _ _ (⟨_, .load 25 (.tmp 3), _, _, _, _⟩ :: _) _ _); refine wpList_load_want (by first | rfl | simp [Region.wanted, yielded]) 25 (.tmp 3) rfl _ rfl _ HLJR.out ?_))
              refine (HSMM.out w10 HK10.out).mono ?_; rintro e w11 ⟨rfl, hk11⟩
              have HK11 := Lib.hid (HK10.out.trans' hk11)
              clear hk11
              go_wp2_with fail
              go_ret
              exact ⟨rfl, HKF.out w11 (HK9.out.trans' HK11.out)⟩
            | succ gg =>
              have hil : i < lx := by omega
              have hii : (i : Int) < (lx : Int) := by omega
              have hi0 : (0 : Int) ≤ (i : Int) := by omega
              go_wp2_with fail
              go_loopg [15] ly (fun gh s15 wx => ∃ k : Nat, k + gh = ly ∧ s15 = .int .i64 (k : Int) ∧ Hid (Keeps [] w9 wx))
              case atStart => exact ⟨0, by omega, rfl, HP.out⟩
              case round =>
                clear HP
                obtain ⟨k, hk, rfl, HP⟩ := hrel
                cases gk with
                | zero =>
                  obtain rfl : k = ly := by omega
                  clear hk
                  go_wp2_with fail
                  go_roundg gg
                  case measure => omega
                  case rel => exact ⟨i + 1, by omega, by go_num, HP.out⟩
                | succ g2 =>
                  have hkl : k < ly := by omega
                  have hki : (k : Int) < (ly : Int) := by omega
                  have hk0 : (0 : Int) ≤ (k : Int) := by omega
                  obtain ⟨gx1, offx, rfl, cx1⟩ := HCX.out i hil
                  obtain ⟨gy1, offy, rfl, cy1⟩ := HCY.out k hkl
                  have cx2 := (World.cell?_of_block (HP.out.block ga gx1 (by simp))).trans cx1
                  have cy2 := (World.cell?_of_block (HP.out.block gb gy1 (by simp))).trans cy1
                  have hne := HDIS.out i k hil hkl
                  clear cx1 cy1 gx1 gy1
                  generalize on.getD i 0 = x at *
                  generalize om.getD k 0 = y at *
                  have e1 := cast_ne hne
                  have e2 : (x == y) = false := by simpa using hne
                  clear hne
                  go_wp2_with fail
                  go_quiet (fail)
                  go_wp2_with fail
                  go_roundg g2
                  case measure => omega
                  case rel => exact ⟨k + 1, by omega, by go_num, HP.out.drewN _⟩
        · clear HRDA HRDB HBOTH HSA HSB HLI HLJ
          go_wp2_with fail
          go_ret
          exact ⟨rfl, HKF.out w5 (Keeps.refl _ _)⟩
      · clear HRDA HRDB HBOTH HSA HSB HLI HLJ
        rcases hrbc with rfl | rfl
        · go_wp2_with fail
          go_ret
          exact ⟨rfl, HKF.out w5 (Keeps.refl _ _)⟩
        · go_wp2_with fail
          go_ret
          exact ⟨rfl, HKF.out w5 (Keeps.refl _ _)⟩

end Go.Proofs.YtmhcnkjmnbnldaaDoor
