/-
  Layer 8: the law InodePlays. Layer 9: a list of inodes in memory; few. Layer 9: made: a sheet of inodes, and the table of them. Layer 9: the law TreeBelow.
-/
import Derived.Test.YtlfkodlnhfdgjaaGreatDoorG17
import Derived.Test.YtlfkodlnhfdgjaaGreatDoorG15
import Derived.Test.YtlfkodlnhfdgjaaGreatDoorG18
import Derived.Test.YtlfkodlnhfdgjaaGreatDoorG03
import Derived.Test.YtlfkodlnhfdgjaaGreatDoorG08
import Derived.Test.YtlfkodlnhfdgjaaGreatDoorG00
import Derived.Test.YtlfkodlnhfdgjaaGreatDoorG07
namespace Go.Proofs.YtlfkodlnhfdgjaaGreatDoor
open Go.RowKit

theorem TabE.set {W : World} {T : List (Ino × Value)} (h : TabE W T) {j : Nat} (hj : j < T.length) {n : Ino} {v : Value} (he : ∃ g, EReads W v g n.E) : TabE W (T.set j (n, v)) := fun i hi => by
  rw [nT_set hj, vT_set hj]
  by_cases hij : j = i
  · rw [if_pos hij, if_pos hij]; exact he
  · rw [if_neg hij, if_neg hij]; exact h i hi

theorem nT_tab0 (i : Nat) : nT tab0 i = inoZ ∧ vT tab0 i = .slice none 0 0 := by
  unfold nT vT tab0
  rw [List.getD_eq_getElem?_getD, List.getElem?_replicate]
  split <;> exact ⟨rfl, rfl⟩

theorem sum_tab0 : ∀ k, sumTo tab0 k = 0
  | 0 => rfl
  | k + 1 => by
    show sumTo tab0 k + needT tab0 k = 0
    rw [sum_tab0 k]
    unfold needT
    rw [(nT_tab0 k).1]
    rfl

theorem files_emp (n : Ino) : filesL (emp n) = [] := by
  show filesTo (List.replicate 13 0) 13 = []
  decide

end Go.Proofs.YtlfkodlnhfdgjaaGreatDoor

namespace Go.Proofs.YtlfkodlnhfdgjaaGreatDoor
open Go.RowKit

/-- A list of inodes in memory. -/
def NIns (W : World) (v : Value) (l : List (Ino × Value)) : Prop :=
  (∀ p ∈ l, p.1.B.length = 13 ∧ ∃ g, EReads W p.2 g p.1.E) ∧ ∃ a cap, v = .slice a l.length cap ∧ l.length ≤ cap ∧ cap ≤ maxLen ∧
    (l.length ≠ 0 → ∃ g off, a = some ⟨g, off, none⟩ ∧ g < W.heap.size ∧ ∀ j, j < l.length → ∀ c, c < 18 → W.cell? ⟨g, off + (j * 18 + c), none⟩ = (inoL (nT l j) (vT l j))[c]?)

theorem NIns.get {W : World} {a : Option Addr} {cap m : Nat} {l : List (Ino × Value)} (h : NIns W (.slice a m cap) l) {j : Nat} (hj : j < l.length) : ∃ g off, a = some ⟨g, off, none⟩ ∧ (nT l j).B.length = 13 ∧ (∃ ge, EReads W (vT l j) ge (nT l j).E) ∧
    ∀ wx, Keeps [] W wx → (loadVar 29 ⟨g, off + j * 18, none⟩).run Tryz.prog wx = .ok (.agg (inoC (nT l j) (vT l j))) wx := by
  obtain ⟨h1, a', cap', e, h2, h3, h4⟩ := h
  cases e
  obtain ⟨g, off, rfl, hg, hc⟩ := h4 (by omega)
  have hp := h1 _ (List.getElem_mem hj)
  have e1 : nT l j = l[j].1 ∧ vT l j = l[j].2 := by
    unfold nT vT
    rw [List.getD_eq_getElem?_getD, List.getElem?_eq_getElem hj]
    exact ⟨rfl, rfl⟩
  have hB : (nT l j).B.length = 13 := by rw [e1.1]; exact hp.1
  refine ⟨g, off, rfl, hB, by rw [e1.1, e1.2]; exact hp.2, fun wx hk => ?_⟩
  have hl : (inoL (nT l j) (vT l j)).length = 18 := by rw [inoL_len, hB]
  refine run_loadVar_cells g (off + j * 18) (inoL (nT l j) (vT l j)) Tryz.underlying29 rfl (by rw [hl]; exact size_ino) fun c hcc => ?_
  rw [hl] at hcc
  rw [World.cell?_of_block (hk.block g hg (by simp)), Nat.add_assoc]
  exact hc j hj c hcc

def FewE (n : Ino) : Prop := n.E.length ≤ 40 ∧ ∀ k, k < n.E.length → (enm n.E k).size ≤ 50

def FewsPost (w : World) (l : List (Ino × Value)) (e : Ending) (w' : World) : Prop := ∃ b : Bool, e = .returned (.bool b) ∧ (b = true → l.length ≤ 32 ∧ ∀ j, j < l.length → FewE (nT l j)) ∧ Keeps [] w w'

set_option maxRecDepth 100000 in
set_option maxHeartbeats 2000000 in
theorem few9_at {w : World} {a : Option Addr} {m cap : Nat} {l : List (Ino × Value)} (h : NIns w (.slice a m cap) l) :
    Calls Tryz.prog 5 #[.slice a m cap] w (FewsPost w l) := by
  obtain ⟨hml, hmc⟩ : l.length = m ∧ m ≤ 9223372036854775807 := by
    obtain ⟨-, a', c', e, h1, h2, -⟩ := h
    cases e
    unfold maxLen at h2
    exact ⟨rfl, by omega⟩
  have HG : Hid (∀ j, j < m → ∃ g off, a = some ⟨g, off, none⟩ ∧ (∀ wx, Keeps [] w wx → (loadVar 29 ⟨g, off + j * 18, none⟩).run Tryz.prog wx = .ok (.agg (inoC (nT l j) (vT l j))) wx) ∧ ∀ wx, Keeps [] w wx → Calls Tryz.prog 11 #[.agg (inoC (nT l j) (vT l j))] wx (FewPost wx (nT l j))) := fun j hj => by
    obtain ⟨g, off, e, hB, ⟨ge, hE⟩, hL⟩ := h.get (j := j) (by omega)
    exact ⟨g, off, e, hL, fun wx hk => refFew_at _ _ ge hB wx (hE.keep hk (by simp))⟩
  have HFP : Hid (∀ (b : Bool) w', (b = true → m ≤ 32 ∧ ∀ j, j < m → FewE (nT l j)) → Keeps [] w w' → FewsPost w l (.returned (.bool b)) w') := fun b w' h1 h2 => ⟨b, rfl, by rw [hml]; exact h1, h2⟩
  clear h hml
  go_enter Tryz.func5, Tryz.ntmps5
  go_wp2_with fail
  go_loopg [3] 32 (fun gh s3 wx => ∃ k : Nat, k + gh = 32 ∧ k ≤ m ∧ s3 = .int .i64 (k : Int) ∧ Hid (Keeps [] w wx ∧ ∀ j, j < k → FewE (nT l j)))
  case atStart => exact ⟨0, rfl, by omega, rfl, Keeps.refl _ _, fun j hj => by omega⟩
  case round =>
    obtain ⟨k, hk, hkm, rfl, HP⟩ := hrel
    by_cases hlt : k < m
    · have hki : (k : Int) < (m : Int) := by omega
      have hk0 : (0 : Int) ≤ (k : Int) := by omega
      cases gk with
      | zero =>
        have h32 : ¬ (k : Int) < 32 := by omega
        have hm32 : ¬ (m : Int) ≤ 32 := by omega
        have HK := Lib.hid HP.out.1
        clear HP HG
        go_wp2_with fail
        go_ret
        exact HFP.out _ _ (fun h => by cases h) HK.out
      | succ gg =>
        have h32 : (k : Int) < 32 := by omega
        obtain ⟨g, off, rfl, hL, hF⟩ := HG.out k hlt
        have HL := Lib.hid (hL wr HP.out.1)
        have HF := Lib.hid (hF wr HP.out.1)
        clear hL hF
        obtain ⟨Z, hZ⟩ : ∃ Z, inoC (nT l k) (vT l k) = Z := ⟨_, rfl⟩
        rw [hZ] at HL HF
        clear hZ
        go_wp2_with ((with_reducible show wpList _ _ _ (⟨_, .load 29 (.tmp 16), _, _, _, _⟩ :: _) _ _); refine wpList_load_any rfl 29 (.tmp 16) rfl _ rfl _ HL.out ?_)
        refine HF.out.mono ?_; rintro e w2 ⟨⟨b, rfl, hb⟩, hk2⟩
        have HK2 := Lib.hid (HP.out.1.trans' hk2)
        have HB := Lib.hid hb
        clear hk2 hb HL HF
        cases b
        · clear HP HG HB
          go_wp2_with fail
          go_ret
          exact HFP.out _ _ (fun h => by cases h) HK2.out
        · have HN : Hid (∀ j, j < k + 1 → FewE (nT l j)) := fun j hj => by
            by_cases e : j = k
            · rw [e]; exact HB.out rfl
            · exact HP.out.2 j (by omega)
          clear HP HG HB
          go_wp2_with fail
          go_roundg gg
          case measure => omega
          case rel => exact ⟨k + 1, by omega, by omega, by go_num, HK2.out, HN.out⟩
    · have hki : ¬ (k : Int) < (m : Int) := by omega
      obtain rfl : k = m := by omega
      have HQ := Lib.hid HP.out
      clear HP HG
      go_wp2_with fail
      go_ret
      exact HFP.out _ _ (fun h => ⟨by have := of_decide_eq_true h; omega, HQ.out.2⟩) HQ.out.1

end Go.Proofs.YtlfkodlnhfdgjaaGreatDoor

namespace Go.Proofs.YtlfkodlnhfdgjaaGreatDoor
open Go.RowKit

theorem padW_0 (i : Nat) : (padW []).getD i 0 = 0 := by
  rw [padW_get]
  split <;> rfl

theorem play_start0 : PlayP (padW []) tab0 (fun _ => []) (freeL (padW [])).length :=
  ⟨fun i => by rw [padW_0]; omega, padW_len _, fun i _ => .inl ⟨by rw [(nT_tab0 i).1]; rfl, ino_free0 (fun k _ => padW_0 k) _, rfl⟩, fun _ _ _ _ _ c hc => by simp at hc, fun _ _ c hc => by simp at hc, by rw [sum_tab0, Nat.add_zero]⟩

theorem tabC_sz9 : (tabC tab0).size = 576 := by rw [tabC, List.size_toArray, tabL_len tab0_ok]; simp [tab0]

theorem tabS0 : TabS tab0 := fun i _ => by rw [(nT_tab0 i).1]; rfl

/-- The sheet and the table behind so many inodes. -/
def MadeI (W0 : World) (b gT gR : Nat) (room k : Nat) (wx : World) : Prop :=
  ∃ gp T, Play W0 b gp (padW []) T room (700 * k) wx ∧ gp ≠ gT ∧ gp ≠ gR ∧ TabAtV wx gT T ∧ TabE W0 T ∧ TabS T ∧ Blk wx gR (tabC tab0) 31

def MadeP (W0 : World) (e : Ending) (w' : World) : Prop :=
  ∃ b gp T room, e = .returned (.tuple #[.pointer (some ⟨b, 0, none⟩), .agg (tabC T)]) ∧ Play W0 b gp (padW []) T room 22400 w' ∧ TabOk T ∧ T.length = 32 ∧ TabE W0 T ∧ TabS T ∧ Keeps [] W0 w'

theorem results_cell_b {P : Program} {fn : Func} {tmps : Array Value} {a t b : Nat} {ad : Addr} {v x : Value} {w : World} (hfn : fn.results = #[.tmp b, .cell a t]) (ha : tmps.getD a undef = .pointer (some ad)) (hl : (loadVar t ad).run P w = .ok v w)
    (hb : tmps.getD b undef = x) : (results fn tmps).run P w = .ok (.tuple #[x, v]) w := by
  rw [Array.getD_eq_getD_getElem?] at ha hb
  unfold results
  rw [hfn]
  simp [Sem.run_bind, ha, asAddr_ptr, hl, hb]

/-- Put, of a sheet whose words are the table's. -/
theorem made_put {W0 wx : World} {b gp : Nat} {T : List (Ino × Value)} {room m : Nat} (hb : W0.heap.size ≤ b) (hT : TabAt W0) (h : Play W0 b gp (padW []) T room m wx) (hm : m ≤ 600000) (hTl : T.length = 32) {k : Nat} (hk : k < 32) (n : Ino) (v : Value) (g : Nat) (hB : n.B.length = 13) (hfl : filesL n = [])
    (hE : EReads W0 v g n.E) (hN : ∀ k, k < n.E.length → (enm n.E k).size ≤ 9223372036854775807) :
    Calls Tryz.prog 13 #[.pointer (some ⟨b, 0, none⟩), .int .i64 (k : Int), .agg (inoC n v)] wx fun e w' => ∃ r, e = .returned (.int .i64 r) ∧ Keeps [b, gp] wx w' ∧
      ∃ gp', (gp' = gp ∨ wx.heap.size ≤ gp') ∧ ((r = 0 ∧ RightP n ∧ Play W0 b gp' (padW []) (T.set k (n, v)) room (m + 700) w') ∨ (r ≠ 0 ∧ Play W0 b gp' (padW []) T room (m + 700) w')) := by
  obtain ⟨ps, own, h1, h2, h3, h4, h5, h6⟩ := h
  refine (inoPut_at h1 h5.w64 (fun wy hy => turn_tab hT hb h3 h6 hy) h2 (by omega) (k : Int) n v g hB (hE.keep h6 (by simp)) hN (turn_apart hE hb h3)).mono ?_
  rintro e w' ⟨r, qs, gp', rfl, hg, hs, hk', hq, hr⟩
  have hz := hk'.size
  have hz0 := h6.size
  have hkk : Keeps [] W0 w' := h6.trans hk' (by intro y hy; simp only [List.mem_cons, List.not_mem_nil, or_false] at hy; omega)
  refine ⟨r, rfl, hk', gp', by omega, ?_⟩
  rcases play_put9 h5 hTl hk v hB hfl hr with ⟨a1, a2, own', a3⟩ | ⟨a1, own', a3⟩
  · rw [← putAll_append] at a3
    exact .inl ⟨a1, a2, _, own', hs, by omega, by omega, by rw [List.length_append]; omega, a3, hkk⟩
  · rw [← putAll_append] at a3
    exact .inr ⟨a1, _, own', hs, by omega, by omega, by rw [List.length_append]; omega, a3, hkk⟩

set_option maxRecDepth 100000 in
set_option maxHeartbeats 4000000 in
theorem made_at {w : World} {a : Option Addr} {m cap : Nat} {l : List (Ino × Value)} (h : NIns w (.slice a m cap) l) (hT : TabAt w) (hm : m ≤ 32) (hF : ∀ j, j < m → FewE (nT l j)) :
    Calls Tryz.prog 6 #[.slice a m cap] w (MadeP w) := by
  have hml : l.length = m := by
    obtain ⟨-, a', c', e, h1, h2, -⟩ := h
    cases e
    rfl
  have HG : Hid (∀ j, j < m → ∃ g off, a = some ⟨g, off, none⟩ ∧ (nT l j).B.length = 13 ∧ (∃ ge, EReads w (vT l j) ge (nT l j).E) ∧ ∀ wx, Keeps [] w wx → (loadVar 29 ⟨g, off + j * 18, none⟩).run Tryz.prog wx = .ok (.agg (inoC (nT l j) (vT l j))) wx) := fun j hj => h.get (j := j) (by omega)
  have hzt := zero_tab
  have hzi := zero_ino
  have hzn := zero_n13
  have HN0 : Hid (∀ wx, Calls Tryz.prog 12 #[.slice none 0 0] wx (MadeSheet wx (padW []))) := fun wx => txNew_at (ws := []) (g := 0) ⟨none, 0, rfl, Nat.le_refl _, by simp, fun h => absurd rfl h⟩
  have HT := Lib.hid hT
  have HF := Lib.hid hF
  clear h hml hT hF
  obtain ⟨ZT, hZT⟩ : ∃ ZT, tabC tab0 = ZT := ⟨_, rfl⟩
  have HZT := Lib.hid hZT
  have hzt2 : ∀ w : World, (zeroValue 31).run Tryz.prog w = .ok (.agg ZT) w := fun w => by rw [← hZT]; exact hzt w
  clear hzt hZT
  obtain ⟨ZI, hZI⟩ : ∃ ZI, inoC inoZ (.slice none 0 0) = ZI := ⟨_, rfl⟩
  have HZI : Hid (ZI.size = 18) := by show _ = _; rw [← hZI]; rfl
  rw [hZI] at hzi
  clear hZI
  go_enter Tryz.func6, Tryz.ntmps6
  go_wp2_with fail
  refine (HN0.out _).mono ?_; rintro e w2 ⟨b, rfl, hb2, hs2, hk2⟩
  have hbR := (Blk.new w ZT 31).keep hk2 (by simp)
  have hk02 : Keeps [] w w2 := ((Keeps.refl [] w).alloc _).trans' hk2
  have hz2 := hk2.size
  rw [show (w.alloc (.cells ZT 31)).heap.size = w.heap.size + 1 by simp] at hb2 hz2
  have hblt := hs2.raw.lt
  have HI0 : Hid (MadeI w b w2.heap.size w.heap.size (freeL (padW [])).length 0 (w2.alloc (.cells ZT 31))) := by
    refine ⟨b, tab0, ⟨[], fun _ => [], hs2.keep ((Keeps.refl [] w2).alloc _) (by simp) (by simp), by simp; omega, by omega, Nat.le_refl _, play_start0, hk02.alloc _⟩, by omega, by omega, ⟨?_, tab0_ok, by simp [tab0]⟩, fun i hi => ⟨0, by rw [(nT_tab0 i).1, (nT_tab0 i).2]; exact EReads.nil _ _⟩, tabS0, ?_⟩
    · rw [HZT.out]; exact Blk.new w2 _ _
    · rw [HZT.out]; exact hbR.alloc _
  have HBB : Hid (w.heap.size + 1 ≤ b ∧ b < w2.heap.size) := ⟨hb2, hblt⟩
  clear hbR hk02 hz2 hblt hb2 hs2 hk2 HN0
  generalize (freeL (padW [])).length = room at *
  obtain ⟨gT, hgT⟩ : ∃ gT, w2.heap.size = gT := ⟨_, rfl⟩
  rw [hgT] at HBB
  go_wp2_with fail
  rw [hgT] at HI0
  clear hgT
  go_loopg [6] 32 (fun gh s6 wx => ∃ k : Nat, k + gh = 32 ∧ k ≤ m ∧ s6 = .int .i64 (k : Int) ∧ Hid (MadeI w b gT w.heap.size room k wx))
  case atStart => exact ⟨0, rfl, by omega, rfl, HI0.out⟩
  case round =>
    clear HI0
    obtain ⟨k, hk, hkm, rfl, HI⟩ := hrel
    by_cases hlt : k < m
    · obtain ⟨gg, rfl⟩ : ∃ gg, gk = gg + 1 := ⟨gk - 1, by omega⟩
      have hki : (k : Int) < (m : Int) := by omega
      have hk0 : (0 : Int) ≤ (k : Int) := by omega
      have h32 : (k : Int) < 32 := by omega
      have hk32 : k < 32 := by omega
      obtain ⟨g, off, rfl, hB, ⟨ge, hE⟩, hL⟩ := HG.out k hlt
      obtain ⟨gp, T, hpl, hgpT, hgpR, htv, hte, hts, hbr⟩ := HI.out
      have hfe := HF.out k hlt
      have hkw := hpl.keeps.1
      have hbl := hpl.keeps.2.2
      have hgl := hpl.keeps.2.1
      have hgTl := htv.blk.lt
      have hgRl := hbr.lt
      have HL := Lib.hid (hL wr hkw)
      obtain ⟨w3, p1, p2, p3⟩ := store_ino9 (n := nT l k) (v := vT l k) (Blk.new wr ZI 29) HZI.out hB hE.one
      obtain ⟨w4, r1, r2, r3⟩ := store_B (l := List.replicate 13 0) p2 hB (by simp)
      have hk4 : Keeps [] wr w4 := (((Keeps.refl [] wr).alloc _).trans p3 (by intro x hx; rw [List.mem_singleton] at hx; omega)).trans r3 (by intro x hx; rw [List.mem_singleton] at hx; omega)
      have hz4 := hk4.size
      have hB2 : (emp (nT l k)).B.length = 13 := by simp [emp]
      have HS3 := Lib.hid p1
      have HS4 := Lib.hid r1
      have HLN := Lib.hid (load_ino r2 hB2)
      have HPUT := Lib.hid (made_put (k := k) (by have := HBB.out; omega) HT.out (hpl.keep (l := []) hk4 (by simp)) (by omega) htv.len hk32 (emp (nT l k)) (vT l k) ge hB2 (files_emp _) hE (fun j hj => by have := hfe.2 j hj; show (enm (nT l k).E j).size ≤ _; omega))
      have HV4 : Hid (TabAtV w4 gT T ∧ Blk w4 w.heap.size (tabC tab0) 31 ∧ Blk w4 wr.heap.size (inoC (emp (nT l k)) (vT l k)) 29) := ⟨htv.keep hk4 (by simp), hbr.keep hk4 (by simp), r2⟩
      have HX : Hid (TabE w T ∧ TabS T ∧ EReads w (vT l k) ge (emp (nT l k)).E ∧ (emp (nT l k)).B.length = 13 ∧ gp ≠ gT ∧ gp ≠ w.heap.size ∧ b < wr.heap.size ∧ gp < wr.heap.size ∧ gT < wr.heap.size ∧ w.heap.size < wr.heap.size ∧ wr.heap.size < w4.heap.size ∧ w.heap.size + 1 ≤ b ∧ b < gT) := ⟨hte, hts, hE, hB2, hgpT, hgpR, hbl, hgl, hgTl, hgRl, r2.lt, HBB.out.1, HBB.out.2⟩
      have hzn13 : ∀ w : World, (zeroValue 26).run Tryz.prog w = .ok (.agg (zs (List.replicate 13 0)).toArray) w := hzn
      clear hpl hgpT hgpR htv hte hts hbr hfe hkw hbl hgl hgTl hgRl p1 p2 p3 r1 r2 r3 hk4 hz4 hB2 hB hE hL HI hzn
      obtain ⟨n', hn'⟩ : ∃ n', emp (nT l k) = n' := ⟨_, rfl⟩
      have hn2 : ({ nT l k with B := List.replicate 13 0 } : Ino) = n' := hn'
      rw [hn2] at HLN
      rw [hn'] at HPUT HV4 HX
      try rw [hn'] at HLN
      clear hn' hn2
      obtain ⟨Z0, hZ0⟩ : ∃ Z0, inoC (nT l k) (vT l k) = Z0 := ⟨_, rfl⟩
      rw [hZ0] at HL HS3
      clear hZ0
      generalize vT l k = v at *
      obtain ⟨Z1, hZ1⟩ : ∃ Z1, inoC n' v = Z1 := ⟨_, rfl⟩
      have HZ1 := Lib.hid hZ1
      rw [hZ1] at HLN HPUT HV4
      clear hZ1
      generalize (zs (List.replicate 13 0)).toArray = Z13 at *
      go_wp2_with (first | ((with_reducible show wpList _ _ _ (⟨_, .load 29 (.tmp 21), _, _, _, _⟩ :: _) _ _); refine wpList_load_any rfl 29 (.tmp 21) rfl _ rfl _ HL.out ?_) | ((with_reducible show wpList _ _ _ (⟨_, .store 29 (.tmp 7) (.tmp 22), _, _, _, _⟩ :: _) _ _); refine wpList_store_any rfl 29 (.tmp 7) (.tmp 22) rfl _ rfl _ rfl _ HS3.out ?_) | ((with_reducible show wpList _ _ _ (⟨_, .store 26 (.tmp 24) (.tmp 23), _, _, _, _⟩ :: _) _ _); refine wpList_store_any rfl 26 (.tmp 24) (.tmp 23) rfl _ rfl _ rfl _ HS4.out ?_) | ((with_reducible show wpList _ _ _ (⟨_, .load 29 (.tmp 7), _, _, _, _⟩ :: _) _ _); refine wpList_load_any rfl 29 (.tmp 7) rfl _ rfl _ HLN.out ?_))
      refine HPUT.out.mono ?_; rintro e w5 ⟨r, rfl, hk5, gp', hgp', hpp⟩
      obtain ⟨x1, x2, x3, x4, x5, x6, x7, x8, x9, x10, x11, x12, x13⟩ := HX.out
      have hz5 := hk5.size
      have htv5 := HV4.out.1.keep hk5 (by simp only [List.mem_cons, List.not_mem_nil, or_false]; omega)
      have hbr5 := HV4.out.2.1.keep hk5 (by simp only [List.mem_cons, List.not_mem_nil, or_false]; omega)
      have hbi5 := HV4.out.2.2.keep hk5 (by simp only [List.mem_cons, List.not_mem_nil, or_false]; omega)
      rcases hpp with ⟨rfl, hR, hp5⟩ | ⟨hr, hp5⟩
      · have HL5 : Hid ((loadVar 29 ⟨wr.heap.size, 0, none⟩).run Tryz.prog w5 = .ok (.agg Z1) w5) := by
          rw [← HZ1.out] at hbi5 ⊢
          exact load_ino hbi5 x4
        obtain ⟨w6, s1, s2, s3⟩ := htv5.storeI hk32 (n := n') (v := v) x4 x3.one
        rw [HZ1.out] at s1
        have HS6 := Lib.hid s1
        have HN : Hid (MadeI w b gT w.heap.size room (k + 1) w6) := by
          refine ⟨gp', T.set k (n', v), ?_, by omega, by omega, s2, x1.set (by rw [htv5.len]; exact hk32) ⟨_, x3⟩, x2.set (by rw [htv5.len]; exact hk32) v (by have := hR.1; omega), hbr5.keep s3 (by rw [List.mem_singleton]; omega)⟩
          have := hp5.keep s3 (by intro z hz; rw [List.mem_singleton] at hz; omega)
          rwa [show 700 * k + 700 = 700 * (k + 1) by omega] at this
        clear x1 x2 x3 x4 x5 x6 x7 x8 x9 x10 x11 x12 x13 hz5 htv5 hbr5 hbi5 hR hp5 s1 s2 s3 HX HV4 hk5 hgp' HPUT HLN HS4 HS3 HL
        go_wp2_with (first | ((with_reducible show wpList _ _ _ (⟨_, .load 29 (.tmp 7), _, _, _, _⟩ :: _) _ _); refine wpList_load_any rfl 29 (.tmp 7) rfl _ rfl _ HL5.out ?_) | ((with_reducible show wpList _ _ _ (⟨_, .store 29 (.tmp 32) (.tmp 31), _, _, _, _⟩ :: _) _ _); refine wpList_store_any rfl 29 (.tmp 32) (.tmp 31) rfl _ rfl _ rfl _ HS6.out ?_))
        go_roundg gg
        case measure => omega
        case rel => exact ⟨k + 1, by omega, by omega, by go_num, HN.out⟩
      · have hrb : (r == 0) = false := by simpa using hr
        have HN : Hid (MadeI w b gT w.heap.size room (k + 1) w5) := by
          refine ⟨gp', T, ?_, by omega, by omega, htv5, x1, x2, hbr5⟩
          rwa [show 700 * k + 700 = 700 * (k + 1) by omega] at hp5
        clear x1 x2 x3 x4 x5 x6 x7 x8 x9 x10 x11 x12 x13 hz5 htv5 hbr5 hbi5 hr hp5 HX HV4 hk5 hgp' HPUT HLN HS4 HS3 HL
        go_wp2_with fail
        go_roundg gg
        case measure => omega
        case rel => exact ⟨k + 1, by omega, by omega, by go_num, HN.out⟩
    · have hki : ¬ (k : Int) < (m : Int) := by omega
      obtain ⟨gp, T, hpl, hgpT, hgpR, htv, hte, hts, hbr⟩ := HI.out
      have hkw := hpl.keeps.1
      have hgl := hpl.keeps.2.1
      have hgTl := htv.blk.lt
      have hgRl := hbr.lt
      have HLT : Hid (∀ wx, Keeps [] wr wx → (loadVar 31 ⟨gT, 0, none⟩).run Tryz.prog wx = .ok (.agg (tabC T)) wx) := fun wx hk => (htv.keep hk (by simp)).load
      have HST : Hid (∀ wx, Keeps [] wr wx → ∃ w', (storeVar 31 ⟨w.heap.size, 0, none⟩ (.agg (tabC T))).run Tryz.prog wx = .ok () w' ∧ (loadVar 31 ⟨w.heap.size, 0, none⟩).run Tryz.prog w' = .ok (.agg (tabC T)) w' ∧ MadeP w (.returned (.tuple #[.pointer (some ⟨b, 0, none⟩), .agg (tabC T)])) w') := fun wx hkx => by
        obtain ⟨w', q1, q2, q3⟩ := store_tab (hbr.keep hkx (by simp)) tabC_sz9 htv.ok htv.len
        refine ⟨w', q1, q2.load, b, gp, T, room, rfl, ?_, htv.ok, htv.len, hte, hts, (hkw.trans' hkx).trans q3 (by intro z hz; rw [List.mem_singleton] at hz; omega)⟩
        obtain ⟨ps, own, h1, h2, h3, h4, h5, h6⟩ := (hpl.keep (l := []) hkx (by simp)).keep q3 (by intro z hz; rw [List.mem_singleton] at hz; have := HBB.out; omega)
        exact ⟨ps, own, h1, h2, h3, by omega, h5, h6⟩
      clear hpl hgpT hgpR htv hte hts hbr hkw hgl hgTl hgRl HI
      generalize tabC T = ZF at *
      go_wp2_with fail
      refine wp_region_last (l := [_, _, _]) (o := _) (S := fun wx => Keeps [] wr wx) (by kernel_rfl) rfl (by kernel_rfl) (fun d _ _ _ _ h => by cases d <;> exact h) ((Keeps.refl _ _).drew) (by kernel_rfl) (by kernel_rfl) ?_
      repeat (first
        | (refine EachList.cons (.agg ZF) (EachIf.load rfl 31 (.tmp 5) rfl _ rfl fun wx hx => HLT.out wx hx) ?_; simp only [Act.put, List.setIfInBounds_toArray, List.set_cons_zero, List.set_cons_succ])
        | (refine EachList.cons ?_ (EachIf.val rfl ?h) ?_; (case h => (intro wx hx; clear hx; go_simp; rfl)); simp only [Act.put, List.setIfInBounds_toArray, List.set_cons_zero, List.set_cons_succ]))
      refine EachList.done fun wx hx => ?_
      obtain ⟨w9, q1, q2, q3⟩ := HST.out wx hx
      refine wpList_store_any rfl 31 (.tmp 3) (.tmp 34) rfl _ rfl _ rfl _ q1 ?_
      have HL9 := Lib.hid q2
      have HF9 := Lib.hid q3
      clear q1 q2 q3 hx HST HLT
      go_wp2_with fail
      exact bodyPost_ret (results_cell_b Tryz.results6 rfl HL9.out rfl) rfl HF9.out

end Go.Proofs.YtlfkodlnhfdgjaaGreatDoor

namespace Go.Proofs.YtlfkodlnhfdgjaaGreatDoor
open Go.RowKit

theorem NIns.keep {W W' : World} {v : Value} {l : List (Ino × Value)} (h : NIns W v l) (hk : Keeps [] W W') : NIns W' v l := by
  obtain ⟨h1, a, cap, rfl, h2, h3, h4⟩ := h
  refine ⟨fun p hp => ?_, a, cap, rfl, h2, h3, fun h0 => ?_⟩
  · obtain ⟨q1, g, q2⟩ := h1 p hp
    exact ⟨q1, g, q2.keep hk (by simp)⟩
  · obtain ⟨g, off, e, hg, hc⟩ := h4 h0
    exact ⟨g, off, e, Nat.lt_of_lt_of_le hg hk.size, fun j hj c hcc => (World.cell?_of_block (hk.block g hg (by simp))).trans (hc j hj c hcc)⟩

theorem Play.pos {W0 wx : World} {b gp : Nat} {B : List Int} {T : List (Ino × Value)} {room m : Nat} (h : Play W0 b gp B T room m wx) : ∀ i : Nat, i < 32 → 0 ≤ (nT T i).F := fun i hi => by
  obtain ⟨ps, own, h1, h2, h3, h4, h5, h6⟩ := h
  rcases h5.each i hi with ⟨e, -⟩ | ⟨e, -⟩ <;> omega

set_option maxRecDepth 100000 in
set_option maxHeartbeats 4000000 in
theorem treeBelow_at {w : World} {a : Option Addr} {m cap : Nat} {l : List (Ino × Value)} (h : NIns w (.slice a m cap) l) (hT : TabAt w) (d i : Int) :
    Calls Tryz.prog 3 #[.slice a m cap, .int .i64 d, .int .i64 i] w fun e w' => e = .returned (.bool true) ∧ Keeps [] w w' := by
  have hml : l.length = m := by
    obtain ⟨-, a', c', e, h1, h2, -⟩ := h
    cases e
    rfl
  have HAW := Lib.hid awake9_at
  have HFW : Hid (∀ wx, Keeps [] w wx → Calls Tryz.prog 5 #[.slice a m cap] wx (FewsPost wx l)) := fun wx hk => few9_at (h.keep hk)
  have HMD : Hid (∀ wx, Keeps [] w wx → (l.length ≤ 32 ∧ ∀ j, j < l.length → FewE (nT l j)) → Calls Tryz.prog 6 #[.slice a m cap] wx (MadeP wx)) := fun wx hk hf => made_at (h.keep hk) (hT.keep hk) (by omega) (fun j hj => hf.2 j (by omega))
  have hzt := zero_tab
  obtain ⟨ZT, hZT⟩ : ∃ ZT, tabC tab0 = ZT := ⟨_, rfl⟩
  have hzt2 : ∀ w : World, (zeroValue 31).run Tryz.prog w = .ok (.agg ZT) w := fun w => by rw [← hZT]; exact hzt w
  have HZT : Hid (ZT.size = 576) := by show _ = _; rw [← hZT]; exact tabC_sz9
  clear hzt hZT h hT hml
  go_enter Tryz.func3, Tryz.ntmps3
  go_wp2_with fail
  refine (HAW.out _).mono ?_; rintro e w1 ⟨rfl, hk1⟩
  have HK1 := Lib.hid hk1
  have HF1 := Lib.hid (HFW.out w1 hk1)
  clear hk1 HFW
  go_wp2_with fail
  refine HF1.out.mono ?_; rintro e w2 ⟨fb, rfl, hfb, hk2⟩
  have HK2 := Lib.hid (HK1.out.trans' hk2)
  have HFB := Lib.hid hfb
  clear hk2 hfb HF1 HK1
  cases fb
  · clear HFB HMD
    go_wp2_with fail
    refine (HAW.out _).mono ?_; rintro e w3 ⟨rfl, hk3⟩
    have HK3 := Lib.hid (HK2.out.trans' hk3)
    clear hk3
    go_wp2_with fail
    go_ret
    exact ⟨rfl, HK3.out⟩
  · have HM2 := Lib.hid (HMD.out w2 HK2.out (HFB.out rfl))
    clear HMD HFB
    go_wp2_with fail
    refine HM2.out.mono ?_; rintro e w3 ⟨b, gp, T, room, rfl, hpl, hok, hlen, hte, hts, hk3⟩
    obtain ⟨w4, q1, q2, q3⟩ := store_tab (Blk.new w3 ZT 31) HZT.out hok hlen
    have hk4 : Keeps [] w3 w4 := ((Keeps.refl [] w3).alloc _).trans q3 (by intro x hx; rw [List.mem_singleton] at hx; omega)
    have hN : TabN T := tab_n hts hpl.right.1 hpl.pos
    have HK4 := Lib.hid ((HK2.out.trans' hk3).trans' hk4)
    obtain ⟨pB, hpB⟩ : ∃ pB : Bool, (pB = true ↔ Reach T d i) := by
      by_cases hr : Reach T d i
      · exact ⟨true, fun _ => hr, fun _ => rfl⟩
      · exact ⟨false, (fun h => by cases h), fun h => absurd h hr⟩
    have HBE : Hid (∀ wx, Keeps [] w4 wx → Calls Tryz.prog 7 #[.pointer (some ⟨b, 0, none⟩), .int .i64 d, .int .i64 i] wx fun e w' => e = .returned (.bool pB) ∧ Keeps [] wx w') := fun wx hk => by
      refine (below_at (hpl.keep (l := []) (hk4.trans' hk) (by simp)) hts hN d i).mono ?_
      rintro e w' ⟨r, rfl, hr, hkr⟩
      exact ⟨by rw [Bool.eq_iff_iff.2 (hr.trans hpB.symm)], hkr⟩
    have HRB : Hid (∀ wx, Keeps [] w4 wx → Calls Tryz.prog 8 #[.agg (tabC T), .int .i64 d, .int .i64 i] wx fun e w' => e = .returned (.bool pB) ∧ Keeps [] wx w') := fun wx hk => by
      refine (refBelow_at hok hlen (hte.keep ((hk3.trans' hk4).trans' hk)) hN d i).mono ?_
      rintro e w' ⟨r, rfl, hr, hkr⟩
      exact ⟨by rw [Bool.eq_iff_iff.2 (hr.trans hpB.symm)], hkr⟩
    have HLT : Hid (∀ wx, Keeps [] w4 wx → (loadVar 31 ⟨w3.heap.size, 0, none⟩).run Tryz.prog wx = .ok (.agg (tabC T)) wx) := fun wx hk => (q2.keep hk (by simp)).load
    have HS4 := Lib.hid q1
    clear hpl hok hlen hte hts hk3 q1 q2 q3 hk4 hN hpB HM2 HK2
    generalize tabC T = ZF at *
    go_wp2_with ((with_reducible show wpList _ _ _ (⟨_, .store 31 (.tmp 8) (.tmp 21), _, _, _, _⟩ :: _) _ _); refine wpList_store_any rfl 31 (.tmp 8) (.tmp 21) rfl _ rfl _ rfl _ HS4.out ?_)
    generalize w3.heap.size = gt at *
    refine wp_region_each (S := fun wx => Keeps [] w4 wx) (by kernel_rfl) (by kernel_rfl) (fun d _ _ _ _ h => by cases d <;> exact h) ((Keeps.refl _ _).drew) (by kernel_rfl) ?_
    repeat (first
      | (refine EachList.cons (.bool pB) (EachIf.call rfl 7 #[.pointer (some ⟨b, 0, none⟩), .int .i64 d, .int .i64 i] ?he ?h) ?_; (case he => (intro wz; go_simp)); (case h => exact fun wx hx => (HBE.out wx hx).mono fun e w' he => ⟨he.1, hx.trans' he.2⟩); simp only [Act.put, List.setIfInBounds_toArray, List.set_cons_zero, List.set_cons_succ])
      | (refine EachList.cons (.bool pB) (EachIf.call rfl 8 #[.agg ZF, .int .i64 d, .int .i64 i] ?he ?h) ?_; (case he => (intro wz; go_simp)); (case h => exact fun wx hx => (HRB.out wx hx).mono fun e w' he => ⟨he.1, hx.trans' he.2⟩); simp only [Act.put, List.setIfInBounds_toArray, List.set_cons_zero, List.set_cons_succ])
      | (refine EachList.cons (.agg ZF) (EachIf.load rfl 31 (.tmp 8) rfl _ rfl fun wx hx => HLT.out wx hx) ?_; simp only [Act.put, List.setIfInBounds_toArray, List.set_cons_zero, List.set_cons_succ])
      | ((with_reducible show EachList _ _ _ _ (⟨some 30, _, _, _, _, _⟩ :: _) _); refine EachList.cons (.bool true) (EachIf.val rfl ?h) ?_; (case h => (intro wx hx; clear hx; first | (go_simp; done) | (go_simp; simp; done))); simp only [Act.put, List.setIfInBounds_toArray, List.set_cons_zero, List.set_cons_succ])
      | (refine EachList.cons ?_ (EachIf.val rfl ?h) ?_; (case h => (intro wx hx; clear hx; go_simp; rfl)); simp only [Act.put, List.setIfInBounds_toArray, List.set_cons_zero, List.set_cons_succ]))
    refine EachList.done fun wx hx => ?_
    have HKX := Lib.hid (HK4.out.trans' hx)
    clear hx
    go_wp2_with fail
    go_ret
    exact ⟨rfl, HKX.out⟩

end Go.Proofs.YtlfkodlnhfdgjaaGreatDoor
