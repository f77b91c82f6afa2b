/-
  Layer 9: an inode put over the table's words; slices.Contains; Below. Layer 9: Below, over a sheet whose words are a table's. Layer 9, the reference: Below. An array of thirteen numbers as an argument is read. An inode (api.Inode), and a list of its entries, as an argument is read; so pairs. Operations on inodes, as an argument is read. Layer 6: the laws' sheet. A region that draws its order: operations whose values are known ahead come in whatever order, beside a chain of last ones (a call, whose answer is known only when it was made, and what asks of it). Nothing of the program is named here.
-/
import Derived.Test.YtlfkodlnhfdgjaaGreatDoorG17
import Derived.Deep.LoopGhost
import Derived.Test.YtlfkodlnhfdgjaaGreatDoorG01
import Derived.Test.YtlfkodlnhfdgjaaGreatDoorG14
import Derived.Test.YtlfkodlnhfdgjaaGreatDoorG00
import Derived.Test.YtlfkodlnhfdgjaaGreatDoorG02
import Derived.Test.YtlfkodlnhfdgjaaGreatDoorG09
import Derived.Test.YtlfkodlnhfdgjaaGreatDoorG08
import Derived.Test.YtlfkodlnhfdgjaaGreatDoorG07
namespace Go.Proofs.YtlfkodlnhfdgjaaGreatDoor
open Go.RowKit

/-- Put, over words that are the table's: they are the table's again. -/
theorem play_put9 {X : List Int} {T : List (Ino × Value)} {own : Nat → List Nat} {room : Nat} (h : PlayP X T own room) (hT : T.length = 32) {j : Nat} (hj : j < 32) {n : Ino} (v : Value) (hB : n.B.length = 13) (hfl : filesL n = []) {r : Int} {qs : List (Int × Int)}
    (hp : PutR X (j : Int) n r qs) : (r = 0 ∧ RightP n ∧ ∃ own', PlayP (putAll X qs) (T.set j (n, v)) own' room) ∨ (r ≠ 0 ∧ ∃ own', PlayP (putAll X qs) T own' room) := by
  have hi : (0 : Int) ≤ (j : Int) ∧ (j : Int) < 32 := by omega
  have hg := h.give hj
  have hcase : (r = 1 ∧ ¬ RightP n ∧ qs = []) ∨ (r = 7 ∧ RightP n ∧ (freeL (putAll X (givePs X (own j)))).length < needA n ∧ qs = []) ∨ (r = 0 ∧ RightP n ∧ needA n ≤ (freeL (putAll X (givePs X (own j)))).length ∧ qs = putPs X j n (own j)) := by
    rcases h.each j hj with ⟨-, g2, g3⟩ | ⟨-, g2, -⟩
    · rw [g3]
      have := hp.free hi g2
      rwa [Int.toNat_natCast] at this
    · have := hp.over g2
      rwa [Int.toNat_natCast] at this
  rcases hcase with ⟨rfl, -, rfl⟩ | ⟨rfl, -, -, rfl⟩ | ⟨rfl, hR, g, rfl⟩
  · exact .inr ⟨by decide, own, h⟩
  · exact .inr ⟨by decide, own, h⟩
  · have he := put_eff (i := (j : Int)) (own := own j) h.w64 h.len hB hi hR g
    rw [Int.toNat_natCast] at he
    exact .inl ⟨rfl, hR, _, h.put hT hj v hR hfl he⟩

theorem zs_getD {l : List Int} {j : Nat} (h : j < l.length) : (zs l)[j]? = some (.int .i64 (l.getD j 0)) := zs_get h

def IndexPost (w : World) (px : Prop) (e : Ending) (w' : World) : Prop := ∃ r : Int, e = .returned (.int .i64 r) ∧ w = w' ∧ (0 ≤ r ↔ px)

set_option maxRecDepth 100000 in
set_option maxHeartbeats 1000000 in
theorem index_at {w : World} {a : Option Addr} {cap g : Nat} {l : List Int} (x : Int) (hR : Reads w (.slice a l.length cap) g (zs l)) :
    Calls Tryz.prog 30 #[.slice a l.length cap, .int .i64 x] w (IndexPost w (x ∈ l)) := by
  have HC : Hid (∀ j, j < l.length → ∃ off, a = some ⟨g, off, none⟩ ∧ w.cell? ⟨g, off + j, none⟩ = some (.int .i64 (l.getD j 0))) := fun j hj => by
    obtain ⟨a', cap', hv, -, -, h3⟩ := hR
    injection hv with e1 e2 e3
    have hne : zs l ≠ [] := fun e => by have := congrArg List.length e; rw [zs_len, List.length_nil] at this; omega
    obtain ⟨-, off, h5, h6⟩ := h3 hne
    exact ⟨off, by rw [e1]; exact h5, by rw [h6 j (by rw [zs_len]; exact hj), zs_getD hj]⟩
  have hmx : l.length ≤ maxLen := by
    obtain ⟨a', cap', hv, h1, h2, -⟩ := hR
    rw [zs_len] at h1
    omega
  have HM : Hid (∀ j, j < l.length → l.getD j 0 = x → x ∈ l) := fun j hj e => by
    rw [← e, List.getD_eq_getElem?_getD, List.getElem?_eq_getElem hj]
    exact List.getElem_mem hj
  have HN : Hid ((∀ j, j < l.length → l.getD j 0 ≠ x) → ¬ x ∈ l) := fun h hm => by
    obtain ⟨j, hj, e⟩ := List.getElem_of_mem hm
    exact h j hj (by rw [List.getD_eq_getElem?_getD, List.getElem?_eq_getElem hj]; exact e)
  unfold maxLen at hmx
  clear hR
  generalize hm : l.length = m at *
  clear hm
  have HP0 : Hid (∀ r : Int, (0 ≤ r ↔ x ∈ l) → IndexPost w (x ∈ l) (.returned (.int .i64 r)) w) := fun r h => ⟨r, rfl, rfl, h⟩
  generalize hxl : (x ∈ l) = px at *
  clear hxl
  go_enter Tryz.func30, Tryz.ntmps30
  go_wp2_with fail
  go_loopg [8] m (fun gh s8 wx => ∃ k : Nat, k + gh = m ∧ s8 = .int .i64 (k : Int) ∧ w = wx ∧ Hid (∀ j, j < k → l.getD j 0 ≠ x))
  case atStart => exact ⟨0, by omega, rfl, rfl, fun j hj => by omega⟩
  case round =>
    obtain ⟨k, hk, rfl, rfl, HP⟩ := hrel
    cases gk with
    | zero =>
      obtain rfl : k = m := by omega
      have HF := Lib.hid (HP0.out (-1) ⟨fun h => by omega, fun h => absurd h (HN.out HP.out)⟩)
      clear HC HM HN HP HP0
      go_wp2_with fail
      go_ret
      exact HF.out
    | succ gg =>
      have hlt : (k : Int) < (m : Int) := by omega
      have hk0 : (0 : Int) ≤ (k : Int) := by omega
      have hkm : k < m := by omega
      obtain ⟨off, rfl, c0⟩ := HC.out k hkm
      by_cases he : l.getD k 0 = x
      · have HF := Lib.hid (HP0.out (k : Int) ⟨fun _ => HM.out k hkm he, fun _ => hk0⟩)
        have hb : (x == l.getD k 0) = true := by rw [he]; simp
        clear HC HM HN HP HP0 he
        generalize l.getD k 0 = y at *
        go_wp2_with fail
        go_ret
        exact HF.out
      · have HP2 : Hid (∀ j, j < k + 1 → l.getD j 0 ≠ x) := fun j hj => by
          by_cases e : j = k
          · rw [e]; exact he
          · exact HP.out j (by omega)
        have hb : (x == l.getD k 0) = false := by rw [beq_eq_false_iff_ne]; exact fun e => he e.symm
        clear HC HM HN HP HP0 he
        generalize l.getD k 0 = y at *
        go_wp2_with fail
        go_roundg gg
        case measure => omega
        case rel => exact ⟨k + 1, by omega, by go_num, rfl, HP2.out⟩

set_option maxHeartbeats 1000000 in
theorem contains_at {w : World} {a : Option Addr} {cap g : Nat} {l : List Int} (x : Int) (hR : Reads w (.slice a l.length cap) g (zs l)) :
    Calls Tryz.prog 15 #[.slice a l.length cap, .int .i64 x] w fun e w' => e = .returned (.bool (decide (x ∈ l))) ∧ w = w' := by
  have HI := Lib.hid (index_at x hR)
  clear hR
  generalize l.length = m at *
  go_enter Tryz.func15, Tryz.ntmps15
  go_wp2_with fail
  refine HI.out.mono ?_; rintro e w' ⟨r, rfl, rfl, hr⟩
  have HR := Lib.hid hr
  clear hr
  go_wp2_with fail
  go_ret
  refine ⟨?_, rfl⟩
  show Ending.returned (.bool (decide (0 ≤ r))) = _
  rw [decide_eq_decide.2 HR.out]

end Go.Proofs.YtlfkodlnhfdgjaaGreatDoor

namespace Go.Proofs.YtlfkodlnhfdgjaaGreatDoor
open Go.RowKit

/-- Where the row lies behind an append: where it lay, or in a new block. -/
theorem append_block {P : Program} {w : World} (base : Nat) (t ty e : TypeId) (i : TypeInfo) (z : Value) (size bytes : Nat) (ht : P.underlying t = some (.slice e)) (hi : P.info? e = some i) (hz : i.zero = some z)
    (hsize : i.size = size) (hby : i.bytes = bytes) (hsz : 0 < size) (g n cap : Nat) (xs : List Value) (hown : w.ownsRow base e size (.slice (some ⟨g, 0, none⟩) n cap) n xs)
    (a : Addr) (m c : Nat) (news : List Value) (hl : news.length = m * size) (hnews : ∀ j u, news[j]? = some u → w.cell? (a.add j) = some u) (h1 : ∀ u ∈ news, u.oneCell' = true)
    (h63 : n + m ≤ maxLen) (hbytes : (n + m) * bytes ≤ 140737488355328) {v' : Value} {w' : World} (hr : (Builtin.append_ #[t, t] ty #[.slice (some ⟨g, 0, none⟩) n cap, .slice (some a) m c]).run P w = .ok v' w') :
    v'.ownBlock = some g ∨ v'.ownBlock = some w.heap.size := by
  subst hsize
  subst hby
  have hsmall : n + m ≤ 9223372036854775807 := by simp only [maxLen] at h63; omega
  have holds : ∀ j u, xs[j]? = some u → w.cell? ((⟨g, 0, none⟩ : Addr).add j) = some u := hown.cells (g := g) rfl
  rcases hown.2 with ⟨h, -⟩ | ⟨g', cap', cur, hv, hbg, hg, hnc, hcm, hcs, htake⟩
  · cases h
  · cases hv
    by_cases hroom : n + m ≤ cap
    · have hfit : n * i.size + news.length ≤ cur.size := by rw [hl, hcs, ← Nat.add_mul]; exact Nat.mul_le_mul_right _ hroom
      have hr2 := run_append_room (P := P) w t ty e i ht hi g n cap cur hg a m c news hl hnews h1 hroom hfit
      rw [hr] at hr2
      injection hr2 with e1 e2
      rw [e1]
      exact .inl rfl
    · have hr2 := run_append_grow (P := P) w t ty e i z ht hi hz ⟨g, 0, none⟩ n cap xs hown.1 holds a m c news hl hnews (by omega) (by omega) (growslice_fits (by omega) hbytes)
      rw [hr] at hr2
      injection hr2 with e1 e2
      rw [e1]
      exact .inr rfl

theorem getT_succ {T : List (Ino × Value)} (hS : TabS T) {x : Int} {n : Ino} {c : Nat} {r : Int} (h : GetT T x n c r) : n.E.map (·.2) = succL T x := by
  unfold succL
  rcases h with ⟨h1, -, rfl, -⟩ | ⟨h1, h2, -, rfl, -⟩ | ⟨h1, h2, -, rfl, -⟩
  · rw [if_neg h1]; rfl
  · rw [if_pos h1, hS _ h2]; rfl
  · rw [if_pos h1]

theorem play_get9 {W0 wx : World} {b gp : Nat} {B : List Int} {T : List (Ino × Value)} {room m : Nat} (h : Play W0 b gp B T room m wx) (i : Int) :
    Calls Tryz.prog 14 #[.pointer (some ⟨b, 0, none⟩), .int .i64 i] wx fun e w' => ∃ n v g a c cap r, e = .returned (.tuple #[.agg (inoC n v), .slice a c cap, .int .i64 r]) ∧ n.B.length = 13 ∧ EReads w' v g n.E ∧ wx.heap.size ≤ g ∧ GetT T i n c r ∧ Keeps [] wx w' := by
  obtain ⟨ps, own, h1, h2, h3, h4, h5, h6⟩ := h
  refine (get_at h1 h5.w64 i).mono ?_
  rintro e w' ⟨n, v, g, own', va, ga, r, rfl, hB, hE, hg, hO, hga, hk, hr⟩
  obtain ⟨a, cap, rfl, -, -, -⟩ := hO.reads
  refine ⟨n, v, g, a, _, cap, r, rfl, hB, hE, hg, ?_, hk⟩
  rw [i64s_len]
  rcases hr with ⟨rfl, g1, rfl, rfl⟩ | ⟨rfl, g1, g2, rfl, rfl⟩ | ⟨rfl, g1, g2, g3, -⟩ | ⟨rfl, g1⟩
  · exact .inl ⟨g1, rfl, rfl, rfl⟩
  · obtain ⟨j, rfl⟩ := Int.eq_ofNat_of_zero_le g1.1
    rcases h5.each j (by omega) with ⟨e1, -⟩ | ⟨-, e2, -⟩
    · exact .inr (.inl ⟨g1, by rw [Int.toNat_natCast]; exact e1, rfl, rfl, rfl⟩)
    · exact absurd g2 e2.notFree
  · obtain ⟨j, rfl⟩ := Int.eq_ofNat_of_zero_le g1.1
    rcases h5.each j (by omega) with ⟨-, e2, -⟩ | ⟨-, e2, -⟩
    · exact absurd e2 g2
    · exact absurd e2 (g3 _ _)
  · have hrg := g1.rng
    obtain ⟨j, rfl⟩ := Int.eq_ofNat_of_zero_le hrg.1
    rcases h5.each j (by omega) with ⟨-, e2, -⟩ | ⟨e1, e2, -⟩
    · exact absurd e2 g1.notFree
    · obtain ⟨rfl, rfl⟩ := e2.uniq g1
      exact .inr (.inr ⟨hrg, by rw [Int.toNat_natCast]; exact e1, rfl, by rw [Int.toNat_natCast], e2.ownLen⟩)

def BelowPost (w : World) (p : Prop) (e : Ending) (w' : World) : Prop := ∃ r : Bool, e = .returned (.bool r) ∧ (r = true ↔ p) ∧ Keeps [] w w'

theorem zero_entry9 (w : World) : (zeroValue 39).run Tryz.prog w = .ok (.agg #[.string ⟨#[]⟩, .int .i64 0]) w := by kernel_rfl

theorem store_entry9 {w : World} {g T : Nat} {cur : Array Value} (s : ByteArray) (y : Int) (hb : Blk w g cur T) (hc : cur.size = 2) :
    ∃ w', (storeVar 39 ⟨g, 0, none⟩ (.agg #[.string s, .int .i64 y])).run Tryz.prog w = .ok () w' ∧ Blk w' g #[.string s, .int .i64 y] T ∧ Keeps [g] w w' :=
  store_whole (P := Tryz.prog) (ty := 39) (cs := [.string s, .int .i64 y]) size_entry hb (by rw [hc]; rfl) (by intro u hu; simp only [List.mem_cons, List.not_mem_nil, or_false] at hu; rcases hu with rfl | rfl <;> rfl)

set_option maxRecDepth 100000 in
set_option maxHeartbeats 4000000 in
theorem below_at {W0 w : World} {b gp : Nat} {B : List Int} {T : List (Ino × Value)} {room m : Nat} (h : Play W0 b gp B T room m w) (hS : TabS T) (hN : TabN T) (d i : Int) :
    Calls Tryz.prog 7 #[.pointer (some ⟨b, 0, none⟩), .int .i64 d, .int .i64 i] w (BelowPost w (Reach T d i)) := by
  have HG : Hid (∀ x wx, Keeps [] w wx → Calls Tryz.prog 14 #[.pointer (some ⟨b, 0, none⟩), .int .i64 x] wx fun e w' => ∃ n v g a c cap r, e = .returned (.tuple #[.agg (inoC n v), .slice a c cap, .int .i64 r]) ∧ n.B.length = 13 ∧ EReads w' v g n.E ∧ wx.heap.size ≤ g ∧ n.E.map (·.2) = succL T x ∧ Keeps [] wx w') := fun x wx hk => by
    refine (play_get9 (h.keep (l := []) hk (by simp)) x).mono ?_
    rintro e w' ⟨n, v, g, a, c, cap, r, rfl, h1, h2, h3, h4, h5⟩
    exact ⟨n, v, g, a, c, cap, r, rfl, h1, h2, h3, getT_succ hS h4, h5⟩
  have HBL : Hid (∀ R k, BInv T d i R k → R.length ≤ 33) := fun R k hb => hb.len hN
  obtain ⟨i0, hi, hy0, hy1, hy2⟩ := info_parts Tryz.info_int
  have HST : Hid ((w.alloc (.cells #[.int .i64 d] 3)).ownsRow w.heap.size 3 1 (.slice (some ⟨w.heap.size, 0, none⟩) 1 1) 1 (zs [d])) :=
    ⟨rfl, .inr ⟨w.heap.size, 1, #[.int .i64 d], rfl, Nat.le_refl _, Blk.new w _ _, Nat.le_refl _, by unfold maxLen; omega, rfl, rfl⟩⟩
  have HB0 := Lib.hid (BInv.start T d i)
  have HLE : Hid (∀ R k, BInv T d i R k → k ≤ R.length) := fun R k h1 => h1.le
  have HFN : Hid (∀ R k x, BInv T d i R k → R[k]? = some x → x = i → Reach T d i) := fun R k x h1 h2 h3 => h1.found h2 h3
  have HEN : Hid (∀ R k, BInv T d i R k → k = R.length → ¬ Reach T d i) := fun R k h1 h2 => h1.ended h2
  have HMO : Hid (∀ R k x y, BInv T d i R k → R[k]? = some x → y ∈ succL T x → y ∉ R → BInv T d i (R ++ [y]) k ∧ (R ++ [y])[k]? = some x) := fun R k x y h1 h2 h3 h4 => h1.more h2 h3 h4
  have HNX : Hid (∀ R k x, BInv T d i R k → R[k]? = some x → x ≠ i → (∀ y ∈ succL T x, y ∈ R) → BInv T d i R (k + 1)) := fun R k x h1 h2 h3 h4 => h1.next h2 h3 h4
  have HBP : Hid (∀ r w', (r = true ↔ Reach T d i) → Keeps [] w w' → BelowPost w (Reach T d i) (.returned (.bool r)) w') := fun r w' h1 h2 => ⟨r, rfl, h1, h2⟩
  have hzv := zero_ino
  obtain ⟨Z0, hZ0⟩ : ∃ Z0, inoC inoZ (.slice none 0 0) = Z0 := ⟨_, rfl⟩
  have HZZ : Hid (Z0.size = 18) := by show _ = _; rw [← hZ0]; rfl
  rw [hZ0] at hzv
  have hze := zero_entry9
  clear hZ0 h hS hN
  generalize hRe : Reach T d i = pR at *
  generalize hbi : BInv T d i = bI at *
  generalize succL T = sL at *
  clear hRe hbi
  go_enter Tryz.func7, Tryz.ntmps7
  go_wp2_with fail
  go_loopg [7, 8] 33 (fun gh s7 s8 wz => ∃ (R : List Int) (k : Nat), s8 = .int .i64 (k : Int) ∧ k + gh = 33 ∧ Hid (bI R k ∧ wz.ownsRow w.heap.size 3 1 s7 R.length (zs R) ∧ Keeps [] w wz ∧ R ≠ []))
  case atStart => exact ⟨[d], 0, rfl, rfl, HB0.out, HST.out, (Keeps.refl _ _).alloc _, by simp⟩
  case round =>
    clear HST HB0
    obtain ⟨R, k, rfl, hk, HP⟩ := hrel
    obtain ⟨gR, ho, hgR⟩ := Owns.of_row HP.out.2.1
    have hne : R.length ≠ 0 := fun e => HP.out.2.2.2 (List.eq_nil_of_length_eq_zero e)
    obtain ⟨hlt, ⟨cR, rfl, hcR, hcm⟩, hcell, hfz⟩ := ho.cell hne
    have hR33 := HBL.out R k HP.out.1
    have hgw := (hgR hne).1
    by_cases hkl : k < R.length
    · obtain ⟨gg, rfl⟩ : ∃ gg, gk = gg + 1 := ⟨gk - 1, by omega⟩
      have hx : R[k]? = some (R.getD k 0) := by rw [List.getD_eq_getElem?_getD, List.getElem?_eq_getElem hkl]; rfl
      have c0 : wr.cell? ⟨gR, k, none⟩ = some (.int .i64 (R.getD k 0)) := by rw [hcell k (by omega), zs_getD hkl]
      have HX := Lib.hid hx
      clear hx hcell hfz ho hgR
      generalize R.getD k 0 = x at *
      by_cases hxi : x = i
      · have HFR := Lib.hid (HFN.out R k x HP.out.1 HX.out hxi)
        have HKP := Lib.hid HP.out.2.2.1
        have hxb : (x == i) = true := by rw [hxi]; simp
        have hki : (k : Int) < (R.length : Int) := by omega
        have hk0 : (0 : Int) ≤ (k : Int) := by omega
        clear HP hxi HFN HEN HMO HNX HG HBL
        generalize R.length = q at *
        go_wp2_with fail
        go_ret
        exact HBP.out true _ ⟨fun _ => HFR.out, fun _ => rfl⟩ HKP.out
      · have hxb : (x == i) = false := by simpa using hxi
        have hki : (k : Int) < (R.length : Int) := by omega
        have hk0 : (0 : Int) ≤ (k : Int) := by omega
        have HGX := Lib.hid (HG.out x wr HP.out.2.2.1)
        have HXI := Lib.hid hxi
        clear hxi
        obtain ⟨q, hq⟩ : ∃ q, R.length = q := ⟨_, rfl⟩
        have HQ := Lib.hid hq
        rw [hq] at hki hkl hR33 hne hcR
        rw [hq]
        clear hq
        go_wp2_with fail
        refine HGX.out.mono ?_; rintro e w3 ⟨n, v, g, a, c, cap, r, rfl, hB, hE, hg, hsu, hk3⟩
        have hkr := HP.out.2.2.1
        have hz3 := hk3.size
        obtain ⟨an, cn, hv, hcn, hmn, -⟩ := hE.open
        subst hv
        obtain ⟨w4, p1, p2, p3⟩ := store_ino9 (n := n) (v := .slice an n.E.length cn) (Blk.new w3 Z0 29) HZZ.out hB rfl
        have hk4 : Keeps [] w3 w4 := ((Keeps.refl [] w3).alloc _).trans p3 (by intro x hx; rw [List.mem_singleton] at hx; omega)
        have hz4 := hk4.size
        have c17 : w4.cell? ⟨w3.heap.size, 17, none⟩ = some (.slice an n.E.length cn) := by rw [p2.cell]; exact (inoAt _ hB).f5
        have HS4 := Lib.hid p1
        have hown := HP.out.2.1
        rw [HQ.out] at hown
        have HROW := Lib.hid (ownsRow_keep (ownsRow_keep hown hk3 (by simp)) hk4 (by simp))
        have HEE := Lib.hid (hE.keep hk4 (by simp))
        have HK4 := Lib.hid ((hkr.trans' hk3).trans' hk4)
        have HGG : Hid (gR < wr.heap.size ∧ wr.heap.size ≤ g ∧ gR < w4.heap.size ∧ w.heap.size ≤ gR) := ⟨hlt, hg, by omega, hgw⟩
        have HSU := Lib.hid hsu
        have HBI := Lib.hid HP.out.1
        have hmE : n.E.length ≤ 9223372036854775807 := by unfold maxLen at hmn; omega
        clear p1 p2 p3 hk3 hk4 hE hg hsu HP hkr hz3 hz4 hown HGX hlt hgw hmn hcm hcR
        generalize inoC n (.slice an n.E.length cn) = ZN at *
        obtain ⟨mE, hm⟩ : ∃ mE, n.E.length = mE := ⟨_, rfl⟩
        have HME := Lib.hid hm
        rw [hm] at c17 HEE hmE
        clear hm
        go_wp2_with ((with_reducible show wpList _ _ _ (⟨_, .store 29 (.tmp 9) (.tmp 35), _, _, _, _⟩ :: _) _ _); refine wpList_store_any rfl 29 (.tmp 9) (.tmp 35) rfl _ rfl _ rfl _ HS4.out ?_)
        clear c17
        go_loopg [7, 41] mE (fun gh s7 s41 wz => ∃ (R' : List Int) (j : Nat), s41 = .int .i64 (j : Int) ∧ j + gh = mE ∧ Hid (bI R' k ∧ R'[k]? = some x ∧ (∀ t, t < j → eno n.E t ∈ R') ∧ wz.ownsRow w.heap.size 3 1 s7 R'.length (zs R') ∧ Keeps [] w wz ∧ Keeps [gR] w4 wz ∧ (∀ kk, s7.ownBlock = some kk → kk = gR ∨ w4.heap.size ≤ kk) ∧ R' ≠ []))
        case atStart => exact ⟨R, 0, rfl, by omega, HBI.out, HX.out, (fun t ht => by omega), (by rw [HQ.out]; exact HROW.out), HK4.out, Keeps.refl _ _, (fun kk e => by simp [Value.ownBlock] at e; exact .inl e.symm), (fun e => hne (by rw [← HQ.out, e]; rfl))⟩
        case round =>
          clear HROW HBI hkl hki hne
          obtain ⟨R', j, rfl, hj, HP⟩ := hrel
          obtain ⟨q1, q2, q3, q4, q5, q6, q7, q8⟩ := HP.out
          have hR2 := HBL.out _ _ q1
          cases gk with
          | zero =>
            obtain rfl : j = mE := by omega
            have HFI : Hid (bI R' (k + 1)) := HNX.out R' k x q1 q2 HXI.out (fun y hy => by
              rw [← HSU.out] at hy
              obtain ⟨t, ht, e⟩ := List.getElem_of_mem hy
              rw [List.length_map] at ht
              have := q3 t (by rw [← HME.out]; exact ht)
              rw [List.getElem_map] at e
              rwa [show eno n.E t = y by rw [← e]; simp [eno, List.getD_eq_getElem?_getD, ht]] at this)
            have HRO := Lib.hid (And.intro q4 (And.intro q5 q8))
            clear HP q1 q2 q3 q4 q5 q6 q7 q8
            go_wp2_with fail
            go_roundg gg
            case measure => omega
            case rel => exact ⟨R', k + 1, by go_num, by omega, HFI.out, HRO.out.1, HRO.out.2.1, HRO.out.2.2⟩
          | succ g2 =>
            have hjm : j < mE := by omega
            have hji : (j : Int) < (mE : Int) := by omega
            have hj0 : (0 : Int) ≤ (j : Int) := by omega
            obtain ⟨gR2, ho2, hgR2⟩ := Owns.of_row q4
            have hne2 : R'.length ≠ 0 := fun e => q8 (List.eq_nil_of_length_eq_zero e)
            obtain ⟨hlt2, ⟨cR2, hv2, hcR2, hcm2⟩, -, -⟩ := ho2.cell hne2
            subst hv2
            have hEj := HEE.out
            rw [← HME.out] at hEj hjm
            obtain ⟨ax, cx, hvx, hcx, hmx, HEX⟩ := hEj.open
            injection hvx with e1 e2 e3
            subst e1 e3
            obtain ⟨hgl, off, rfl, d1, d2⟩ := HEX.out j hjm
            rw [HME.out] at hjm
            have hgne : g ∉ [gR] := by have := HGG.out; rw [List.mem_singleton]; omega
            have HEI : Hid ((loadVar 39 ⟨g, off + j * 2, none⟩).run Tryz.prog wr = .ok (.agg #[.string (enm n.E j), .int .i64 (eno n.E j)]) wr) :=
              load_entry ((World.cell?_of_block (w := w4) (a := ⟨g, off + j * 2, none⟩) (q6.block g hgl hgne)).trans d1) ((World.cell?_of_block (w := w4) (a := ⟨g, off + j * 2 + 1, none⟩) (q6.block g hgl hgne)).trans d2)
            have hyS : eno n.E j ∈ sL x := by
              rw [← HSU.out]
              have h1 : j < n.E.length := by rw [HME.out]; exact hjm
              refine List.mem_map.2 ⟨n.E[j], List.getElem_mem h1, ?_⟩
              simp [eno, List.getD_eq_getElem?_getD, h1]
            obtain ⟨w6, p1, p2, p3⟩ := store_entry9 (enm n.E j) (eno n.E j) (Blk.new wr #[.string ⟨#[]⟩, .int .i64 0] 39) rfl
            have hk6 : Keeps [] wr w6 := ((Keeps.refl [] wr).alloc _).trans p3 (by intro x hx; rw [List.mem_singleton] at hx; omega)
            have c1 : w6.cell? ⟨wr.heap.size, 1, none⟩ = some (.int .i64 (eno n.E j)) := by rw [p2.cell]; rfl
            have HS6 := Lib.hid p1
            have q4' := ownsRow_keep q4 hk6 (by simp)
            have HRD : Hid (Reads w6 (.slice (some ⟨gR2, 0, none⟩) R'.length cR2) gR2 (zs R')) := ho2.reads.keep hk6 (by simp)
            have HCO := Lib.hid (contains_at (eno n.E j) HRD.out)
            have HO6 := Lib.hid q4'
            have hz6 := hk6.size
            have HQQ : Hid (bI R' k ∧ R'[k]? = some x ∧ (∀ t, t < j → eno n.E t ∈ R') ∧ Keeps [] w w6 ∧ Keeps [gR] w4 w6 ∧ R' ≠ [] ∧ (gR2 = gR ∨ w4.heap.size ≤ gR2) ∧ w4.heap.size ≤ w6.heap.size ∧ gR2 < w6.heap.size) := ⟨q1, q2, q3, q5.trans' hk6, q6.trans hk6 (by simp), q8, q7 _ rfl, by have := q6.size; omega, by omega⟩
            have HYS := Lib.hid hyS
            clear p1 p2 p3 hk6 q1 q2 q3 q4 q5 q6 q7 q8 q4' hyS d1 d2 hgl hgne HEX hcx hmx hEj HP ho2 hgR2 hlt2 hcm2 hz6
            obtain ⟨y, hy⟩ : ∃ y, eno n.E j = y := ⟨_, rfl⟩
            have HYE := Lib.hid hy
            rw [hy] at HEI HS6 c1 HCO HYS
            clear hy
            obtain ⟨sN, hsN⟩ : ∃ sN, enm n.E j = sN := ⟨_, rfl⟩
            rw [hsN] at HEI HS6
            clear hsN
            go_wp2_with (first | ((with_reducible show wpList _ _ _ (⟨_, .load 39 (.tmp 43), _, _, _, _⟩ :: _) _ _); refine wpList_load_any rfl 39 (.tmp 43) rfl _ rfl _ HEI.out ?_) | ((with_reducible show wpList _ _ _ (⟨_, .store 39 (.tmp 13) (.tmp 44), _, _, _, _⟩ :: _) _ _); refine wpList_store_any rfl 39 (.tmp 13) (.tmp 44) rfl _ rfl _ rfl _ HS6.out ?_))
            refine HCO.out.mono ?_; rintro e w' ⟨rfl, rfl⟩
            by_cases hin : y ∈ R'
            · have hd : decide (y ∈ R') = true := decide_eq_true hin
              rw [hd]
              have HIN := Lib.hid hin
              clear hd hin HCO HEI HS6
              go_wp2_with fail
              go_roundg g2
              case measure => omega
              case rel => exact ⟨R', j + 1, by go_num, by omega, HQQ.out.1, HQQ.out.2.1, (fun t ht => by
                  by_cases e : t = j
                  · rw [e, HYE.out]; exact HIN.out
                  · exact HQQ.out.2.2.1 t (by omega)), HO6.out, HQQ.out.2.2.2.1, HQQ.out.2.2.2.2.1, (fun kk e => by simp [Value.ownBlock] at e; rw [← e]; exact HQQ.out.2.2.2.2.2.2.1), HQQ.out.2.2.2.2.2.1⟩
            · have hd : decide (y ∈ R') = false := decide_eq_false hin
              rw [hd]
              obtain ⟨m1, m2⟩ := HMO.out R' k x y HQQ.out.1 HQQ.out.2.1 HYS.out hin
              have hb7 := Blk.new w6 #[.int .i64 y] 3
              have h33 : R'.length ≤ 33 := hR2
              obtain ⟨v', w8, hr, ho8, hg8⟩ := run_append_any (P := Tryz.prog) 46 3 46 i0 _ 1 8 Tryz.underlying46 hi hy0 hy1 hy2 rfl (by omega) w.heap.size R'.length _ _ (HO6.out.alloc (.cells #[.int .i64 y] 3)) (some ⟨w6.heap.size, 0, none⟩) 1 1 [.int .i64 y] rfl (fun _ => ⟨_, rfl, new_cells _ [_] _ _ rfl⟩) (by simp [Value.oneCell']) (by unfold maxLen; omega) (by omega) (by have h1 := HGG.out; have h2 := HQQ.out; simp; omega)
              have hblk := append_block (P := Tryz.prog) w.heap.size 46 46 3 i0 _ 1 8 Tryz.underlying46 hi hy0 hy1 hy2 (by omega) gR2 R'.length cR2 _ (HO6.out.alloc (.cells #[.int .i64 y] 3)) ⟨w6.heap.size, 0, none⟩ 1 1 [.int .i64 y] rfl (new_cells _ [_] _ _ rfl) (by simp [Value.oneCell']) (by unfold maxLen; omega) (by omega) hr
              have hk8 : Keeps [gR2] w6 w8 := ((Keeps.refl [gR2] w6).alloc (.cells #[.int .i64 y] 3)).trans (Keeps.of_grown (l := [gR2]) hg8 (fun kk e => by simp [Value.ownBlock] at e; exact .inl (by simp [e]))) (fun z hz => .inl hz)
              have HN : Hid (bI (R' ++ [y]) k ∧ (R' ++ [y])[k]? = some x ∧ (∀ t, t < j + 1 → eno n.E t ∈ R' ++ [y]) ∧ w8.ownsRow w.heap.size 3 1 v' (R' ++ [y]).length (zs (R' ++ [y])) ∧ Keeps [] w w8 ∧ Keeps [gR] w4 w8 ∧ (∀ kk, v'.ownBlock = some kk → kk = gR ∨ w4.heap.size ≤ kk) ∧ R' ++ [y] ≠ []) := by
                obtain ⟨a1, a2, a3, a4, a5, a6, a7, a8, a9⟩ := HQQ.out
                have h1 := HGG.out
                refine ⟨m1, m2, fun t ht => ?_, ?_, a4.trans hk8 (fun z hz => by rw [List.mem_singleton] at hz; right; omega), a5.trans hk8 (fun z hz => by rw [List.mem_singleton] at hz; subst hz; rcases a7 with e | e; exact .inl (by simp [e]); exact .inr e), fun kk e => ?_, by simp⟩
                · by_cases e : t = j
                  · rw [e, HYE.out]; simp
                  · have := a3 t (by omega); simp [this]
                · rw [List.length_append, zs_append]
                  exact ho8
                · rcases hblk with e2 | e2
                  · rw [e2] at e; injection e with e; rw [← e]; exact a7
                  · rw [e2] at e; injection e with e; rw [← e]; right; simp; omega
              clear hd hin HCO HEI HS6 m1 m2 hb7 ho8 hg8 hblk hk8
              generalize R'.length = q' at *
              go_wp2_with (at_builtin; refine wpList_append_run rfl (.tmp 50) (.tmp 53) 46 46 ?_ (.slice (some ⟨gR2, 0, none⟩) q' cR2) (.slice (some ⟨w6.heap.size, 0, none⟩) 1 1) ?_ ?_ hr ?_; all_goals first | rfl | skip)
              go_roundg g2
              case measure => omega
              case rel => exact ⟨R' ++ [y], j + 1, by go_num, by omega, HN.out⟩
    · have hki : ¬ (k : Int) < (R.length : Int) := by omega
      have hkR : k = R.length := by
        have h1 := HP.out.1
        have h2 : k ≤ R.length := HLE.out R k h1
        omega
      have HNO := Lib.hid (HEN.out R k HP.out.1 hkR)
      have HKP := Lib.hid HP.out.2.2.1
      clear HP HFN HEN HMO HNX HG HBL hkR hcell hfz ho hgR
      generalize R.length = q at *
      go_wp2_with fail
      go_ret
      exact HBP.out false _ ⟨(fun h => by cases h), fun h => absurd h HNO.out⟩ HKP.out

end Go.Proofs.YtlfkodlnhfdgjaaGreatDoor

namespace Go.Proofs.YtlfkodlnhfdgjaaGreatDoor
open Go.RowKit

theorem zero_b32 (w : World) : (zeroValue 50).run Tryz.prog w = .ok (.agg (bools (List.replicate 32 false)).toArray) w := by kernel_rfl

theorem bools_at {w : World} {g T : Nat} {S : List Bool} (hb : Blk w g (bools S).toArray T) {k : Nat} (hk : k < S.length) : w.cell? ⟨g, k, none⟩ = some (.bool (S.getD k false)) := by
  rw [hb.cell, List.getElem?_toArray, bools_get hk]

theorem bools_put {w : World} {g T : Nat} {S : List Bool} (hb : Blk w g (bools S).toArray T) (k : Nat) : Blk (w.setCell ⟨g, k, none⟩ (.bool true)) g (bools (S.set k true)).toArray T := by
  have := hb.set k (.bool true)
  rwa [List.setIfInBounds_toArray, bools_set] at this

/-- Within a round, at one inode: the first j of its entries were looked at. -/
theorem InM.more {T : List (Ino × Value)} {d : Int} {S0 S : List Bool} {k : Nat} (h : InM T d S0 S k) (hall : S0.getD k false = true → ∀ b ∈ succL T (k : Int), mk S b = true) : InM T d S0 S (k + 1) :=
  ⟨h.1, h.2.1, fun q hq hm b hb => by
    by_cases e : q = k
    · subst e; exact hall hm b hb
    · exact h.2.2 q (by omega) hm b hb⟩

theorem InM.mark {T : List (Ino × Value)} (hN : TabN T) {d : Int} {S0 S : List Bool} {k : Nat} (h : InM T d S0 S k) (hk : k < 32) (hm : S.getD k false = true) {b : Int} (hb : b ∈ succL T (k : Int)) : InM T d S0 (S.set b.toNat true) k :=
  ⟨h.1.mark hN hk hm hb, h.2.1.trans (SubM.set S _), fun q hq hqm c hc => SubM.set S _ _ (h.2.2 q hq hqm c hc)⟩

theorem succL_mem {T : List (Ino × Value)} {k : Nat} (hk : k < 32) {b : Int} : b ∈ succL T (k : Int) ↔ ∃ j, j < (nT T k).E.length ∧ eno (nT T k).E j = b := by
  unfold succL
  rw [if_pos (by omega), Int.toNat_natCast]
  constructor
  · intro h
    obtain ⟨j, hj, e⟩ := List.getElem_of_mem h
    rw [List.length_map] at hj
    rw [List.getElem_map] at e
    exact ⟨j, hj, by rw [← e]; simp [eno, List.getD_eq_getElem?_getD, hj]⟩
  · rintro ⟨j, hj, e⟩
    refine List.mem_map.2 ⟨(nT T k).E[j], List.getElem_mem hj, ?_⟩
    rw [← e]
    simp [eno, List.getD_eq_getElem?_getD, hj]

set_option maxRecDepth 100000 in
set_option maxHeartbeats 4000000 in
theorem refBelow_at {w : World} {T : List (Ino × Value)} (hok : TabOk T) (hlen : T.length = 32) (hE : TabE w T) (hN : TabN T) (d i : Int) :
    Calls Tryz.prog 8 #[.agg (tabC T), .int .i64 d, .int .i64 i] w (BelowPost w (Reach T d i)) := by
  have HBP : Hid (∀ r w', (r = true ↔ Reach T d i) → Keeps [] w w' → BelowPost w (Reach T d i) (.returned (.bool r)) w') := fun r w' h1 h2 => ⟨r, rfl, h1, h2⟩
  have hzb := zero_b32
  have HNEW : Hid (Blk ((w.alloc (.cells (tabC T) 31)).alloc (.cells (bools (List.replicate 32 false)).toArray 50)) (w.heap.size + 1) (bools (List.replicate 32 false)).toArray 50) := by
    have := Blk.new (w.alloc (.cells (tabC T) 31)) (bools (List.replicate 32 false)).toArray 50
    rwa [show (w.alloc (.cells (tabC T) 31)).heap.size = w.heap.size + 1 by simp] at this
  have HTV : Hid (TabAtV ((w.alloc (.cells (tabC T) 31)).alloc (.cells (bools (List.replicate 32 false)).toArray 50)) w.heap.size T) := ⟨(Blk.new w _ _).alloc _, hok, hlen⟩
  have HK0 : Hid (Keeps [] w ((w.alloc (.cells (tabC T) 31)).alloc (.cells (bools (List.replicate 32 false)).toArray 50))) := ((Keeps.refl [] w).alloc _).alloc _
  have HE := Lib.hid hE
  have HN := Lib.hid hN
  clear hE hN hok hlen
  by_cases hdi : d = i
  · have hb : (d == i) = true := by rw [hdi]; simp
    have HR : Hid (Reach T d i) := by rw [hdi]; exact .here
    clear hdi HTV HNEW
    generalize (bools (List.replicate 32 false)).toArray = Z0 at *
    generalize tabC T = Z at *
    go_enter Tryz.func8, Tryz.ntmps8
    go_wp2_with fail
    go_ret
    exact HBP.out true _ ⟨fun _ => HR.out, fun _ => rfl⟩ HK0.out
  · have hb : (d == i) = false := by simpa using hdi
    by_cases hd : 0 ≤ d ∧ d < 32
    · obtain ⟨dn, rfl⟩ := Int.eq_ofNat_of_zero_le hd.1
      have hdn : dn < 32 := by omega
      have hdi32 : (dn : Int) < 32 := by omega
      have hdi31 : ¬ (31 : Int) < (dn : Int) := by omega
      have hdi0 : ¬ (dn : Int) < 0 := by omega
      have hdi00 : (0 : Int) ≤ (dn : Int) := by omega
      have HRS : Hid (RoundM T (dn : Int) ((List.replicate 32 false).set dn true) 0) := by
        have := RoundM.start (T := T) hd
        rwa [Int.toNat_natCast] at this
      have HOUT : Hid (¬ (0 ≤ i ∧ i < 32) → ¬ Reach T (dn : Int) i) := fun h hr => by
        rcases hr.rng HN.out with e | e
        · exact hdi e.symm
        · exact h e
      have HEND : Hid (∀ S, RoundM T (dn : Int) S 33 → 0 ≤ i ∧ i < 32 → (S.getD i.toNat false = true ↔ Reach T (dn : Int) i)) := fun S h1 h2 => h1.ended (by omega) h2
      have HNXT : Hid (∀ S S' r, RoundM T (dn : Int) S r → InM T (dn : Int) S S' 32 → RoundM T (dn : Int) S' (r + 1)) := fun S S' r h1 h2 => h1.next HN.out hd h2
      have hst : (bools (List.replicate 32 false)).toArray[dn]? = some (.bool false) := by
        rw [List.getElem?_toArray, bools_get (by rw [List.length_replicate]; exact hdn)]
        rw [List.getD_eq_getElem?_getD, List.getElem?_replicate, if_pos hdn]
        rfl
      have cd : ((w.alloc (.cells (tabC T) 31)).alloc (.cells (bools (List.replicate 32 false)).toArray 50)).cell? ⟨w.heap.size + 1, dn, none⟩ = some (.bool false) := by rw [HNEW.out.cell]; exact hst
      have fd : ((w.alloc (.cells (tabC T) 31)).alloc (.cells (bools (List.replicate 32 false)).toArray 50)).frozen? ⟨w.heap.size + 1, dn, none⟩ = false := HNEW.out.frozen _
      have hszz : dn < (bools (List.replicate 32 false)).toArray.size := by rw [List.size_toArray, bools_len, List.length_replicate]; exact hdn
      have HSET : Hid (Blk ((w.alloc (.cells (tabC T) 31)).alloc (.cells ((bools (List.replicate 32 false)).toArray.setIfInBounds dn (.bool true)) 50)) (w.heap.size + 1) (bools ((List.replicate 32 false).set dn true)).toArray 50) := by
        have h1 := Blk.new (w.alloc (.cells (tabC T) 31)) ((bools (List.replicate 32 false)).toArray.setIfInBounds dn (.bool true)) 50
        rw [show (w.alloc (.cells (tabC T) 31)).heap.size = w.heap.size + 1 by simp] at h1
        rw [List.setIfInBounds_toArray, bools_set] at h1
        rw [List.setIfInBounds_toArray, bools_set]
        exact h1
      have HTV2 : Hid (TabAtV ((w.alloc (.cells (tabC T) 31)).alloc (.cells ((bools (List.replicate 32 false)).toArray.setIfInBounds dn (.bool true)) 50)) w.heap.size T) := ⟨(Blk.new w _ _).alloc _, HTV.out.ok, HTV.out.len⟩
      have HK2 : Hid (Keeps [] w ((w.alloc (.cells (tabC T) 31)).alloc (.cells ((bools (List.replicate 32 false)).toArray.setIfInBounds dn (.bool true)) 50))) := ((Keeps.refl [] w).alloc _).alloc _
      clear hd hst HTV HNEW HK0 hdi
      generalize (bools (List.replicate 32 false)).toArray = Z0 at *
      generalize tabC T = Z at *
      go_enter Tryz.func8, Tryz.ntmps8
      go_wp2_with fail
      obtain ⟨W0, hW0⟩ : ∃ W0, (w.alloc (.cells Z 31)).alloc (.cells (Z0.setIfInBounds dn (.bool true)) 50) = W0 := ⟨_, rfl⟩
      rw [hW0] at HSET HTV2 HK2
      rw [hW0]
      clear hW0 cd fd hszz hzb
      go_loopg [8] 33 (fun gh s8 wz => ∃ (r : Nat) (S : List Bool), r + gh = 33 ∧ s8 = .int .i64 (r : Int) ∧ Hid (Blk wz (w.heap.size + 1) (bools S).toArray 50 ∧ RoundM T (dn : Int) S r ∧ Keeps [w.heap.size + 1] W0 wz))
      case atStart => exact ⟨0, _, rfl, rfl, HSET.out, HRS.out, Keeps.refl _ _⟩
      case round =>
        clear HSET HRS
        obtain ⟨r, S, hr, rfl, HP⟩ := hrel
        cases gk with
        | zero =>
          obtain rfl : r = 33 := by omega
          have HFK : Hid (Keeps [] w wr) := HK2.out.trans HP.out.2.2 (by intro z hz; rw [List.mem_singleton] at hz; omega)
          by_cases hi0 : 0 ≤ i
          · by_cases hi32 : i < 32
            · obtain ⟨k, rfl⟩ := Int.eq_ofNat_of_zero_le hi0
              have hlS : S.length = 32 := HP.out.2.1.1.1
              have hk32 : k < 32 := by omega
              have c0 := bools_at HP.out.1 (k := k) (by omega)
              have HEN := Lib.hid (HEND.out S HP.out.2.1 ⟨hi0, hi32⟩)
              rw [Int.toNat_natCast] at HEN
              clear HEND HNXT HOUT HP hlS
              generalize S.getD k false = bk at *
              have HPO := Lib.hid (HBP.out bk wr HEN.out HFK.out)
              go_wp2_with fail
              go_ret
              exact HPO.out
            · have HNO := Lib.hid (HOUT.out (fun h => hi32 h.2))
              clear HEND HNXT HOUT HP
              go_wp2_with fail
              go_ret
              exact HBP.out false _ ⟨(fun h => by cases h), fun h => absurd h HNO.out⟩ HFK.out
          · have HNO := Lib.hid (HOUT.out (fun h => hi0 h.1))
            clear HEND HNXT HOUT HP
            go_wp2_with fail
            go_ret
            exact HBP.out false _ ⟨(fun h => by cases h), fun h => absurd h HNO.out⟩ HFK.out
        | succ g2 =>
          have hr33 : (r : Int) < 33 := by omega
          have hr0 : (0 : Int) ≤ (r : Int) := by omega
          have HSR := Lib.hid HP.out.2.1
          have HI0 : Hid (InM T (dn : Int) S S 0) := ⟨HP.out.2.1.1, SubM.refl _, fun q hq => by omega⟩
          have HPS : Hid (Blk wr (w.heap.size + 1) (bools S).toArray 50 ∧ Keeps [w.heap.size + 1] W0 wr) := ⟨HP.out.1, HP.out.2.2⟩
          clear HP HEND
          go_wp2_with fail
          go_loopg [9] 32 (fun gh s9 wz => ∃ (k : Nat) (S' : List Bool), k + gh = 32 ∧ s9 = .int .i64 (k : Int) ∧ Hid (Blk wz (w.heap.size + 1) (bools S').toArray 50 ∧ InM T (dn : Int) S S' k ∧ Keeps [w.heap.size + 1] W0 wz))
          case atStart => exact ⟨0, S, rfl, rfl, HPS.out.1, HI0.out, HPS.out.2⟩
          case round =>
            clear HPS HI0
            obtain ⟨k, S', hk, rfl, HP⟩ := hrel
            cases gk with
            | zero =>
              obtain rfl : k = 32 := by omega
              have HRN : Hid (Blk wr (w.heap.size + 1) (bools S').toArray 50 ∧ RoundM T (dn : Int) S' (r + 1) ∧ Keeps [w.heap.size + 1] W0 wr) := ⟨HP.out.1, HNXT.out S S' r HSR.out HP.out.2.1, HP.out.2.2⟩
              clear HP
              go_wp2_with fail
              go_roundg g2
              case measure => omega
              case rel => exact ⟨r + 1, S', by omega, by go_num, HRN.out⟩
            | succ g3 =>
              have hk32 : (k : Int) < 32 := by omega
              have hk0 : (0 : Int) ≤ (k : Int) := by omega
              have hkn : k < 32 := by omega
              obtain ⟨ge, hge⟩ := HE.out k hkn
              obtain ⟨ae, ce, hve, hce, hme, HEC⟩ := hge.open
              have HTC : Hid (∀ wz, Keeps [w.heap.size + 1] W0 wz → wz.cell? ⟨w.heap.size, k * 18 + 17, none⟩ = some (.slice ae (nT T k).E.length ce)) := fun wz hkz => by
                have h1 := HTV2.out.keep hkz (by simp)
                rw [h1.cell hkn (by omega : 17 < 18), ← hve]
                have := inoC_E (n := nT T k) (vT T k) (nT_len h1.ok k)
                rwa [inoC, List.getElem?_toArray] at this
              have HSM : Hid (∀ y, y ∈ succL T (k : Int) ↔ ∃ j, j < (nT T k).E.length ∧ eno (nT T k).E j = y) := fun y => succL_mem hkn
              have HLT : Hid ((nT T k).E.length ≠ 0 → ge < w.heap.size) := fun h => (HEC.out 0 (by omega)).1
              have hme2 : ce ≤ 9223372036854775807 := by unfold maxLen at hme; omega
              clear hge hve hme
              obtain ⟨m, hm⟩ : ∃ m, (nT T k).E.length = m := ⟨_, rfl⟩
              rw [hm] at HTC HSM hce HEC HLT
              clear hm
              obtain ⟨E, hEE⟩ : ∃ E, (nT T k).E = E := ⟨_, rfl⟩
              rw [hEE] at HSM HEC
              clear hEE
              go_wp2_with fail
              go_loopg [10] m (fun gh s10 wz => ∃ (j : Nat) (S' : List Bool), j + gh = m ∧ s10 = .int .i64 (j : Int) ∧ Hid (Blk wz (w.heap.size + 1) (bools S').toArray 50 ∧ InM T (dn : Int) S S' k ∧ Keeps [w.heap.size + 1] W0 wz ∧ (S'.getD k false = true → ∀ t, t < j → mk S' (eno E t) = true)))
              case atStart => exact ⟨0, S', by omega, rfl, HP.out.1, HP.out.2.1, HP.out.2.2, fun _ t ht => by omega⟩
              case round =>
                clear HP
                obtain ⟨j, S', hj, rfl, HP⟩ := hrel
                have hlS : S'.length = 32 := HP.out.2.1.1.1
                have cT := HTC.out wr HP.out.2.2.1
                have cK := bools_at HP.out.1 (k := k) (by omega)
                cases gk with
                | zero =>
                  obtain rfl : j = m := by omega
                  have HNE : Hid (Blk wr (w.heap.size + 1) (bools S').toArray 50 ∧ InM T (dn : Int) S S' (k + 1) ∧ Keeps [w.heap.size + 1] W0 wr) := ⟨HP.out.1, HP.out.2.1.more (fun hs y hy => by
                    obtain ⟨t, ht, e⟩ := (HSM.out y).1 hy
                    rw [← e]
                    exact HP.out.2.2.2 (HP.out.2.1.2.1 k hs) t ht), HP.out.2.2.1⟩
                  clear HP
                  generalize S'.getD k false = bk at *
                  go_wp2_with fail
                  go_roundg g3
                  case measure => omega
                  case rel => exact ⟨k + 1, S', by omega, by go_num, HNE.out⟩
                | succ g4 =>
                  have hjm : j < m := by omega
                  have hji : (j : Int) < (m : Int) := by omega
                  have hj0 : (0 : Int) ≤ (j : Int) := by omega
                  cases hbk : S'.getD k false with
                  | false =>
                    have HNE : Hid (Blk wr (w.heap.size + 1) (bools S').toArray 50 ∧ InM T (dn : Int) S S' (k + 1) ∧ Keeps [w.heap.size + 1] W0 wr) := ⟨HP.out.1, HP.out.2.1.more (fun hs => absurd (HP.out.2.1.2.1 k hs) (by rw [hbk]; simp)), HP.out.2.2.1⟩
                    rw [hbk] at cK
                    clear HP hbk
                    go_wp2_with fail
                    go_roundg g3
                    case measure => omega
                    case rel => exact ⟨k + 1, S', by omega, by go_num, HNE.out⟩
                  | true =>
                    obtain ⟨hgl, off, rfl, -, d2⟩ := HEC.out j hjm
                    have hgn : ge ∉ [w.heap.size + 1] := by rw [List.mem_singleton]; omega
                    have hkw : Keeps [w.heap.size + 1] w wr := (HK2.out.mono (by simp)).trans' HP.out.2.2.1
                    have cE : wr.cell? ⟨ge, off + j * 2 + 1, none⟩ = some (.int .i64 (eno E j)) := (World.cell?_of_block (w := w) (a := ⟨ge, off + j * 2 + 1, none⟩) (hkw.block ge hgl hgn)).trans d2
                    have hyS : eno E j ∈ succL T (k : Int) := (HSM.out _).2 ⟨j, hjm, rfl⟩
                    obtain ⟨hy0, hy32⟩ := HN.out _ _ hyS
                    have HIM := Lib.hid (HP.out.2.1.mark HN.out hkn hbk hyS)
                    have HOLD := Lib.hid HP.out.2.2.2
                    obtain ⟨y, hy⟩ : ∃ y : Nat, eno E j = (y : Int) := ⟨(eno E j).toNat, by omega⟩
                    rw [hy] at cE hy0 hy32 HIM
                    rw [Int.toNat_natCast] at HIM
                    have cY := bools_at HP.out.1 (k := y) (by omega)
                    have fY := HP.out.1.frozen y
                    have HNB := Lib.hid (bools_put HP.out.1 y)
                    have HNK : Hid (Keeps [w.heap.size + 1] W0 (wr.setCell ⟨w.heap.size + 1, y, none⟩ (.bool true))) := HP.out.2.2.1.setCell (.inl (by simp)) _
                    have HALL : Hid (∀ t, t < j + 1 → mk (S'.set y true) (eno E t) = true) := fun t ht => by
                      have hm := set_mark S' (k := y) (by omega)
                      by_cases e : t = j
                      · rw [e, mk, hy, Int.toNat_natCast]
                        exact (hm y).2 (.inl rfl)
                      · exact (hm _).2 (.inr (HOLD.out hbk t (by omega)))
                    rw [hbk] at cK
                    clear HP hbk hyS hgn hkw d2 hgl HOLD hy
                    generalize S'.getD y false = by0 at *
                    go_wp2_with fail
                    go_roundg g4
                    case measure => omega
                    case rel => exact ⟨j + 1, S'.set y true, by omega, by go_num, HNB.out, HIM.out, HNK.out, fun _ => HALL.out⟩
    · have HR : Hid (¬ Reach T d i) := fun h => hdi (h.out hd).symm
      have hdd : (decide (d < 0) || decide (31 < d)) = true := by
        rw [Bool.or_eq_true, decide_eq_true_eq, decide_eq_true_eq]
        omega
      clear hdi HTV HNEW
      generalize (bools (List.replicate 32 false)).toArray = Z0 at *
      generalize tabC T = Z at *
      by_cases hd0 : d < 0
      all_goals
        first | have hd1 : decide (d < 0) = true := decide_eq_true hd0 | have hd1 : decide (d < 0) = false := decide_eq_false hd0
        have hd2 : ¬ d < 0 → 31 < d := by omega
        first | have hd3 : 31 < d := hd2 hd0 | skip
        clear hdd hd hd2
        go_enter Tryz.func8, Tryz.ntmps8
        go_wp2_with fail
        go_ret
        exact HBP.out false _ ⟨(fun h => by cases h), fun h => absurd h HR.out⟩ HK0.out

end Go.Proofs.YtlfkodlnhfdgjaaGreatDoor

namespace Go.Proofs.YtlfkodlnhfdgjaaGreatDoor
open Go.ChangeShapes Go.WideShapes Go.ChangeAt Go.RowKit

section
variable {H : Type} {enc : TypeId × Value → H} {W : World} {base : Nat} {spare : Nat → Bool} {held : Bool}

/-- The number in a cell. -/
def intV : Option Value → Int
  | some (.int _ z) => z
  | _ => 0

set_option maxRecDepth 100000 in
theorem open_n13 {fuel : Nat} {cs : List Value} {x : DataW H × List MemPlace} (h : DataW.trod enc Tryz.prog W base spare held fuel 26 cs = some x) : ∃ l : List Int, cs = zs l ∧ l.length = 13 := by
  obtain ⟨xs, m, -, -, hl, hlen, hf⟩ := DataW.trod_array Tryz.underlying26 h
  rw [show Tryz.prog.cellsOf 26 = 13 by kernel_rfl] at hl
  have hone : ∀ i, i < 13 → ∃ z : Int, cs[i]? = some (.int .i64 z) := fun i hi => by
    have h1 := hf i hi
    rw [show Tryz.prog.cellsOf 3 = 1 by kernel_rfl, Nat.mul_one, List.getElem?_eq_getElem (by omega : i < xs.length)] at h1
    obtain ⟨z, e, -, -⟩ := DataW.trod_int Tryz.underlying3 h1
    refine ⟨z, ?_⟩
    have h2 := congrArg (fun l => l[0]?) e
    simpa using h2
  refine ⟨(List.range 13).map fun i => intV cs[i]?, ?_, by simp⟩
  apply List.ext_getElem?
  intro i
  by_cases hi : i < 13
  · obtain ⟨z, hz⟩ := hone i hi
    have h2 : (zs ((List.range 13).map fun i => intV cs[i]?))[i]? = some (.int .i64 (intV cs[i]?)) := by simp [zs, hi]
    rw [h2, hz]
    rfl
  · rw [List.getElem?_eq_none (by omega), List.getElem?_eq_none (by simp [zs]; omega)]


end

end Go.Proofs.YtlfkodlnhfdgjaaGreatDoor

namespace Go.Proofs.YtlfkodlnhfdgjaaGreatDoor
open Go.ChangeShapes Go.WideShapes Go.ChangeAt Go.RowKit

section
variable {H : Type} {enc : TypeId × Value → H} {W : World} {base : Nat} {spare : Nat → Bool} {held : Bool}

set_option maxRecDepth 100000 in
theorem open_entry {fuel : Nat} {cs : List Value} {x : DataW H × List MemPlace} (h : DataW.trod enc Tryz.prog W base spare held fuel 39 cs = some x) :
    ∃ (s : ByteArray) (y : Int), cs = [.string s, .int .i64 y] := by
  obtain ⟨xs, n, -, -, hl, hlen, hf⟩ := DataW.trod_struct Tryz.underlying39 h
  rw [show Tryz.prog.cellsOf 39 = 2 by kernel_rfl] at hl
  match cs, hl with
  | [c0, c1], _ =>
    have f0 : DataW.trod enc Tryz.prog W base spare held n 9 (([c0, c1].drop 0).take (Tryz.prog.cellsOf 9)) = xs[0]? := hf 0 _ rfl
    have f1 : DataW.trod enc Tryz.prog W base spare held n 3 (([c0, c1].drop 1).take (Tryz.prog.cellsOf 3)) = xs[1]? := hf 1 _ rfl
    simp only [show Tryz.prog.cellsOf 9 = 1 by kernel_rfl, show Tryz.prog.cellsOf 3 = 1 by kernel_rfl, List.drop_zero, List.drop_succ_cons, List.take_succ_cons, List.take_zero] at f0 f1
    match xs, hlen with
    | [y0, y1], _ =>
      simp only [List.getElem?_cons_zero, List.getElem?_cons_succ] at f0 f1
      obtain ⟨s, e0, -⟩ := DataW.trod_string Tryz.underlying9 f0
      obtain ⟨n1, e1, -, w1⟩ := DataW.trod_int Tryz.underlying3 f1
      simp only [List.cons.injEq, and_true] at e0 e1
      subst e0 e1
      exact ⟨s, n1, rfl⟩

set_option maxRecDepth 100000 in
theorem open_ents {fuel : Nat} {cs : List Value} {x : DataW H × List MemPlace} (h : DataW.trod enc Tryz.prog W base spare held fuel 27 cs = some x) :
    ∃ v g E, cs = [v] ∧ EReads W v g E := by
  obtain ⟨a, len, cap, rfl, h1, h2, h3⟩ := open_rows (sz := 2) Tryz.underlying27 (by kernel_rfl) (by omega) h
  by_cases h0 : len = 0
  · subst h0
    exact ⟨_, 0, [], rfl, ⟨a, cap, rfl, by simp, h2, fun h => absurd rfl h⟩⟩
  · obtain ⟨g, off, rfl, hg, hx⟩ := h3 h0
    have hex : ∀ i, i < len → ∃ p : ByteArray × Int, W.cell? ⟨g, off + i * 2, none⟩ = some (.string p.1) ∧ W.cell? ⟨g, off + i * 2 + 1, none⟩ = some (.int .i64 p.2) := fun i hi => by
      obtain ⟨cs', y, n, hl, hc, ht⟩ := hx i hi
      obtain ⟨q, z, rfl⟩ := open_entry ht
      exact ⟨(q, z), hc 0 (by omega), hc 1 (by omega)⟩
    obtain ⟨f, hf⟩ : ∃ f : Nat → ByteArray × Int, ∀ i, i < len → W.cell? ⟨g, off + i * 2, none⟩ = some (.string (f i).1) ∧ W.cell? ⟨g, off + i * 2 + 1, none⟩ = some (.int .i64 (f i).2) :=
      ⟨fun i => if h : i < len then Classical.choose (hex i h) else (ByteArray.empty, 0), fun i hi => by simp only [dif_pos hi]; exact Classical.choose_spec (hex i hi)⟩
    refine ⟨_, g, (List.range len).map f, rfl, ⟨_, cap, by simp, by simpa using h1, h2, fun _ => ⟨hg, off, rfl, fun j hj => ?_⟩⟩⟩
    have hj' : j < len := by simpa using hj
    have e1 : enm ((List.range len).map f) j = (f j).1 := by simp [enm, List.getD_eq_getElem?_getD, hj']
    have e2 : eno ((List.range len).map f) j = (f j).2 := by simp [eno, List.getD_eq_getElem?_getD, hj']
    rw [e1, e2]
    exact hf j hj'

end

end Go.Proofs.YtlfkodlnhfdgjaaGreatDoor

namespace Go.Proofs.YtlfkodlnhfdgjaaGreatDoor
open Go.ChangeShapes Go.WideShapes Go.ChangeAt Go.RowKit

/-- An operation of the list. -/
structure POp where
  k : Int
  i : Int
  n : Ino
  v : Value

instance : Inhabited POp := ⟨⟨0, 0, inoZ, .slice none 0 0⟩⟩

section
variable {H : Type} {enc : TypeId × Value → H} {W : World} {base : Nat} {spare : Nat → Bool} {held : Bool}

set_option maxRecDepth 100000 in
theorem open_inoC {fuel : Nat} {l : List Value} {x : DataW H × List MemPlace} (hf : DataW.trod enc Tryz.prog W base spare held fuel 29 l = some x) : ∃ (n : Ino) (u : Value) (g : Nat), l = inoL n u ∧ n.B.length = 13 ∧ EReads W u g n.E := by
  obtain ⟨xs, n, -, -, hl, hlen, hf⟩ := DataW.trod_struct Tryz.underlying29 hf
  have hlen6 : xs.length = 6 := hlen
  rw [show Tryz.prog.cellsOf 29 = 18 by kernel_rfl] at hl
  have ci : Tryz.prog.cellsOf 3 = 1 := by kernel_rfl
  have one : ∀ (k : Nat) (hk : k < l.length) (y : DataW H × List MemPlace), DataW.trod enc Tryz.prog W base spare held n 3 ((l.drop k).take (Tryz.prog.cellsOf 3)) = some y → ∃ z : Int, l[k]? = some (.int .i64 z) := fun k hk y hy => by
    rw [ci] at hy
    obtain ⟨z, e, -, -⟩ := DataW.trod_int Tryz.underlying3 hy
    refine ⟨z, ?_⟩
    have h2 := congrArg (fun l => l[0]?) e
    simpa using h2
  have hsz' : l.length = 18 := hl
  have hsome : ∀ i, i < 6 → ∃ y, xs[i]? = some y := fun i hi => ⟨xs[i], List.getElem?_eq_getElem (by omega)⟩
  obtain ⟨y0, e0⟩ := hsome 0 (by omega)
  obtain ⟨y1, e1⟩ := hsome 1 (by omega)
  obtain ⟨y2, e2⟩ := hsome 2 (by omega)
  obtain ⟨y3, e3⟩ := hsome 3 (by omega)
  obtain ⟨y4, e4⟩ := hsome 4 (by omega)
  obtain ⟨y5, e5⟩ := hsome 5 (by omega)
  have f0 : DataW.trod enc Tryz.prog W base spare held n 3 ((l.drop 0).take (Tryz.prog.cellsOf 3)) = xs[0]? := hf 0 _ rfl
  have f1 : DataW.trod enc Tryz.prog W base spare held n 3 ((l.drop 1).take (Tryz.prog.cellsOf 3)) = xs[1]? := hf 1 _ rfl
  have f2 : DataW.trod enc Tryz.prog W base spare held n 3 ((l.drop 2).take (Tryz.prog.cellsOf 3)) = xs[2]? := hf 2 _ rfl
  have f3 : DataW.trod enc Tryz.prog W base spare held n 3 ((l.drop 3).take (Tryz.prog.cellsOf 3)) = xs[3]? := hf 3 _ rfl
  have f4 : DataW.trod enc Tryz.prog W base spare held n 26 ((l.drop 4).take (Tryz.prog.cellsOf 26)) = xs[4]? := hf 4 _ rfl
  have f5 : DataW.trod enc Tryz.prog W base spare held n 27 ((l.drop 17).take (Tryz.prog.cellsOf 27)) = xs[5]? := hf 5 _ rfl
  rw [e0] at f0
  rw [e1] at f1
  rw [e2] at f2
  rw [e3] at f3
  rw [e4] at f4
  rw [e5] at f5
  obtain ⟨z0, g0⟩ := one 0 (by omega) _ f0
  obtain ⟨z1, g1⟩ := one 1 (by omega) _ f1
  obtain ⟨z2, g2⟩ := one 2 (by omega) _ f2
  obtain ⟨z3, g3⟩ := one 3 (by omega) _ f3
  obtain ⟨B, eB, hB⟩ := open_n13 f4
  obtain ⟨u, g, E, eE, hE⟩ := open_ents f5
  rw [show Tryz.prog.cellsOf 26 = 13 by kernel_rfl] at eB
  rw [show Tryz.prog.cellsOf 27 = 1 by kernel_rfl] at eE
  refine ⟨⟨z0, z1, z2, z3, B, E⟩, u, g, ?_, hB, hE⟩
  have hl4 : l = (l.take 4) ++ ((l.drop 4).take 13 ++ (l.drop 17).take 1) := by
    have h1 : (l.drop 4).take 13 ++ (l.drop 17).take 1 = l.drop 4 := by
      rw [List.take_of_length_le (l := l.drop 17) (by rw [List.length_drop]; omega)]
      have := List.take_append_drop 13 (l.drop 4)
      rwa [List.drop_drop] at this
    rw [h1, List.take_append_drop]
  have ht4 : l.take 4 = [.int .i64 z0, .int .i64 z1, .int .i64 z2, .int .i64 z3] := by
    apply List.ext_getElem?
    intro i
    rcases (show i = 0 ∨ i = 1 ∨ i = 2 ∨ i = 3 ∨ 4 ≤ i by omega) with rfl | rfl | rfl | rfl | hi
    · rw [List.getElem?_take, if_pos (by omega), g0]; rfl
    · rw [List.getElem?_take, if_pos (by omega), g1]; rfl
    · rw [List.getElem?_take, if_pos (by omega), g2]; rfl
    · rw [List.getElem?_take, if_pos (by omega), g3]; rfl
    · rw [List.getElem?_eq_none (by rw [List.length_take]; omega), List.getElem?_eq_none (by simpa using hi)]
  rw [hl4, ht4, eB, eE]
  rfl


end

end Go.Proofs.YtlfkodlnhfdgjaaGreatDoor

namespace Go.Proofs.YtlfkodlnhfdgjaaGreatDoor
open Go.RowKit

end Go.Proofs.YtlfkodlnhfdgjaaGreatDoor

namespace Go.Proofs.YtlfkodlnhfdgjaaGreatDoor
open Go.RowKit
section
variable {P : Program} {ops : Array Oper} {Q : Exit → Act → World → Prop} {md : Region.Mode} {S : World → Prop}

end
end Go.Proofs.YtlfkodlnhfdgjaaGreatDoor
