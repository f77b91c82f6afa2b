/-
  Layer 7 (fmt2): slices.Grow of nil, slices.Concat of two rows of words. Layer 7 (fmt2): seemingFile. Layer 7 (fmt2): entriesIn. Layer 7 (fmt2): slices.SortFunc over entries is the library's own (the shelf's laying of it, in plain words). Layer 7 (fmt2): cmp.Compare of strings; the order by which entries are sorted. Layer 7 (fmt2): slices.SortFunc, by names. Layer 7 (fmt2): entries sorted by their names. Layer 7 (fmt2), plain: what a directory's words tell, bucket by bucket, block by block. Layer 7 (fmt2): seemingDir.
-/
import Derived.Test.YtphojondgfjmgaaGreatDoorG10
import Derived.Test.YtphojondgfjmgaaGreatDoorG05
import Derived.Test.YtphojondgfjmgaaGreatDoorG00
import Derived.Test.YtphojondgfjmgaaGreatDoorG01
import Derived.Test.YtphojondgfjmgaaGreatDoorG06
import Derived.Test.YtphojondgfjmgaaGreatDoorG07
import Derived.Ground.SlsfProg
import Derived.Shelf.SlSortCmp.WholeK
import Derived.Test.YtphojondgfjmgaaGreatDoorG04
import Derived.Sort.Grow
import Derived.Test.YtphojondgfjmgaaGreatDoorG02
namespace Go.Proofs.YtphojondgfjmgaaGreatDoor
open Go.RowKit
set_option maxRecDepth 100000 in
set_option maxHeartbeats 2000000 in
theorem grow_at (k:Nat) (h0:0<k) (hk:k≤1000) (ki:Int) (hki:ki=(k:Int)) (w:World):Calls Tryz.prog 121 #[.slice none 0 0,.int .i64 ki] w λe w'=>
  ∃c,e= .returned (.slice (some ⟨w.heap.size,0,none⟩) 0 c)∧w'.ownsRow w.heap.size 29 1 (.slice (some ⟨w.heap.size,0,none⟩) 0 c) 0 []∧Keeps [] w w':=by
 obtain⟨i0,hi,hz0,hz1,hz2⟩:=info_parts Tryz.info_u64
 obtain⟨c,w',hr,hc,hown,hkk⟩:=run_append_nought (P:= Tryz.prog) w 32 3 29 i0 _ .i64 .i64 Tryz.underlying32 Tryz.underlying3 hi hz0 hz1 rfl k h0 hk hz2
 have h1:¬ki<0:=by omega
 have h2:0<ki:=by omega
 have h3:wrap64 ki=ki:=by unfold wrap64;omega
 simp only[←hki] at hr
 have HO:=Lib.hid hown
 have HK:=Lib.hid hkk
 have hc0:c≠0:=by omega
 have hc1:(0:Int)≤(c:Int):=by omega
 clear hown hkk hki hi hz0 hz1 hz2 hc
 go_enter Tryz.func121,Tryz.ntmps121
 go_wp2_with(at_builtin;refine wpList_append_run rfl (.tmp 20) (.tmp 21) 32 3 ?_ (.slice none 0 0) (.int .i64 ki) ?_ ?_ (hr _) ?_;all_goals first|rfl|skip)
 go_ret
 exact⟨c,rfl,HO.out,HK.out⟩
theorem reads_cells {w:World} {a:Option Addr} {m c g:Nat} {ys:List Value} (h:Reads w (.slice a m c) g ys) (hm:m≠0):∃ad,a=some ad∧∀j u,ys[j]? =some u→w.cell? (ad.add j)=some u:=by
 obtain⟨a',c',h1,h2,h3,h4⟩:=h
 cases h1
 obtain⟨-,off,rfl,hc⟩:=h4 (by intro e;rw[e] at hm;exact hm rfl)
 refine⟨_,rfl,λj u hu=> ?_⟩
 have hj:j<ys.length:=(List.getElem?_eq_some_iff.1 hu).1
 rw[add_plain,hc j hj,hu]
def szC (j:Nat):Nat:=if j=0 then 0 else if j=1 then 5 else 13
def rowC (L1 L2:List Int) (j:Nat):List Int:=if j=0 then [] else if j=1 then L1 else L1++L2
set_option maxRecDepth 100000 in
set_option maxHeartbeats 4000000 in
theorem concat_at {w:World} {gs g1 g2 T:Nat} {x1 x2:Value} {L1 L2:List Int} (hb:Blk w gs #[x1,x2] T) (h1:Reads w x1 g1 (u64s L1)) (h2:Reads w x2 g2 (u64s L2)) (hl1:L1.length=5) (hl2:L2.length=8):
  Calls Tryz.prog 110 #[.slice (some ⟨gs,0,none⟩) 2 2] w (MadeWords w (L1++L2)):=by
 obtain⟨i0,hi,hz0,hz1,hz2⟩:=info_parts Tryz.info_u64
 obtain⟨a1,c1,rfl,hc1,hm1,H1⟩:=u64s_cell h1
 obtain⟨a2,c2,rfl,hc2,hm2,H2⟩:=u64s_cell h2
 rw[hl1] at hb hc1 h1
 rw[hl2] at hb hc2 h2
 have HR1:=Lib.hid h1
 have HR2:=Lib.hid h2
 have HB:=Lib.hid hb
 clear h1 h2 hb H1 H2
 have hv0:∀wx,Keeps [] w wx→wx.cell? ⟨gs,0,none⟩=some (.slice a1 5 c1):=λwx hk=>by rw[(HB.out.keep hk (by simp)).cell];rfl
 have hv1:∀wx,Keeps [] w wx→wx.cell? ⟨gs,1,none⟩=some (.slice a2 8 c2):=λwx hk=>by rw[(HB.out.keep hk (by simp)).cell];rfl
 have HV0:=Lib.hid hv0
 have HV1:=Lib.hid hv1
 clear hv0 hv1
 go_enter Tryz.func110,Tryz.ntmps110
 go_wp2_with fail
 go_loopg [3,11] 2 (λgh s3 s11 wx=>∃j:Nat,j+gh=2∧s11= .int .i64 (j:Int)∧s3= .int .i64 ((szC j:Nat):Int)∧w=wx)
 case atStart=>exact⟨0,rfl,rfl,rfl,rfl⟩
 case round=>
  obtain⟨j,hj,rfl,rfl,rfl⟩:=hrel
  have e0:=HV0.out w (Keeps.refl _ _)
  have e1:=HV1.out w (Keeps.refl _ _)
  rcases (show gk=0∨gk=1∨gk=2 by omega) with rfl|rfl|rfl
  ·obtain rfl:j=2:=by omega
   rw[show szC 2=13 from rfl]
   clear e0 e1
   go_wp2_with fail
   refine(grow_at 13 (by omega) (by omega) 13 rfl w).mono ?_
   rintro e w1 ⟨c,rfl,hown,hk1⟩
   have HO:=Lib.hid hown
   have HK:=Lib.hid hk1
   clear hown hk1
   go_wp2_with fail
   go_loopg [6,27] 2 (λgh s6 s27 wx=>∃j:Nat,j+gh=2∧s27= .int .i64 (j:Int)∧Hid (wx.ownsRow w.heap.size 29 1 s6 (szC j) (u64s (rowC L1 L2 j))∧Keeps [] w wx))
   case atStart=>exact⟨0,rfl,rfl,HO.out,HK.out⟩
   case round=>
    clear HO HK
    obtain⟨j,hj,rfl,HP⟩:=hrel
    obtain⟨hown,hkp⟩:=HP.out
    have e0:=HV0.out _ hkp
    have e1:=HV1.out _ hkp
    rcases (show gk=0∨gk=1∨gk=2 by omega) with rfl|rfl|rfl
    ·obtain rfl:j=2:=by omega
     have HM:Hid (MadeWords w (L1++L2) (.returned u6) wr):=by
      obtain⟨g,ho,hg⟩:=Owns.of_row hown
      exact⟨u6,g,rfl,ho.reads,(hg (by decide)).1,hkp⟩
     clear e0 e1 hown hkp HP
     go_wp2_with fail
     go_ret
     exact HM.out
    ·obtain rfl:j=1:=by omega
     obtain⟨v',w',hr,ho,hg⟩:=run_append_any (P:= Tryz.prog) 32 29 32 i0 _ 1 8 Tryz.underlying32 hi hz0 hz1 hz2 rfl (by omega) w.heap.size 5 _ _ hown a2 8 c2 (u64s L2) (by rw[u64s_len,hl2]) (reads_cells (HR2.out.keep hkp (by simp))) (u64s_one _) (by decide) (by omega) hkp.size
     have HN:Hid (w'.ownsRow w.heap.size 29 1 v' 13 (u64s (rowC L1 L2 2))∧Keeps [] w w'):=by
      refine⟨?_,hkp.grown hg (ownsRow_block hown)⟩
      have e:u64s (rowC L1 L2 2)=u64s (rowC L1 L2 1)++u64s L2:=by rw[←u64s_append];rfl
      rw[e]
      exact ho
     clear hown hkp HP ho hg e0
     go_wp2_with(at_builtin;refine wpList_append_run rfl (.tmp 31) (.tmp 32) 32 32 ?_ u6 (.slice a2 8 c2) ?_ ?_ hr ?_;all_goals first|rfl|skip)
     go_roundg 0
     case measure=>omega
     case rel=>exact⟨2,rfl,rfl,HN.out⟩
    ·obtain rfl:j=0:=by omega
     obtain⟨v',w',hr,ho,hg⟩:=run_append_any (P:= Tryz.prog) 32 29 32 i0 _ 1 8 Tryz.underlying32 hi hz0 hz1 hz2 rfl (by omega) w.heap.size 0 _ _ hown a1 5 c1 (u64s L1) (by rw[u64s_len,hl1]) (reads_cells (HR1.out.keep hkp (by simp))) (u64s_one _) (by decide) (by omega) hkp.size
     have HN:Hid (w'.ownsRow w.heap.size 29 1 v' 5 (u64s (rowC L1 L2 1))∧Keeps [] w w'):=by
      refine⟨?_,hkp.grown hg (ownsRow_block hown)⟩
      have e:u64s (rowC L1 L2 1)=u64s (rowC L1 L2 0)++u64s L1:=rfl
      rw[e]
      exact ho
     clear hown hkp HP ho hg e1
     go_wp2_with(at_builtin;refine wpList_append_run rfl (.tmp 31) (.tmp 32) 32 32 ?_ u6 (.slice a1 5 c1) ?_ ?_ hr ?_;all_goals first|rfl|skip)
     go_roundg 1
     case measure=>omega
     case rel=>exact⟨1,rfl,rfl,HN.out⟩
  ·obtain rfl:j=1:=by omega
   rw[show szC 1=5 from rfl]
   clear e0
   go_wp2_with fail
   go_roundg 0
   case measure=>omega
   case rel=>exact⟨2,rfl,rfl,rfl,rfl⟩
  ·obtain rfl:j=0:=by omega
   rw[show szC 0=0 from rfl]
   clear e1
   go_wp2_with fail
   go_roundg 1
   case measure=>omega
   case rel=>exact⟨1,rfl,rfl,rfl,rfl⟩
def SeemFile (X L l:List Int) (own:List Nat):Prop:=
 (L.getD 7 0<9223372036854775808∧own=[]∧numsTo (L.drop 2) 6=some l)∨
 (∃b:Nat,L.getD 7 0=9223372036854775808+(b:Int)∧0<b∧b<256∧own=[b]∧numsTo ((L.drop 2).take 5++rowL X (1080+8*b)) 13=some l)
def SeemFPost (w:World) (X L:List Int) (e:Ending) (w':World):Prop:=
 ∃l vo go own ok,e= .returned (.tuple #[.agg (zs l).toArray,vo,.bool ok])∧l.length=13∧RowI w' vo go own∧w.heap.size≤go∧own.length≤1∧Keeps [] w w'∧(ok=true→SeemFile X L l own)∧(ok=false→∀l' own',¬SeemFile X L l' own')
theorem SeemFile.inj {X L l l':List Int} {own own':List Nat} (h:SeemFile X L l own) (h':SeemFile X L l' own'):l'=l∧own'=own:=by
 rcases h with ⟨h1,h2,h3⟩|⟨b,h1,h2,h3,h4,h5⟩
 ·rcases h' with ⟨g1,g2,g3⟩|⟨b',g1,g2,g3,g4,g5⟩
  ·rw[h3] at g3
   cases g3
   exact⟨rfl,by rw[g2,h2]⟩
  ·omega
 ·rcases h' with ⟨g1,g2,g3⟩|⟨b',g1,g2,g3,g4,g5⟩
  ·omega
  ·obtain rfl:b'=b:=by omega
   rw[h5] at g5
   cases g5
   exact⟨rfl,by rw[g4,h4]⟩
def W64 (l:List Int):Prop:=∀k,0≤l.getD k 0∧l.getD k 0<18446744073709551616
theorem W64.app {A B:List Int} (hA:W64 A) (hB:W64 B):W64 (A++B):=λk=>by
 have hAk:=hA k
 have hBk:=hB (k-A.length)
 rw[List.getD_eq_getElem?_getD] at hAk hBk ⊢
 by_cases h:k<A.length
 ·rw[List.getElem?_append_left h];exact hAk
 ·rw[List.getElem?_append_right (by omega)];exact hBk
theorem W64.drop {A:List Int} (hA:W64 A) (n:Nat):W64 (A.drop n):=λk=>by
 have :=hA (n+k)
 rwa[show(A.drop n).getD k 0=A.getD (n+k) 0 by simp[List.getD_eq_getElem?_getD]]
theorem W64.take {A:List Int} (hA:W64 A) (n:Nat):W64 (A.take n):=λk=>by
 have :=hA k
 by_cases h:k<n
 ·rwa[show(A.take n).getD k 0=A.getD k 0 by simp[List.getD_eq_getElem?_getD,h]]
 ·rw[List.getD_eq_getElem?_getD,List.getElem?_eq_none (by rw[List.length_take];omega)]
  exact⟨by decide,by decide⟩
theorem W64.row {X:List Int} (hX:W64 X) (p:Nat):W64 (rowL X p):=λk=>by
 by_cases h:k<8
 ·rw[rowL_get X p k h];exact hX _
 ·rw[List.getD_eq_getElem?_getD,List.getElem?_eq_none (by rw[rowL_len];omega)]
  exact⟨by decide,by decide⟩
theorem i64s_nil_reads (w:World) (g:Nat):Reads w (.slice none 0 0) g (i64s []):=⟨none,0,rfl,Nat.le_refl _,by unfold maxLen;omega,λh=>absurd rfl h⟩
set_option maxRecDepth 100000 in
set_option maxHeartbeats 4000000 in
theorem seemFile_none {w:World} {b0:Nat} {X L:List Int} (hL:L.length=8) (hL64:∀k,0≤L.getD k 0∧L.getD k 0<18446744073709551616) (h7:L.getD 7 0<9223372036854775808):
  Calls Tryz.prog 98 #[.pointer (some ⟨b0,0,none⟩),.agg (u64s L).toArray] w (SeemFPost w X L):=by
 obtain⟨W0,hW0⟩:∃W0,W0=(w.alloc (.cells (u64s L).toArray 74)).alloc (.cells (zs (List.replicate 13 0)).toArray 34):=⟨_,rfl⟩
 have hb3:Blk W0 w.heap.size (u64s L).toArray 74 :=by
  rw[hW0]
  exact(Blk.new w _ _).alloc _
 have hb4:Blk W0 (w.heap.size+1) (zs (List.replicate 13 0)).toArray 34 :=by
  have :=Blk.new (w.alloc (.cells (u64s L).toArray 74)) (zs (List.replicate 13 0)).toArray 34
  have e:(w.alloc (.cells (u64s L).toArray 74)).heap.size=w.heap.size+1:=by simp
  rw[e] at this
  rw[hW0]
  exact this
 have hk0:Keeps [] w W0:=by
  rw[hW0]
  exact((Keeps.refl _ _).alloc _).alloc _
 have c7:W0.cell? ⟨w.heap.size,7,none⟩=some (.int .u64 (L.getD 7 0)):=by rw[hb3.cell,List.getElem?_toArray,u64s_get (by omega)]
 rw[hW0] at c7
 have hzv:=zero_n13
 have hsl:=slice_two8 w.heap.size
 have hr:Reads W0 (.slice (some ⟨w.heap.size,2,none⟩) 6 6) w.heap.size (u64s (L.drop 2)):=by
  have :=hb3.reads (o:=2) (n:=6) (c:=6) (by omega) (Nat.le_refl _) (by omega)
  rwa[List.take_of_length_le (by rw[List.length_drop,hL];omega)] at this
 have HNUM:=Lib.hid (nums2_at hr (by simp;omega) (λk=>by
  have :=hL64 (2+k)
  rwa[show(L.drop 2).getD k 0=L.getD (2+k) 0 by simp[List.getD_eq_getElem?_getD]]))
 have HB4:=Lib.hid hb4
 have HK0:=Lib.hid hk0
 have HW0:=Lib.hid hW0
 have h7':¬(9223372036854775808:Int)≤L.getD 7 0:=by omega
 have H7:=Lib.hid h7
 have HL:=Lib.hid hL
 clear hb3 hb4 hk0 hr hW0 hL64 hL h7
 generalize hxi:L.getD 7 0=xi at *
 have HXI:=Lib.hid hxi
 clear hxi
 generalize (u64s L).toArray=ZL at *
 generalize hz0:(zs (List.replicate 13 0)).toArray=Z0 at *
 have HZ0:=Lib.hid hz0
 clear hz0
 go_enter Tryz.func98,Tryz.ntmps98
 go_wp2_with fail
 rw[←HW0.out]
 refine HNUM.out.mono ?_;rintro e w1 ⟨l,ok,rfl,hl13,h1,h2,hk1⟩
 obtain⟨w2,hS1,hb1,hk2⟩:=store_whole (P:= Tryz.prog) (ty:= 34) (cs:=zs l) (by rw[zs_len,hl13];exact size_n13) (Blk.new w1 Z0 34) (by rw[←HZ0.out];simp[zs_len,hl13]) (zs_one _)
 have hz1:=hk1.size
 have hlt4:=HB4.out.lt
 have hb42:Blk w2 (w.heap.size+1) Z0 34 :=((HB4.out.keep hk1 (by simp)).alloc _).keep hk2 (by simp;omega)
 obtain⟨w3,hS2,hb5,hk3⟩:=store_whole (P:= Tryz.prog) (ty:= 34) (cs:=zs l) (by rw[zs_len,hl13];exact size_n13) hb42 (by rw[←HZ0.out];simp[zs_len,hl13]) (zs_one _)
 have HS1:=Lib.hid hS1
 have HS2:=Lib.hid hS2
 have HL1:=Lib.hid (load_n13 (off:=0) hb1 hl13 (λk hk=>by rw[Nat.zero_add,List.getElem?_toArray,zs_get (by omega)]))
 have HL2:=Lib.hid (load_n13 (off:=0) hb5 hl13 (λk hk=>by rw[Nat.zero_add,List.getElem?_toArray,zs_get (by omega)]))
 have hlen6:(L.drop 2).length=6:=by rw[List.length_drop,HL.out]
 have HM:Hid (SeemFPost w X L (.returned (.tuple #[.agg (zs l).toArray,.slice none 0 0,.bool ok])) w3):=by
  refine⟨l,_,w.heap.size,[],ok,rfl,hl13,RowI.nil _ _,Nat.le_refl _,by simp,?_,λhok=> .inl ⟨by rw[HXI.out];exact H7.out,rfl,by rw[←hlen6];exact h1 hok⟩,λhok l' own' hs=> ?_⟩
  ·exact(((HK0.out.trans' hk1).alloc _).trans hk2 (by intro x hx;simp at hx;omega)).trans hk3 (by intro x hx;rw[List.mem_singleton] at hx;omega)
  ·have h3:=(h2 hok).1
   rcases hs with ⟨-,-,g3⟩|⟨b',g1,-⟩
   ·rw[←hlen6,h3] at g3
    cases g3
   ·rw[HXI.out] at g1
    have :=H7.out
    omega
 clear hS1 hb1 hk2 hb42 hS2 hb5 hk3 h1 h2 hk1 hz1 hlt4 hlen6
 generalize hg1:w1.heap.size=g1 at *
 go_wp2_with(first|((with_reducible show wpList _ _ _ (⟨_,.store 34 (.tmp 11) (.tmp 42),_,_,_,_⟩::_) _ _);refine wpList_store_any rfl 34 (.tmp 11) (.tmp 42) rfl _ rfl _ rfl _ HS1.out ?_)|((with_reducible show wpList _ _ _ (⟨_,.load 34 (.tmp 11),_,_,_,_⟩::_) _ _);refine wpList_load_any rfl 34 (.tmp 11) rfl _ rfl _ HL1.out ?_)|((with_reducible show wpList _ _ _ (⟨_,.store 34 (.tmp 4) (.tmp 44),_,_,_,_⟩::_) _ _);refine wpList_store_any rfl 34 (.tmp 4) (.tmp 44) rfl _ rfl _ rfl _ HS2.out ?_))
 exact bodyPost_ret (results_cell3 Tryz.results98 rfl HL2.out rfl rfl) rfl HM.out
set_option maxRecDepth 100000 in
set_option maxHeartbeats 4000000 in
theorem seemFile_bad {w:World} {b0:Nat} {X L:List Int} (hL:L.length=8) {bi:Int} (h7:L.getD 7 0=9223372036854775808+bi) (h0:0≤bi) (hb:bi=0∨256≤bi) (h64:L.getD 7 0<18446744073709551616):
  Calls Tryz.prog 98 #[.pointer (some ⟨b0,0,none⟩),.agg (u64s L).toArray] w (SeemFPost w X L):=by
 obtain⟨W0,hW0⟩:∃W0,W0=(w.alloc (.cells (u64s L).toArray 74)).alloc (.cells (zs (List.replicate 13 0)).toArray 34):=⟨_,rfl⟩
 have hb3:Blk W0 w.heap.size (u64s L).toArray 74 :=by
  rw[hW0]
  exact(Blk.new w _ _).alloc _
 have hb4:Blk W0 (w.heap.size+1) (zs (List.replicate 13 0)).toArray 34 :=by
  have :=Blk.new (w.alloc (.cells (u64s L).toArray 74)) (zs (List.replicate 13 0)).toArray 34
  have e:(w.alloc (.cells (u64s L).toArray 74)).heap.size=w.heap.size+1:=by simp
  rw[e] at this
  rw[hW0]
  exact this
 have hk0:Keeps [] w W0:=by
  rw[hW0]
  exact((Keeps.refl _ _).alloc _).alloc _
 have c7:W0.cell? ⟨w.heap.size,7,none⟩=some (.int .u64 (L.getD 7 0)):=by rw[hb3.cell,List.getElem?_toArray,u64s_get (by omega)]
 rw[hW0] at c7
 have hzv:=zero_n13
 have hsl:=slice_two8 w.heap.size
 obtain⟨w2,hS1,hb1,hk2⟩:=store_whole (P:= Tryz.prog) (ty:= 34) (cs:=zs (List.replicate 13 0)) (by rw[zs_len];exact size_n13) hb4 (by simp[zs_len]) (zs_one _)
 rw[hW0] at hS1
 have HS1:=Lib.hid hS1
 have HL1:=Lib.hid (load_n13 (off:=0) (l:=List.replicate 13 0) hb1 (by simp) (λk hk=>by rw[Nat.zero_add,List.getElem?_toArray,zs_get (by simpa using hk)]))
 have HM:Hid (SeemFPost w X L (.returned (.tuple #[.agg (zs (List.replicate 13 0)).toArray,.slice none 0 0,.bool false])) w2):=by
  refine⟨List.replicate 13 0,_,w.heap.size,[],false,rfl,by simp,RowI.nil _ _,Nat.le_refl _,by simp,?_,λhok=>(by cases hok),λ_ l' own' hs=> ?_⟩
  ·exact hk0.trans hk2 (by intro x hx;rw[List.mem_singleton] at hx;omega)
  ·rcases hs with ⟨g1,-⟩|⟨b',g1,g2,g3,-⟩<;>omega
 have h7':(9223372036854775808:Int)≤L.getD 7 0:=by omega
 have hsub:L.getD 7 0-9223372036854775808=bi:=by omega
 have hw:IntKind.u64.wrap bi=bi:=wrap_nat64 h0 (by omega)
 clear hb3 hb4 hk0 hW0 hL h7 h64 hS1 hb1 hk2
 generalize L.getD 7 0=xi at *
 generalize (u64s L).toArray=ZL at *
 generalize (zs (List.replicate 13 0)).toArray=Z0 at *
 by_cases hb0:bi=0
 ·subst hb0
  clear hb
  go_enter Tryz.func98,Tryz.ntmps98
  go_wp2_with(first|((with_reducible show wpList _ _ _ (⟨_,.store 34 (.tmp 4) (.tmp 26),_,_,_,_⟩::_) _ _);refine wpList_store_any rfl 34 (.tmp 4) (.tmp 26) rfl _ rfl _ rfl _ HS1.out ?_))
  exact bodyPost_ret (results_cell3 Tryz.results98 rfl HL1.out rfl rfl) rfl HM.out
 ·have hb2:=hb.resolve_left hb0
  clear hb
  go_enter Tryz.func98,Tryz.ntmps98
  go_wp2_with(first|((with_reducible show wpList _ _ _ (⟨_,.store 34 (.tmp 4) (.tmp 26),_,_,_,_⟩::_) _ _);refine wpList_store_any rfl 34 (.tmp 4) (.tmp 26) rfl _ rfl _ rfl _ HS1.out ?_))
  exact bodyPost_ret (results_cell3 Tryz.results98 rfl HL1.out rfl rfl) rfl HM.out
set_option maxRecDepth 100000 in
set_option maxHeartbeats 8000000 in
theorem seemFile_some {w:World} {b gp:Nat} {B:List Int} {ps:List (Int×Int)} (hSh:ShAt w b gp B ps) (hX64:∀k,0≤(putAll B ps).getD k 0∧(putAll B ps).getD k 0<18446744073709551616) {L:List Int} (hL:L.length=8) (hL64:∀k,0≤L.getD k 0∧L.getD k 0<18446744073709551616)
  {c:Nat} (h7:L.getD 7 0=9223372036854775808+(c:Int)) (hc0:0<c) (hc:c<256):
  Calls Tryz.prog 98 #[.pointer (some ⟨b,0,none⟩),.agg (u64s L).toArray] w (SeemFPost w (putAll B ps) L):=by
 obtain⟨W0,hW0⟩:∃W0,W0=(w.alloc (.cells (u64s L).toArray 74)).alloc (.cells (zs (List.replicate 13 0)).toArray 34):=⟨_,rfl⟩
 have hb3:Blk W0 w.heap.size (u64s L).toArray 74 :=by
  rw[hW0]
  exact(Blk.new w _ _).alloc _
 have hb4:Blk W0 (w.heap.size+1) (zs (List.replicate 13 0)).toArray 34 :=by
  have :=Blk.new (w.alloc (.cells (u64s L).toArray 74)) (zs (List.replicate 13 0)).toArray 34
  have e:(w.alloc (.cells (u64s L).toArray 74)).heap.size=w.heap.size+1:=by simp
  rw[e] at this
  rw[hW0]
  exact this
 have hk0:Keeps [] w W0:=by
  rw[hW0]
  exact((Keeps.refl _ _).alloc _).alloc _
 have c7:W0.cell? ⟨w.heap.size,7,none⟩=some (.int .u64 (L.getD 7 0)):=by rw[hb3.cell,List.getElem?_toArray,u64s_get (by omega)]
 rw[hW0] at c7
 have hzv:=zero_n13
 have hz8v:=zero_r8
 have hsl:=slice_two8 w.heap.size
 have HBL:=Lib.hid (λwx=>txBlock_at (c:Int) wx)
 have HBN:Hid (blockN (c:Int)=((1080+8*c:Nat):Int)):=by
  show _=_
  rw[blockN,if_neg (by omega)]
  omega
 have HROW:=Lib.hid (rowAt_at (hSh.keep hk0 (by simp) (by simp)) (1080+8*c) (by omega))
 have HR64:Hid (∀k,0≤((L.drop 2).take 5++rowL (putAll B ps) (1080+8*c)).getD k 0∧((L.drop 2).take 5++rowL (putAll B ps) (1080+8*c)).getD k 0<18446744073709551616):=W64.app ((W64.drop hL64 2).take 5) (W64.row hX64 _)
 have hrl8:=rowL_len (putAll B ps) (1080+8*c)
 have h7':(9223372036854775808:Int)≤L.getD 7 0:=by omega
 obtain⟨ci,hci,hsub,hw,hw64,hci0,hci1⟩:∃ci:Int,(c:Int)=ci∧L.getD 7 0-9223372036854775808=ci∧IntKind.u64.wrap ci=ci∧wrap64 ci=ci∧¬ci=0∧¬256≤ci:=⟨_,rfl,by omega,wrap_nat64 (by omega) (by omega),by unfold wrap64;omega,by omega,by omega⟩
 have HC:Hid (L.getD 7 0=9223372036854775808+(c:Int)∧0<c∧c<256):=⟨h7,hc0,hc⟩
 have HB3:=Lib.hid hb3
 have HB4:=Lib.hid hb4
 have HK0:=Lib.hid hk0
 have HW0:=Lib.hid hW0
 have HL:=Lib.hid hL
 have HL5:Hid (((L.drop 2).take 5).length=5):=by show _=_;rw[List.length_take,List.length_drop,hL];rfl
 rw[hci] at HBL HBN
 generalize hRX:rowL (putAll B ps) (1080+8*c)=RX at *
 have HRX:=Lib.hid hRX
 clear hb3 hb4 hk0 hW0 hL hL64 hX64 hSh h7 hRX
 generalize hpi:((1080+8*c:Nat):Int)=pi at *
 generalize hxi:L.getD 7 0=xi at *
 have HXI:=Lib.hid hxi
 have HCI:=Lib.hid hci
 clear hxi hpi hci hc hc0
 generalize hzl:(u64s L).toArray=ZL at *
 have HZL:=Lib.hid hzl
 clear hzl
 generalize hz0:(zs (List.replicate 13 0)).toArray=Z0 at *
 have HZ0:=Lib.hid hz0
 clear hz0
 generalize hz8:(u64s (List.replicate 8 0)).toArray=Z8 at *
 have HZ8:=Lib.hid hz8
 clear hz8
 go_enter Tryz.func98,Tryz.ntmps98
 go_wp2_with fail
 refine(HBL.out _).mono ?_;rintro e wy ⟨rfl,rfl⟩
 rw[HBN.out]
 go_wp2_with fail
 rw[←HW0.out]
 refine HROW.out.mono ?_;rintro e w1 ⟨rfl,hk1⟩
 obtain⟨w2,hS1,hb10,hk2⟩:=store_whole (P:= Tryz.prog) (ty:= 74) (cs:=u64s RX) (by rw[u64s_len,hrl8];exact size_r8) (Blk.new w1 Z8 74) (by rw[←HZ8.out];simp[u64s_len,hrl8]) (u64s_one _)
 have HS1:=Lib.hid hS1
 have hz1:=hk1.size
 have hk12:Keeps [] W0 w2:=(hk1.alloc (.cells Z8 74)).trans hk2 (by intro x hx;rw[List.mem_singleton] at hx;omega)
 have HK12:=Lib.hid hk12
 have HB10:=Lib.hid hb10
 have hb32:=HB3.out.keep hk12 (by simp)
 have HBL3:Hid (Reads w2 (.slice (some ⟨w.heap.size,2,none⟩) 5 6) w.heap.size (u64s ((L.drop 2).take 5))):=by
  rw[←HZL.out] at hb32
  exact hb32.reads (o:=2) (n:=5) (c:=6) (by rw[HL.out];omega) (by omega) (by omega)
 have HBL8:Hid (Reads w2 (.slice (some ⟨w1.heap.size,0,none⟩) 8 8) w1.heap.size (u64s RX)):=by
  have :=Blk.reads (o:=0) (n:=8) (c:=8) hb10 (by rw[hrl8];omega) (Nat.le_refl _) (by omega)
  rwa[List.drop_zero,List.take_of_length_le (by rw[hrl8];exact Nat.le_refl _)] at this
 clear hS1 hb10 hk2 hk12 hk1 HROW hz1 hb32
 generalize hg1:w1.heap.size=g1 at *
 have hsm:=slice_mid8 w.heap.size
 have hsa:=slice_all8 g1
 go_wp2_with(first|((with_reducible show wpList _ _ _ (⟨_,.store 74 (.tmp 10) (.tmp 31),_,_,_,_⟩::_) _ _);refine wpList_store_any rfl 74 (.tmp 10) (.tmp 31) rfl _ rfl _ rfl _ HS1.out ?_))
 refine wp_region_text (S:=λwx=>Keeps [] w2 wx) (l:=[_,_]) (tl:=[_,_,_]) (by kernel_rfl) rfl (by kernel_rfl) (by kernel_rfl) (by kernel_rfl) (λd _ _ _ _ h=>by cases d<;>exact h) (Keeps.refl _ _).drew ?_
 repeat (refine YieldList.cons ?_ (YieldsIf.val rfl ?h) ?_;(case h=>(intro wx hx;clear hx;go_simp;rfl));simp only[Act.put,List.setIfInBounds_toArray,List.set_cons_zero,List.set_cons_succ])
 refine YieldList.done ?_
 unfold tailS
 go_wp2_with fail
 refine⟨((Keeps.refl _ _).drew).alloc _,?_⟩
 unfold tailS
 have HCON:Hid (∀wx,Keeps [] w2 wx→Blk wx w2.heap.size #[.slice (some ⟨w.heap.size,2,none⟩) 5 6,.slice (some ⟨g1,0,none⟩) 8 8] 32→Calls Tryz.prog 110 #[.slice (some ⟨w2.heap.size,0,none⟩) 2 2] wx (MadeWords wx ((L.drop 2).take 5++RX))):=λwx hk hb=>by
  refine concat_at hb ((HBL3.out).keep hk (by simp)) ((HBL8.out).keep hk (by simp)) HL5.out hrl8
 have hbs:Blk ((w2.alloc (.cells #[.slice (some ⟨w.heap.size,2,none⟩) 5 6,.slice (some ⟨g1,0,none⟩) 8 8] 32)).drew) w2.heap.size #[.slice (some ⟨w.heap.size,2,none⟩) 5 6,.slice (some ⟨g1,0,none⟩) 8 8] 32 :=(Blk.new w2 _ _).drew
 have HBS:=Lib.hid hbs
 clear hbs HBL3 HBL8
 go_wp2_with fail
 refine(HCON.out _ (((Keeps.refl _ _).alloc _).drew) HBS.out).mono ?_;rintro e w3 ⟨va,ga,rfl,hra,hga,hka⟩
 have hk23:Keeps [] w2 w3:=(((Keeps.refl [] w2).alloc (.cells #[.slice (some ⟨w.heap.size,2,none⟩) 5 6,.slice (some ⟨g1,0,none⟩) 8 8] 32)).drew).trans' hka
 have HK23:=Lib.hid hk23
 have HRA:=Lib.hid hra
 clear hra hga hka hk23 HBS HCON
 go_wp2_with fail
 refine⟨HK23.out,?_⟩
 unfold tailS
 go_wp2_with fail
 refine⟨HK23.out,?_⟩
 unfold tailS
 have hr4:Reads (w3.alloc (.cells #[.int .i64 ci] 3)) va ga (u64s ((L.drop 2).take 5++RX)):=by
  by_cases h0:u64s ((L.drop 2).take 5++RX)=[]
  ·exact absurd (congrArg List.length h0) (by rw[u64s_len,List.length_append,HL5.out,hrl8];decide)
  ·exact HRA.out.keep ((Keeps.refl [] w3).alloc _) (by simp)
 have HNUM:=Lib.hid (nums2_at hr4 (by rw[List.length_append,HL5.out,hrl8];omega) HR64.out)
 obtain⟨av,cv,hva,-,-,-⟩:=u64s_cell HRA.out
 have hlen13:((L.drop 2).take 5++RX).length=13:=by rw[List.length_append,HL5.out,hrl8]
 rw[hlen13] at hva
 have hbo:=Blk.new w3 #[.int .i64 ci] 3
 have HBO:=Lib.hid hbo
 have HLEN:=Lib.hid hlen13
 clear hr4 hbo HRA hlen13
 subst hva
 go_wp2_with fail
 refine HNUM.out.mono ?_;rintro e w4 ⟨l,ok,rfl,hl13,h1,h2,hk4⟩
 rw[HLEN.out] at h1 h2
 obtain⟨w5,hS1,hb1,hk5⟩:=store_whole (P:= Tryz.prog) (ty:= 34) (cs:=zs l) (by rw[zs_len,hl13];exact size_n13) (Blk.new w4 Z0 34) (by rw[←HZ0.out];simp[zs_len,hl13]) (zs_one _)
 have hz1:=hk4.size
 have hz2:=HK23.out.size
 have hz3:=HK12.out.size
 have hlt4:=HB4.out.lt
 have hz4:w3.heap.size<(w3.alloc (.cells #[.int .i64 ci] 3)).heap.size:=HBO.out.lt
 have hb42:Blk w5 (w.heap.size+1) Z0 34 :=(((((HB4.out.keep HK12.out (by simp)).keep HK23.out (by simp)).alloc _).keep hk4 (by simp)).alloc _).keep hk5 (by rw[List.mem_singleton];omega)
 have hbo5:Blk w5 w3.heap.size #[.int .i64 ci] 3 :=((HBO.out.keep hk4 (by simp)).alloc _).keep hk5 (by rw[List.mem_singleton];omega)
 obtain⟨w6,hS2,hb5,hk6⟩:=store_whole (P:= Tryz.prog) (ty:= 34) (cs:=zs l) (by rw[zs_len,hl13];exact size_n13) hb42 (by rw[←HZ0.out];simp[zs_len,hl13]) (zs_one _)
 have hbo6:Blk w6 w3.heap.size #[.int .i64 ci] 3 :=hbo5.keep hk6 (by rw[List.mem_singleton];omega)
 have HS1:=Lib.hid hS1
 have HS2:=Lib.hid hS2
 have HL1:=Lib.hid (load_n13 (off:=0) hb1 hl13 (λk hk=>by rw[Nat.zero_add,List.getElem?_toArray,zs_get (by omega)]))
 have HL2:=Lib.hid (load_n13 (off:=0) hb5 hl13 (λk hk=>by rw[Nat.zero_add,List.getElem?_toArray,zs_get (by omega)]))
 have HM:Hid (SeemFPost w (putAll B ps) L (.returned (.tuple #[.agg (zs l).toArray,.slice (some ⟨w3.heap.size,0,none⟩) 1 1,.bool ok])) w6):=by
  refine⟨l,_,w3.heap.size,[c],ok,rfl,hl13,⟨⟨rfl,.inr ⟨w3.heap.size,1,#[.int .i64 ci],rfl,Nat.le_refl _,hbo6,Nat.le_refl _,by unfold maxLen;omega,by simp,?_⟩⟩,λk hk=>by cases hk;rfl⟩,by omega,by simp,?_,λhok=> .inr ⟨c,by rw[HXI.out];exact HC.out.1,HC.out.2.1,HC.out.2.2,rfl,by rw[HRX.out];exact h1 hok⟩,λhok l' own' hs=> ?_⟩
  ·rw[←HCI.out]
   rfl
  ·refine(((HK0.out.trans' HK12.out).trans' HK23.out).trans' ((((Keeps.refl [] w3).alloc (.cells #[.int .i64 ci] 3)).trans' hk4).alloc (.cells Z0 34))).trans hk5 (by intro x hx;rw[List.mem_singleton] at hx;omega) |>.trans hk6 (by intro x hx;rw[List.mem_singleton] at hx;omega)
  ·have h3:=(h2 hok).1
   have hc:=HC.out
   rcases hs with ⟨g1,-⟩|⟨b',g1,g2,g3,-,g5⟩
   ·rw[HXI.out] at g1
    omega
   ·rw[HXI.out] at g1
    obtain rfl:b'=c:=by omega
    rw[HRX.out,h3] at g5
    cases g5
 clear hS1 hb1 hk5 hb42 hS2 hb5 hk6 h1 h2 hk4 hz1 hz2 hz3 hz4 hlt4 hbo5 hbo6
 generalize hg4:w4.heap.size=g4 at *
 go_wp2_with(first|((with_reducible show wpList _ _ _ (⟨_,.store 34 (.tmp 11) (.tmp 42),_,_,_,_⟩::_) _ _);refine wpList_store_any rfl 34 (.tmp 11) (.tmp 42) rfl _ rfl _ rfl _ HS1.out ?_)|((with_reducible show wpList _ _ _ (⟨_,.load 34 (.tmp 11),_,_,_,_⟩::_) _ _);refine wpList_load_any rfl 34 (.tmp 11) rfl _ rfl _ HL1.out ?_)|((with_reducible show wpList _ _ _ (⟨_,.store 34 (.tmp 4) (.tmp 44),_,_,_,_⟩::_) _ _);refine wpList_store_any rfl 34 (.tmp 4) (.tmp 44) rfl _ rfl _ rfl _ HS2.out ?_))
 exact bodyPost_ret (results_cell3 Tryz.results98 rfl HL2.out rfl rfl) rfl HM.out
def cntE (r:List Int):Nat:=if r.getD 1 0=0 then 0 else if r.getD 3 0=0 then 1 else if r.getD 5 0=0 then 2 else 3
theorem cntE_le (r:List Int):cntE r≤3:=by
 unfold cntE
 split
 ·omega
 ·split
  ·omega
  ·split<;>omega
theorem cntE_stop {r:List Int} {k:Nat} (hk:k≤3) (h:∀j,j<k→r.getD (2*j+1) 0≠0) (he:k=3∨r.getD (2*k+1) 0=0):cntE r=k:=by
 rcases (show k=0∨k=1∨k=2∨k=3 by omega) with rfl|rfl|rfl|rfl
 ·have h0:r.getD 1 0=0:=he.resolve_left (by omega)
  unfold cntE
  rw[if_pos h0]
 ·have h0:r.getD 1 0≠0:=h 0 (by omega)
  have h1:r.getD 3 0=0:=he.resolve_left (by omega)
  unfold cntE
  rw[if_neg h0,if_pos h1]
 ·have h0:r.getD 1 0≠0:=h 0 (by omega)
  have h1:r.getD 3 0≠0:=h 1 (by omega)
  have h2:r.getD 5 0=0:=he.resolve_left (by omega)
  unfold cntE
  rw[if_neg h0,if_neg h1,if_pos h2]
 ·have h0:r.getD 1 0≠0:=h 0 (by omega)
  have h1:r.getD 3 0≠0:=h 1 (by omega)
  have h2:r.getD 5 0≠0:=h 2 (by omega)
  unfold cntE
  rw[if_neg h0,if_neg h1,if_neg h2]
def entsOfR (r:List Int):List Int:=(r.drop 1).take (2*cntE r)
theorem slice_1to8 (b c:Nat) (h1:1≤c) (h8:c≤7) (w:World):(Instr.sliceAt 74 (.pointer (some ⟨b,0,none⟩)) (some (.int .i64 1)) (some (.int .i64 (c:Int))) none).run Tryz.prog w= .ok (.slice (some ⟨b,1,none⟩) (c-1) 7) w:=by
 rcases (show c=1∨c=2∨c=3∨c=4∨c=5∨c=6∨c=7 by omega) with rfl|rfl|rfl|rfl|rfl|rfl|rfl
 all_goals (show Sem.run _ _ _=_;kernel_rfl)
set_option maxRecDepth 100000 in
set_option maxHeartbeats 4000000 in
theorem entriesIn_at (r:List Int) (hr8:r.length=8) (h64:∀k,0≤r.getD k 0∧r.getD k 0<18446744073709551616) (w:World):
  Calls Tryz.prog 112 #[.agg (u64s r).toArray] w (EntsLPost w (entsOfR r) (cntE r)):=by
 have hb0:=Blk.new w (u64s r).toArray 74
 obtain⟨W0,hW0⟩:∃W0,W0=w.alloc (.cells (u64s r).toArray 74):=⟨_,rfl⟩
 rw[←hW0] at hb0
 have HB0:=Lib.hid hb0
 have HK0:Hid (Keeps [] w W0):=by
  rw[hW0]
  exact(Keeps.refl [] w).alloc _
 have HW0:=Lib.hid hW0
 have HR8:=Lib.hid hr8
 have HEND:Hid (∀k,k≤3→(∀j,j<k→r.getD (2*j+1) 0≠0)→(k=3∨r.getD (2*k+1) 0=0)→∀n,n=2*k→Calls Tryz.prog 92 #[.slice (some ⟨w.heap.size,1,none⟩) n 7] W0 λe w'=>EntsLPost w (entsOfR r) (cntE r) e w'):=λk hk h he n hn=>by
  have hc:=cntE_stop hk h he
  have hrd:=hb0.reads (o:=1) (n:=n) (c:=7) (by omega) (by omega) (by omega)
  have hln:((r.drop 1).take n).length=n:=by rw[List.length_take,List.length_drop];omega
  have h6:∀j,0≤((r.drop 1).take n).getD j 0∧((r.drop 1).take n).getD j 0<18446744073709551616:=λj=>by
   by_cases hj:j<n
   ·have e0:((r.drop 1).take n).getD j 0=r.getD (1+j) 0:=by simp[List.getD_eq_getElem?_getD,hj,Nat.add_comm]
    rw[e0]
    exact h64 _
   ·rw[List.getD_eq_getElem?_getD,List.getElem?_eq_none (by omega)]
    simp
  refine(rowEntriesOf_at hrd (by omega) k (by omega) h6).mono λe w' hp=> ?_
  have e1:entsOfR r=(r.drop 1).take n:=by rw[entsOfR,hc,hn]
  rw[e1,hc]
  have hw:=HK0.out.size
  rcases hp with ⟨g,a1,a2,a3,a4,a5⟩|⟨a1,a2,a3⟩
  ·exact .inl ⟨g,a1,a2,by omega,a4,HK0.out.trans' a5⟩
  ·exact .inr ⟨a1,a2,HK0.out.trans' a3⟩
 have HCELL:Hid (∀j,j<8→W0.cell? ⟨w.heap.size,j,none⟩=some (.int .u64 (r.getD j 0))):=λj hj=>by
  rw[hb0.cell,List.getElem?_toArray,u64s_get (by omega)]
 clear hb0 hW0 hr8 h64 HB0 HR8
 generalize (u64s r).toArray=Z at *
 go_enter Tryz.func112,Tryz.ntmps112
 go_wp2_with fail
 rw[←HW0.out]
 go_loopg [4] 3 (λgh s4 wx=>∃k b:Nat,k+gh=3∧b=2*k+1∧s4= .int .i64 (b:Int)∧Hid (∀j,j<k→r.getD (2*j+1) 0≠0)∧wx=W0)
 case atStart=>exact⟨0,1,by omega,by omega,rfl,λj hj=>by omega,rfl⟩
 case round=>
  obtain⟨k,b,hk,hb,rfl,HP,rfl⟩:=hrel
  have hb0:(0:Int)≤(b:Int):=by omega
  have hb1:(1:Int)≤(b:Int):=by omega
  have hsl:=slice_1to8 w.heap.size b (by omega) (by omega)
  obtain⟨n,hn⟩:∃n,n=2*k:=⟨_,rfl⟩
  rw[show b-1=n by omega] at hsl
  by_cases h7:b<7
  ·have h7':(b:Int)<7:=by omega
   have hc:=HCELL.out b (by omega)
   by_cases hx:r.getD b 0=0
   ·have HE:=Lib.hid (HEND.out k (by omega) HP.out (.inr (by rw[←hb];exact hx)) n hn)
    rw[hx] at hc
    clear hx hk hn hb
    go_wp2_with fail
    refine HE.out.mono ?_;rintro e w' hp
    rcases hp with ⟨g,rfl,a2,a3,a4,a5⟩|⟨rfl,a2,a3⟩
    ·have HF:Hid (EntsLPost w (entsOfR r) (cntE r) (.returned (.tuple #[.slice (some ⟨g,0,none⟩) (cntE r) (cntE r),.bool true])) w'):= .inl ⟨g,rfl,a2,a3,a4,a5⟩
     clear a2 a3 a4 a5
     go_wp2_with fail
     go_ret2
     exact HF.out
    ·have HF:Hid (EntsLPost w (entsOfR r) (cntE r) (.returned (.tuple #[.slice none 0 0,.bool false])) w'):= .inr ⟨rfl,a2,a3⟩
     clear a2 a3
     go_wp2_with fail
     go_ret2
     exact HF.out
   ·have HN:Hid (∀j,j<k+1→r.getD (2*j+1) 0≠0):=λj hj=>by
     by_cases e:j=k
     ·subst e;rw[←hb];exact hx
     ·exact HP.out j (by omega)
    have hx':(r.getD b 0 != 0)=true:=bne_iff_ne.2 hx
    clear hx
    generalize r.getD b 0=x at *
    have HBK:Hid (b=2*k+1∧k+gk=3):=⟨hb,hk⟩
    clear hsl hb hk hn
    go_wp2_with fail
    go_roundg (gk-1)
    case measure=>have :=HBK.out;omega
    case rel=>exact⟨k+1,b+2,by have :=HBK.out;omega,by have :=HBK.out;omega,by go_num,HN.out,rfl⟩
  ·have h7':¬(b:Int)<7:=by omega
   have HE:=Lib.hid (HEND.out k (by omega) HP.out (.inl (by omega)) n hn)
   clear hk hn hb
   go_wp2_with fail
   refine HE.out.mono ?_;rintro e w' hp
   rcases hp with ⟨g,rfl,a2,a3,a4,a5⟩|⟨rfl,a2,a3⟩
   ·have HF:Hid (EntsLPost w (entsOfR r) (cntE r) (.returned (.tuple #[.slice (some ⟨g,0,none⟩) (cntE r) (cntE r),.bool true])) w'):= .inl ⟨g,rfl,a2,a3,a4,a5⟩
    clear a2 a3 a4 a5
    go_wp2_with fail
    go_ret2
    exact HF.out
   ·have HF:Hid (EntsLPost w (entsOfR r) (cntE r) (.returned (.tuple #[.slice none 0 0,.bool false])) w'):= .inr ⟨rfl,a2,a3⟩
    clear a2 a3
    go_wp2_with fail
    go_ret2
    exact HF.out
end Go.Proofs.YtphojondgfjmgaaGreatDoor
namespace Go.Proofs.YtphojondgfjmgaaGreatDoor
open Go.Shelf
def sortEnt_ren:Go.Shelf.Ren:=⟨λ|6=> 113|15=> 123|14=> 122|28=> 135|29=> 136|20=> 127|21=> 128|22=> 129|23=> 130|24=> 131|25=> 132|26=> 133|27=> 134|46=> 137|47=> 138|48=> 139|49=> 140|50=> 141|57=> 142|n=>n,λ|22=> 35|24=> 85|25=> 165|3=> 3|39=> 98|0=> 0|53=> 179|55=> 29|4=> 4|46=> 184|45=> 183|50=> 45|5=> 5|9=> 9|66=> 190|70=> 194|76=> 196|77=> 197|n=>n,λ|n=>n⟩
theorem sortEnt:Go.Proofs.SlLaysF0.n6 Tryz.prog sortEnt_ren:={
 mixed:=by kernel_rfl
 f6:=⟨Tryz.f113.name,by decide,Tryz.func113.trans (congrArg some (by kernel_rfl))⟩
 f14:=⟨Tryz.f122.name,by decide,Tryz.func122.trans (congrArg some (by kernel_rfl))⟩
 f15:= Tryz.func123.trans (congrArg some (by kernel_rfl))
 f20:=⟨Tryz.f127.name,by decide,Tryz.func127.trans (congrArg some (by kernel_rfl))⟩
 f21:=⟨Tryz.f128.name,by decide,Tryz.func128.trans (congrArg some (by kernel_rfl))⟩
 f22:=⟨Tryz.f129.name,by decide,Tryz.func129.trans (congrArg some (by kernel_rfl))⟩
 f23:=⟨Tryz.f130.name,by decide,Tryz.func130.trans (congrArg some (by kernel_rfl))⟩
 f24:=⟨Tryz.f131.name,by decide,Tryz.func131.trans (congrArg some (by kernel_rfl))⟩
 f25:=⟨Tryz.f132.name,by decide,Tryz.func132.trans (congrArg some (by kernel_rfl))⟩
 f26:=⟨Tryz.f133.name,by decide,Tryz.func133.trans (congrArg some (by kernel_rfl))⟩
 f27:=⟨Tryz.f134.name,by decide,Tryz.func134.trans (congrArg some (by kernel_rfl))⟩
 f28:= Tryz.func135.trans (congrArg some (by kernel_rfl))
 f29:= Tryz.func136.trans (congrArg some (by kernel_rfl))
 f46:=⟨Tryz.f137.name,by decide,Tryz.func137.trans (congrArg some (by kernel_rfl))⟩
 f47:= Tryz.func138.trans (congrArg some (by kernel_rfl))
 f48:= Tryz.func139.trans (congrArg some (by kernel_rfl))
 f49:=⟨Tryz.f140.name,by decide,Tryz.func140.trans (congrArg some (by kernel_rfl))⟩
 f50:=⟨Tryz.f141.name,by decide,Tryz.func141.trans (congrArg some (by kernel_rfl))⟩
 f57:=⟨Tryz.f142.name,by decide,Tryz.func142.trans (congrArg some (by kernel_rfl))⟩
 t0:= Tryz.underlying0
 a0:= Tryz.isAgg0
 z0:= Tryz.sizeOf0
 v0:= Tryz.zeroValue0
 t3:= Tryz.underlying3
 a3:= Tryz.isAgg3
 z3:= Tryz.sizeOf3
 v3:= Tryz.zeroValue3
 t4:= Tryz.underlying4
 a4:= Tryz.isAgg4
 z4:= Tryz.sizeOf4
 v4:= Tryz.zeroValue4
 t5:= Tryz.underlying5
 a5:= Tryz.isAgg5
 z5:= Tryz.sizeOf5
 v5:= Tryz.zeroValue5
 t9:= Tryz.underlying9
 a9:= Tryz.isAgg9
 z9:= Tryz.sizeOf9
 v9:= Tryz.zeroValue9
 t22:= Tryz.underlying35
 a22:= Tryz.isAgg35
 z22:= Tryz.sizeOf35
 v22:= Tryz.zeroValue35
 t25:= Tryz.underlying165
 a25:= Tryz.isAgg165
 z25:= Tryz.sizeOf165
 v25:= Tryz.zeroValue165
 t39:= Tryz.underlying98
 a39:= Tryz.isAgg98
 z39:= Tryz.sizeOf98
 v39:= Tryz.zeroValue98
 t45:= Tryz.underlying183
 a45:= Tryz.isAgg183
 z45:= Tryz.sizeOf183
 v45:= Tryz.zeroValue183
 t46:= Tryz.underlying184
 a46:= Tryz.isAgg184
 z46:= Tryz.sizeOf184
 v46:= Tryz.zeroValue184
 t50:= Tryz.underlying45
 a50:= Tryz.isAgg45
 z50:= Tryz.sizeOf45
 v50:= Tryz.zeroValue45
 t53:= Tryz.underlying179
 a53:= Tryz.isAgg179
 z53:= Tryz.sizeOf179
 v53:= Tryz.zeroValue179
 t55:= Tryz.underlying29
 a55:= Tryz.isAgg29
 z55:= Tryz.sizeOf29
 v55:= Tryz.zeroValue29
 t66:= Tryz.underlying190
 a66:= Tryz.isAgg190
 z66:= Tryz.sizeOf190
 v66:= Tryz.zeroValue190
 t70:= Tryz.underlying194
 a70:= Tryz.isAgg194
 z70:= Tryz.sizeOf194
 v70:= Tryz.zeroValue194
 t76:= Tryz.underlying196
 a76:= Tryz.isAgg196
 z76:= Tryz.sizeOf196
 v76:= Tryz.zeroValue196
 t77:= Tryz.underlying197
 a77:= Tryz.isAgg197
 z77:= Tryz.sizeOf197
 v77:= Tryz.zeroValue197 }
end Go.Proofs.YtphojondgfjmgaaGreatDoor
namespace Go.Proofs.YtphojondgfjmgaaGreatDoor
open Go.RowKit
def cmpN (a b:ByteArray):Int:=if Op.bytesLess a.toList b.toList=true then -1 else if (a.toList==b.toList)=true then 0 else 1
set_option maxHeartbeats 400000 in
theorem isNaN_at (a:ByteArray) (w:World):Calls Tryz.prog 124 #[.string a] w λe w'=>e= .returned (.bool false)∧w=w':=by
 go_enter Tryz.func124,Tryz.ntmps124
 go_wp2_with fail
 go_ret
 exact⟨by simp,rfl⟩
set_option maxHeartbeats 1000000 in
theorem compare_at (a b:ByteArray) (w:World):Calls Tryz.prog 115 #[.string a,.string b] w λe w'=>e= .returned (.int .i64 (cmpN a b))∧w=w':=by
 by_cases h1:Op.bytesLess a.toList b.toList=true
 ·rw[show cmpN a b= -1 from if_pos h1]
  go_enter Tryz.func115,Tryz.ntmps115
  go_wp2_with fail
  refine(isNaN_at _ _).mono ?_;rintro e w' ⟨rfl,rfl⟩
  go_wp2_with fail
  refine(isNaN_at _ _).mono ?_;rintro e w' ⟨rfl,rfl⟩
  go_wp2_with fail
  go_ret
  exact⟨rfl,rfl⟩
 ·by_cases h2:(a.toList==b.toList)=true
  ·rw[show cmpN a b=0 by unfold cmpN;rw[if_neg h1,if_pos h2]]
   go_enter Tryz.func115,Tryz.ntmps115
   go_wp2_with fail
   refine(isNaN_at _ _).mono ?_;rintro e w' ⟨rfl,rfl⟩
   go_wp2_with fail
   refine(isNaN_at _ _).mono ?_;rintro e w' ⟨rfl,rfl⟩
   go_wp2_with fail
   go_ret
   exact⟨rfl,rfl⟩
  ·rw[show cmpN a b=1 by unfold cmpN;rw[if_neg h1,if_neg h2]]
   have h3:(a.toList==b.toList)=false:=by simpa using h2
   go_enter Tryz.func115,Tryz.ntmps115
   go_wp2_with fail
   refine(isNaN_at _ _).mono ?_;rintro e w' ⟨rfl,rfl⟩
   go_wp2_with fail
   refine(isNaN_at _ _).mono ?_;rintro e w' ⟨rfl,rfl⟩
   go_wp2_with fail
   go_ret
   exact⟨rfl,rfl⟩
set_option maxHeartbeats 1000000 in
theorem byName_at (a b:ByteArray) (x y:Int) (w:World):Calls Tryz.prog 114 #[.agg #[.string a,.int .i64 x],.agg #[.string b,.int .i64 y]] w λe w'=>e= .returned (.int .i64 (cmpN a b))∧∃q os',w'=Go.Sort.grow (w.drewN q) os':=by
 have hcon:=λwx=>compare_at a b wx
 generalize cmpN a b=r at hcon ⊢
 go_enter Tryz.func114,Tryz.ntmps114
 go_wp2_with fail
 refine(hcon _).mono ?_;rintro e w' ⟨rfl,rfl⟩
 go_wp2_with fail
 go_ret
 exact⟨rfl,0,_,by rw[Go.Sort.alloc_eq_grow,Go.Sort.alloc_eq_grow,Go.Sort.grow_grow];rfl⟩
theorem ltN (x y:ByteArray×Int):Go.Proofs.ltOf (λa b:ByteArray×Int=>cmpN a.1 b.1) x y=Op.bytesLess x.1.toList y.1.toList:=by
 show decide (cmpN x.1 y.1<0)=_
 unfold cmpN
 cases h:Op.bytesLess x.1.toList y.1.toList with
 |true=>rw[if_pos rfl];rfl
 |false=>
  rw[if_neg (by decide)]
  by_cases h2:(x.1.toList==y.1.toList)=true
  ·rw[if_pos h2];rfl
  ·rw[if_neg h2];rfl
theorem swoN:Go.Sort.SWO (Go.Proofs.ltOf λa b:ByteArray×Int=>cmpN a.1 b.1) where
 irrefl x:=by rw[ltN];exact less_irrefl _
 trans x y z h1 h2:=by rw[ltN] at *;exact less_trans _ _ _ h1 h2
 ntrans x y z h1 h2:=by
  rw[ltN] at *
  by_cases e:y.1.toList=z.1.toList
  ·rw[←e];exact h1
  ·have h3:=less_total _ _ h2 e
   cases h4:Op.bytesLess x.1.toList z.1.toList with
   |false=>rfl
   |true=>
    have h5:=less_trans _ _ _ h4 h3
    rw[h1] at h5
    cases h5
end Go.Proofs.YtphojondgfjmgaaGreatDoor
namespace Go.Proofs.YtphojondgfjmgaaGreatDoor
open Go.RowKit Go.Shelf Go.Sort
theorem insert_nil (w:World) (fv:Value):Calls Tryz.prog 127 #[.slice none 0 0,.int .i64 0,.int .i64 0,fv] w λe w'=>e= .returned (.tuple #[])∧w=w':=by
 go_enter Tryz.func127,Tryz.ntmps127
 go_wp2_with fail
 go_loopg [8] 0 (λgh s8 wx=>gh=0∧s8= .int .i64 1∧w=wx)
 case atStart=>exact⟨rfl,rfl,rfl⟩
 case round=>
  obtain⟨-,rfl,rfl⟩:=hrel
  go_wp2_with fail
  go_end0
  exact⟨rfl,rfl⟩
set_option maxRecDepth 100000 in
theorem pdq_nil (w:World) (fv:Value):Calls Tryz.prog 122 #[.slice none 0 0,.int .i64 0,.int .i64 0,.int .i64 0,fv] w λe w'=>e= .returned (.tuple #[])∧w=w':=by
 go_enter Tryz.func122,Tryz.ntmps122
 go_wp2_with fail
 go_loopg [1,2,3] 0 (λgh s1 s2 s3 wx=>gh=0∧s1= .int .i64 0∧s2= .int .i64 0∧s3= .int .i64 0∧w=wx)
 case atStart=>exact⟨rfl,rfl,rfl,rfl,rfl⟩
 case round=>
  obtain⟨-,rfl,rfl,rfl,rfl⟩:=hrel
  go_wp2_with fail
  refine(insert_nil _ _).mono ?_;rintro e w' ⟨rfl,rfl⟩
  go_wp2_with fail
  refine bodyPost_ret (results_none rfl _ _ _) rfl ?_
  exact⟨rfl,rfl⟩
set_option maxRecDepth 100000 in
theorem sort_nil (w:World) (fv:Value):Calls Tryz.prog 113 #[.slice none 0 0,fv] w λe w'=>e= .returned (.tuple #[])∧w=w':=by
 have hl:Calls Tryz.prog 123 #[.int .u64 0] w λe w'=>e= .returned (.int .i64 (Lib.bitLen 0:Nat))∧w'=w:=Any.bits_Len (SlLaysF0.n15.bits (P:= Tryz.prog) (ρ:=sortEnt_ren) { sortEnt with }) 0 w (by omega) (by omega)
 rw[show Lib.bitLen 0=0 from rfl] at hl
 go_enter Tryz.func113,Tryz.ntmps113
 go_wp2_with fail
 refine hl.mono ?_;rintro e w' ⟨rfl,rfl⟩
 go_wp2_with fail
 refine(pdq_nil _ _).mono ?_;rintro e w' ⟨rfl,rfl⟩
 go_wp2_with fail
 go_end0
 exact⟨rfl,rfl⟩
def encE (p:ByteArray×Int):List Value:=[.string p.1,.int .i64 p.2]
theorem flatK_get (E:List (ByteArray×Int)) (t:Nat) (h:t<E.length*2):(ecells E)[t]? =some (flatK encE 2 E.toArray)[t]! :=by
 have hd:t/2<E.length:=by omega
 rw[get_flatK _ _ _ _ (by simpa using h)]
 have hx:E.toArray[t/2]! =(enm E (t/2),eno E (t/2)):=by
  rw[getElem!_pos _ _ (by simpa using hd)]
  simp[enm,eno,List.getD_eq_getElem?_getD,hd]
 rw[hx]
 have hg:=ecells_get E (t/2) hd
 rcases (show t%2=0∨t%2=1 by omega) with hm|hm
 ·rw[show t/2*2=t by omega] at hg
  rw[hm,hg.1]
  rfl
 ·rw[show t/2*2+1=t by omega] at hg
  rw[hm,hg.2]
  rfl
theorem bytes_cf (p q:ByteArray×Int):ltOf (λa b:ByteArray×Int=>cmpN a.1 b.1) p q=Op.bytesLess p.1.toList q.1.toList:=ltN p q
set_option maxHeartbeats 1000000 in
theorem sortEnts_at {w:World} {base:Nat} {v:Value} {E:List (ByteArray×Int)} (h:w.ownsRow base 85 2 v E.length (ecells E)) (hlen:E.length≤10000):
  Calls Tryz.prog 113 #[v,.func (.func 114) #[] #[]] w λe w'=>e= .returned (.tuple #[])∧∃E',E'.Perm E∧
   (∀i j,i<j→j<E'.length→Op.bytesLess (enm E' j).toList (enm E' i).toList=false)∧w'.ownsRow base 85 2 v E'.length (ecells E')∧∃l,Keeps l w w'∧∀k,k∈l→v.ownBlock=some k:=by
 obtain⟨hl,h⟩:=h
 rcases h with ⟨rfl,hn⟩|⟨g,cap,cur,rfl,hg,hh,hcap,hmax,hsz,htk⟩
 ·have hE:E=[]:=List.eq_nil_of_length_eq_zero hn
  subst hE
  refine(sort_nil w _).mono λe w' he=>⟨he.1,[],List.Perm.refl _,λi j _ hj=>by simp at hj,he.2▸⟨rfl,.inl ⟨rfl,rfl⟩⟩,[],he.2▸Keeps.refl _ _,λk hk=>by cases hk⟩
 ·have hcell:∀t,t<E.length*2→w.cell? ⟨g,t,none⟩=some (flatK encE 2 E.toArray)[t]! :=λt ht=>by
   have hb:Blk w g cur 85 :=hh
   rw[hb.cell,←flatK_get E t ht,←htk,List.getElem?_take_of_lt ht,Array.getElem?_toList]
  have hH:HoldsK encE 2 w g 0 E.toArray:=λj hj=>by
   rw[size_flatK] at hj
   rw[Nat.zero_add]
   exact⟨hcell j (by simpa using hj),Blk.frozen (c:=cur) (T:= 85) hh j⟩
  have hs:=AnyQ.slices_SortFunc sortEnt 2 (λw=>by kernel_rfl) (λw=>by kernel_rfl) encE (λ_=>rfl) (λx u hu=>by
   simp only[encE,List.mem_cons,List.not_mem_nil,or_false] at hu
   rcases hu with rfl|rfl<;>rfl) (λa b:ByteArray×Int=>cmpN a.1 b.1) swoN 114 #[] g 0 cap E.toArray w (enters_of Tryz.func114 (by kernel_rfl) rfl) (λm os dk _ x y=>byName_at x.1 y.1 x.2 y.2 _) hH (Array.getElem?_eq_some_iff.1 hh).1 (by simp;omega)
  refine(show Calls _ _ _ _ _ from hs).mono ?_
  rintro e w' ⟨rfl,d',m,os,hp,hsd,rfl⟩
  obtain⟨hds,-,hperm⟩:=hp
  have hds':d'.size=E.length:=by simpa using hds
  have hx1:d'.extract 0 E.toArray.size=d':=by rw[←hds];exact Array.extract_size
  have hx2:E.toArray.extract 0 E.toArray.size=E.toArray:=Array.extract_size
  rw[hx1,hx2] at hperm
  have hlt:=(Array.getElem?_eq_some_iff.1 hh).1
  have hblk:(sortWorldK encE 2 w g 0 m d' os).heap[g]? =some (.cells (putCells id 0 (flatK encE 2 d') cur) 85 (0,0)):=by
   show((w.heap.modify g _)++os)[g]? =_
   rw[Array.getElem?_append_left (by rw[Array.size_modify];exact hlt),Array.getElem?_modify,if_pos rfl,hh]
   rfl
  have hkeep:Keeps [g] w (sortWorldK encE 2 w g 0 m d' os):=by
   refine⟨rfl,rfl,rfl,?_,λk hk hkg=> ?_⟩
   ·show w.heap.size≤((w.heap.modify g _)++os).size
    rw[Array.size_append,Array.size_modify]
    omega
   ·show((w.heap.modify g _)++os)[k]? =_
    rw[Array.getElem?_append_left (by rw[Array.size_modify];exact hk),Array.getElem?_modify,if_neg (λe=>hkg (by rw[←e];simp))]
  have hfs:(flatK encE 2 d').size=E.length*2:=by rw[size_flatK,hds']
  have hdl:d'.toList.length=E.length:=by rw[Array.length_toList,hds']
  refine⟨rfl,d'.toList,hperm,λi j hij hj=> ?_,⟨by rw[ecells_len],.inr ⟨g,cap,_,by rw[hdl],hg,hblk,by rw[hdl];exact hcap,hmax,by simp[putCells,hsz],?_⟩⟩,[g],hkeep,λk hk=>by rw[List.mem_singleton] at hk;rw[hk];rfl⟩
  ·have h1:=hsd i j (Nat.zero_le _) hij (by rw[List.size_toArray];omega)
   rw[bytes_cf] at h1
   have e:∀k:Nat,k<d'.size→d'[k]! =(enm d'.toList k,eno d'.toList k):=λk hk=>by
    rw[getElem!_pos d' k hk]
    simp[enm,eno,List.getD_eq_getElem?_getD,hk]
   rw[e j (by omega),e i (by omega)] at h1
   exact h1
  ·apply List.ext_getElem?
   intro t
   rw[hdl]
   by_cases ht:t<E.length*2
   ·rw[List.getElem?_take_of_lt ht,flatK_get d'.toList t (by rw[hdl];exact ht)]
    have hc:t<cur.size:=by omega
    simp only[putCells,Array.getElem?_toList,Array.getElem?_mapIdx,Nat.zero_le,true_and,Nat.zero_add,Nat.sub_zero,Array.toArray_toList]
    rw[Array.getElem?_eq_getElem hc,Option.map_some,hfs,if_pos ht]
    rfl
   ·rw[List.getElem?_eq_none (by rw[List.length_take];omega),List.getElem?_eq_none (by rw[ecells_len,hdl];omega)]
end Go.Proofs.YtphojondgfjmgaaGreatDoor
namespace Go.Proofs.YtphojondgfjmgaaGreatDoor
open Go.RowKit
instance entsOkDec (L:List Int) (n:Nat):Decidable (EntsLOk L n):=inferInstanceAs (Decidable (∀k,k<n→_))
def blkE (X:List Int) (b:Nat):List (ByteArray×Int):=entsL (entsOfR (rowL X (1080+8*b))) (cntE (rowL X (1080+8*b)))
def blkOk (X:List Int) (b:Nat):Prop:=EntsLOk (entsOfR (rowL X (1080+8*b))) (cntE (rowL X (1080+8*b)))
instance (X:List Int) (b:Nat):Decidable (blkOk X b):=entsOkDec _ _
def chainD (X:List Int):Nat→Int→List Nat→List (ByteArray×Int)→Option (List Nat×List (ByteArray×Int))
 |0,_,_,_=>none
 |n+1,b,own,E=>if b=0 then some (own,E) else if 256≤b∨own.length=24 then none else
   if blkOk X b.toNat then chainD X n (X.getD (1080+8*b.toNat) 0) (own++[b.toNat]) (E++blkE X b.toNat) else none
def seemTo (X L:List Int):Nat→Option (List Nat×List (ByteArray×Int))
 |0=>some ([],[])
 |q+1=>(seemTo X L q).bind λr=>chainD X (25-r.1.length) (L.getD (2+q) 0) r.1 r.2
def seemD (X L:List Int):Option (List Nat×List (ByteArray×Int)):=seemTo X L 4
theorem seemTo_none {X L:List Int} {k:Nat} (h:seemTo X L k=none):∀{n:Nat},k≤n→seemTo X L n=none:=by
 intro n hn
 induction hn with
 |refl=>exact h
 |step _ ih=>rw[seemTo,ih];rfl
structure SeemOk (own:List Nat) (E:List (ByteArray×Int)):Prop where
 len:own.length≤24
 num:∀c,c∈own→0<c∧c<256
 ents:E.length≤3*own.length
 size:∀p,p∈E→p.1.size≤7
theorem blkE_len (X:List Int) (b:Nat):(blkE X b).length≤3:=by rw[blkE,entsL_len];exact cntE_le _
theorem blkE_size (X:List Int) (b:Nat):∀p,p∈blkE X b→p.1.size≤7:=by
 intro p hp
 unfold blkE at hp
 obtain⟨k,hk,rfl⟩:=List.getElem_of_mem hp
 rw[entsL_getElem _ _ k (by rwa[entsL_len] at hk)]
 exact name_size _
theorem SeemOk.step {own:List Nat} {E:List (ByteArray×Int)} (h:SeemOk own E) (X:List Int) {b:Nat} (h1:0<b) (h2:b<256) (h3:own.length<24):SeemOk (own++[b]) (E++blkE X b):=by
 have :=blkE_len X b
 have :=h.ents
 refine⟨by simp;omega,λc hc=> ?_,by simp;omega,λp hp=> ?_⟩
 ·rcases List.mem_append.1 hc with hm|hm
  ·exact h.num c hm
  ·rw[List.mem_singleton] at hm;omega
 ·rcases List.mem_append.1 hp with hm|hm
  ·exact h.size p hm
  ·exact blkE_size X b p hm
theorem SeemOk.nil:SeemOk [] []:=⟨by simp,λc h=>by simp at h,by simp,λp h=>by simp at h⟩
def SeemDPost (w:World) (X L:List Int) (e:Ending) (w':World):Prop:=
 (∃own E E' ve ge vo go,e= .returned (.tuple #[ve,vo,.bool true])∧seemD X L=some (own,E)∧SeemOk own E∧E'.Perm E∧(∀i j,i<j→j<E'.length→Op.bytesLess (enm E' j).toList (enm E' i).toList=false)∧
  EReads w' ve ge E'∧w.heap.size≤ge∧RowI w' vo go own∧w.heap.size≤go∧Keeps [] w w')∨
 (e= .returned (.tuple #[.slice none 0 0,.slice none 0 0,.bool false])∧seemD X L=none∧Keeps [] w w')
theorem sliceD (b:Nat) (w:World):(Instr.sliceAt 74 (.pointer (some ⟨b,0,none⟩)) (some (.int .i64 2)) (some (.int .i64 6)) none).run Tryz.prog w= .ok (.slice (some ⟨b,2,none⟩) 4 6) w:=by show Sem.run _ _ _=_;kernel_rfl
structure SeemR (w wx:World) (v7 v8:Value) (own:List Nat) (E:List (ByteArray×Int)):Prop where
 ents:wx.ownsRow (w.heap.size+1) 85 2 v7 E.length (ecells E)
 nums:wx.ownsRow (w.heap.size+1) 3 1 v8 own.length (i64s own)
 keep:Keeps [] w wx
 ok:SeemOk own E
theorem rows_apart {w:World} {b1 b2 T1 T2 z1 z2 n1 n2:Nat} {v1 v2:Value} {xs1 xs2:List Value} (h1:w.ownsRow b1 T1 z1 v1 n1 xs1) (h2:w.ownsRow b2 T2 z2 v2 n2 xs2) (hT:T1≠T2):∀g,v1.ownBlock=some g→v2.ownBlock≠some g:=by
 intro g e1 e2
 obtain⟨-,h1⟩:=h1
 obtain⟨-,h2⟩:=h2
 rcases h1 with ⟨rfl,-⟩|⟨g1,c1,cur1,rfl,-,hh1,-⟩
 ·cases e1
 ·rcases h2 with ⟨rfl,-⟩|⟨g2,c2,cur2,rfl,-,hh2,-⟩
  ·cases e2
  ·cases e1
   cases e2
   have h1':w.heap[g1]? =some (.cells cur1 T1 (0,0)):=hh1
   have h2':w.heap[g1]? =some (.cells cur2 T2 (0,0)):=hh2
   rw[h1'] at h2'
   cases h2'
   exact hT rfl
theorem ownsRow_grown {w w':World} {base T sz n:Nat} {v:Value} {xs:List Value} {row:Option Nat} (h:w.ownsRow base T sz v n xs) (hg:w.grownBy w' row) (hne:∀g,v.ownBlock=some g→row≠some g):w'.ownsRow base T sz v n xs:=by
 obtain⟨h0,h1⟩:=h
 refine⟨h0,?_⟩
 rcases h1 with ⟨e1,e2⟩|⟨g2,cap,cur,e1,e2,hh,e3⟩
 ·exact .inl ⟨e1,e2⟩
 ·refine .inr ⟨g2,cap,cur,e1,e2,?_,e3⟩
  rw[←hh]
  exact hg.block g2 (Array.getElem?_eq_some_iff.1 hh).1 λe4=>hne g2 (by rw[e1];rfl) e4.symm
theorem SeemR.keeps {w wx wy:World} {v7 v8:Value} {own:List Nat} {E:List (ByteArray×Int)} (h:SeemR w wx v7 v8 own E) (hk:Keeps [] wx wy):SeemR w wy v7 v8 own E:=
 ⟨ownsRow_keep h.ents hk (by simp),ownsRow_keep h.nums hk (by simp),h.keep.trans' hk,h.ok⟩
theorem Owns.cellsA {w:World} {g T sz n cap:Nat} {xs:List Value} (h:Owns w (.slice (some ⟨g,0,none⟩) n cap) g T sz n xs):n≠0→∃ad,some (⟨g,0,none⟩:Addr)=some ad∧∀j u,xs[j]? =some u→w.cell? (ad.add j)=some u:=λhn=>by
 obtain⟨-,-,hc,-⟩:=h.cell hn
 refine⟨_,rfl,λj u hu=> ?_⟩
 have hj:j<xs.length:=(List.getElem?_eq_some_iff.1 hu).1
 rw[h.len] at hj
 rw[add_plain,Nat.zero_add,hc j hj,hu]
set_option maxRecDepth 100000 in
set_option maxHeartbeats 8000000 in
theorem seemDir_at {w:World} {b gp:Nat} {B:List Int} {ps:List (Int×Int)} (hSh:ShAt w b gp B ps) (hX64:W64 (putAll B ps)) {L:List Int} (hL:L.length=8) (hL64:W64 L):
  Calls Tryz.prog 99 #[.pointer (some ⟨b,0,none⟩),.agg (u64s L).toArray] w (SeemDPost w (putAll B ps) L):=by
 obtain⟨ie,hie,hze0,hze1,hze2⟩:=info_parts Tryz.info_entry
 obtain⟨ii,hii,hzi0,hzi1,hzi2⟩:=info_parts Tryz.info_int
 have hb3:=Blk.new w (u64s L).toArray 74
 obtain⟨W0,hW0⟩:∃W0,W0=w.alloc (.cells (u64s L).toArray 74):=⟨_,rfl⟩
 rw[←hW0] at hb3
 have hk0:Keeps [] w W0:=by
  rw[hW0]
  exact(Keeps.refl _ _).alloc _
 have hs0:W0.heap.size=w.heap.size+1:=by rw[hW0];simp
 have HW0:=Lib.hid hW0
 have HB3:=Lib.hid hb3
 have HSH:=Lib.hid hSh
 have HX64:=Lib.hid hX64
 have HST:Hid (SeemR w W0 (.slice none 0 0) (.slice none 0 0) [] []):=⟨⟨rfl,.inl ⟨rfl,rfl⟩⟩,⟨rfl,.inl ⟨rfl,rfl⟩⟩,hk0,SeemOk.nil⟩
 have HC:Hid (∀q wx,q<4→Keeps [] W0 wx→wx.cell? ⟨w.heap.size,2+q,none⟩=some (.int .u64 (L.getD (2+q) 0))):=λq wx hq hk=>by rw[(hb3.keep hk (by simp)).cell,List.getElem?_toArray,u64s_get (by omega)]
 have HL64:=Lib.hid hL64
 have hsl:=sliceD w.heap.size
 clear hb3 hk0 hW0 hSh hX64 hL hL64
 generalize hXX:putAll B ps=X at *
 have HXX:=Lib.hid hXX
 clear hXX
 generalize (u64s L).toArray=ZL at *
 go_enter Tryz.func99,Tryz.ntmps99
 go_wp2_with fail
 rw[←HW0.out]
 go_loopg [7,8,17] 4 (λgh s7 s8 s17 wx=>∃(q:Nat) (own:List Nat) (E:List (ByteArray×Int)),q+gh=4∧s17= .int .i64 (q:Int)∧Hid (seemTo X L q=some (own,E)∧SeemR w wx s7 s8 own E∧Keeps [] W0 wx))
 case atStart=>exact⟨0,[],[],rfl,rfl,rfl,HST.out,Keeps.refl _ _⟩
 case round=>
  clear HST
  obtain⟨q,own,E,hq,rfl,HP⟩:=hrel
  obtain⟨hst,hR,hkW⟩:=HP.out
  cases gk with
  |zero=>
   obtain rfl:q=4:=by omega
   have HSO:=Lib.hid (sortEnts_at hR.ents (by have :=hR.ok.ents;have :=hR.ok.len;omega))
   have HR:=Lib.hid hR
   have HST:=Lib.hid hst
   clear hst hR hkW HP
   go_wp2_with fail
   refine HSO.out.mono ?_
   rintro e w1 ⟨rfl,E',hperm,hsrt,hrow,l,hkl,hl⟩
   have HF:Hid (SeemDPost w X L (.returned (.tuple #[u7,u8,.bool true])) w1):=by
    have hn8:w1.ownsRow (w.heap.size+1) 3 1 u8 own.length (i64s own):=ownsRow_keep HR.out.nums hkl λk hk hm=>rows_apart HR.out.ents HR.out.nums (by decide) k (hl k hm) hk
    obtain⟨ge,hoe,hge⟩:=Owns.of_row hrow
    obtain⟨go,hoo,hgo⟩:=RowI.of_row hn8
    have hkF:Keeps [] w w1:=HR.out.keep.trans hkl λk hk=> .inr (by have :=ownsRow_block HR.out.ents k (hl k hk);omega)
    have he:∃ge',EReads w1 u7 ge' E'∧w.heap.size≤ge':=by
     by_cases h0:E'.length=0
     ·exact⟨w.heap.size,(hoe.ereads rfl).anyG h0 _,Nat.le_refl _⟩
     ·exact⟨ge,hoe.ereads rfl,by have :=(hge h0).1;omega⟩
    have ho:∃go',RowI w1 u8 go' own∧w.heap.size≤go':=⟨go,hoo,by omega⟩
    obtain⟨ge',h1,h2⟩:=he
    obtain⟨go',h3,h4⟩:=ho
    exact .inl ⟨own,E,E',u7,ge',u8,go',rfl,HST.out,HR.out.ok,hperm,hsrt,h1,h2,h3,h4,hkF⟩
   clear hperm hsrt hrow hkl hl HR HST HSO
   go_wp2_with fail
   go_ret3
   exact HF.out
  |succ gg=>
   have hq4:q<4:=by omega
   have hlt:(q:Int)<4:=by omega
   have hq0:(0:Int)≤(q:Int):=by omega
   have c2:=HC.out q wr hq4 hkW
   have HF:Hid (L.getD (2+q) 0=L.getD (2+q) 0):=rfl
   have HF64:=HL64.out (2+q)
   have HST:=Lib.hid hst
   have HR:=Lib.hid hR
   have HKW:=Lib.hid hkW
   clear hst hR hkW HP
   generalize hfi:L.getD (2+q) 0=fi at *
   have HFI:=Lib.hid hfi
   clear hfi
   go_wp2_with fail
   go_loopg [7,8,11] (25-own.length) (λgh s7 s8 s11 wx=>∃(own':List Nat) (E':List (ByteArray×Int)) (bi:Int),own'.length+gh=25∧s11= .int .u64 bi∧Hid (chainD X gh bi own' E'=chainD X (25-own.length) fi own E∧0≤bi∧bi<18446744073709551616∧SeemR w wx s7 s8 own' E'∧Keeps [] W0 wx))
   case atStart=>exact⟨own,E,fi,by have :=HR.out.ok.len;omega,rfl,rfl,HF64.1,HF64.2,HR.out,HKW.out⟩
   case round=>
    obtain⟨own',E',bi,hlen,rfl,HP⟩:=hrel
    obtain⟨hch,hb0,hb64,hR',hkW'⟩:=HP.out
    have hlen24:=hR'.ok.len
    cases gk with
    |zero=>omega
    |succ gk=>
     have HCH:=Lib.hid hch
     have HR':=Lib.hid hR'
     have HKW':=Lib.hid hkW'
     have HNONE:Hid (∀wz,Keeps [] wr wz→chainD X (gk+1) bi own' E'=none→SeemDPost w X L (.returned (.tuple #[.slice none 0 0,.slice none 0 0,.bool false])) wz):=λwz hkz hn=>by
      refine .inr ⟨rfl,?_,HR'.out.keep.trans' hkz⟩
      refine seemTo_none (k:=q+1) ?_ (by omega)
      rw[seemTo,HST.out,HFI.out]
      show chainD X (25-own.length) fi own E=none
      rw[←HCH.out]
      exact hn
     clear hch hR' hkW' HP
     by_cases hz:bi=0
     ·subst hz
      go_wp2_with fail
      go_roundg gg
      case measure=>omega
      case rel=>
       refine⟨q+1,own',E',by omega,by simp,?_,HR'.out,HKW'.out⟩
       rw[seemTo,HST.out,HFI.out]
       show chainD X (25-own.length) fi own E=_
       rw[←HCH.out,chainD,if_pos rfl]
     ·have hbn:(bi==0)=false:=by simpa using hz
      obtain⟨a8,c8,rfl,hc8,hm8⟩:=ownsRow_val HR'.out.nums
      by_cases h256:(256:Int)≤bi
      ·have HF:=Lib.hid (HNONE.out _ (Keeps.refl _ _) (by rw[chainD,if_neg hz,if_pos (.inl h256)]))
       clear HNONE HCH HR' HKW'
       go_wp2_with fail
       go_ret3
       exact HF.out
      ·by_cases h24:own'.length=24
       ·have HF:=Lib.hid (HNONE.out _ (Keeps.refl _ _) (by rw[chainD,if_neg hz,if_pos (.inr h24)]))
        clear HNONE HCH HR' HKW'
        rw[h24]
        go_wp2_with fail
        go_ret3
        exact HF.out
       ·have h24':¬(own'.length:Int)=24:=by omega
        have h24b:((own'.length:Int)==24)=false:=by simpa using h24'
        obtain⟨c,hc⟩:∃c:Nat,bi=(c:Int):=⟨bi.toNat,by omega⟩
        have hc0:0<c:=by omega
        have hc256:c<256:=by omega
        have hwi:wrap64 bi=bi:=by unfold wrap64;omega
        have HBL:=Lib.hid (λwx=>txBlock_at bi wx)
        have HBN:Hid (blockN bi=((1080+8*c:Nat):Int)):=by
         show _=_
         rw[hc,blockN,if_neg (by omega)]
         omega
        have HROW:=Lib.hid (rowAt_at (HSH.out.keep HR'.out.keep (by simp) (by simp)) (1080+8*c) (by omega))
        rw[HXX.out] at HROW
        have HSTEP:Hid (chainD X (gk+1) bi own' E'=if blkOk X c then chainD X gk (X.getD (1080+8*c) 0) (own'++[c]) (E'++blkE X c) else none):=by
         show _=_
         rw[chainD,if_neg hz,if_neg (by omega),show bi.toNat=c by omega]
        have HCC:Hid (bi=(c:Int)∧0<c∧c<256):=⟨hc,hc0,hc256⟩
        have hrl8:=rowL_len X (1080+8*c)
        have HR64:Hid (W64 (rowL X (1080+8*c))):=W64.row HX64.out _
        have hx0:X.getD (1080+8*c) 0=(rowL X (1080+8*c)).getD 0 0:=(rowL_get X (1080+8*c) 0 (by omega)).symm
        have HX0:=Lib.hid hx0
        have HOKB:Hid (blkOk X c↔EntsLOk (entsOfR (rowL X (1080+8*c))) (cntE (rowL X (1080+8*c)))):=Iff.rfl
        have HEB:Hid (blkE X c=entsL (entsOfR (rowL X (1080+8*c))) (cntE (rowL X (1080+8*c)))):=rfl
        have hn3:=cntE_le (rowL X (1080+8*c))
        clear hc hc0 hc256 hx0
        generalize hpi:((1080+8*c:Nat):Int)=pi at *
        generalize rowL X (1080+8*c)=RX at *
        clear hpi
        have hz8v:=zero_r8
        generalize hz8:(u64s (List.replicate 8 0)).toArray=Z8 at *
        have HZ8:=Lib.hid hz8
        clear hz8
        go_wp2_with fail
        refine(HBL.out _).mono ?_;rintro e wy ⟨rfl,rfl⟩
        rw[HBN.out]
        go_wp2_with fail
        refine HROW.out.mono ?_;rintro e w1 ⟨rfl,hk1⟩
        obtain⟨w2,hS1,hb12,hk2⟩:=store_whole (P:= Tryz.prog) (ty:= 74) (cs:=u64s RX) (by rw[u64s_len,hrl8];exact size_r8) (Blk.new w1 Z8 74) (by rw[←HZ8.out];simp[u64s_len,hrl8]) (u64s_one _)
        have HS1:=Lib.hid hS1
        have HL1:=Lib.hid (load_r8 hb12 hrl8)
        have hz1:=hk1.size
        have hkr2:Keeps [] wr w2:=(hk1.alloc (.cells Z8 74)).trans hk2 (by intro x hx;rw[List.mem_singleton] at hx;omega)
        have HENT:=Lib.hid (entriesIn_at RX hrl8 HR64.out w2)
        have HB12:=Lib.hid hb12
        have HKR2:=Lib.hid hkr2
        have HZ1:Hid (wr.heap.size≤w1.heap.size):=hz1
        clear hS1 hb12 hk2 hkr2 hk1 HROW hz1
        generalize hg12:w1.heap.size=g12 at *
        go_wp2_with(first|((with_reducible show wpList _ _ _ (⟨_,.store 74 (.tmp 12) (.tmp 35),_,_,_,_⟩::_) _ _);refine wpList_store_any rfl 74 (.tmp 12) (.tmp 35) rfl _ rfl _ rfl _ HS1.out ?_)|((with_reducible show wpList _ _ _ (⟨_,.load 74 (.tmp 12),_,_,_,_⟩::_) _ _);refine wpList_load_any rfl 74 (.tmp 12) rfl _ rfl _ HL1.out ?_))
        refine HENT.out.mono ?_
        rintro e w3 (⟨ge,rfl,how,hge,hok,hk3⟩|⟨rfl,hok,hk3⟩)
        ·have HOW:=Lib.hid how
         have HK3:Hid (Keeps [] wr w3):=HKR2.out.trans' hk3
         have hR3:=HR'.out.keeps HK3.out
         obtain⟨v7',w4,hr7,ho7,hg7⟩:=run_append_any (P:= Tryz.prog) 35 85 35 ie _ 2 24 Tryz.underlying35 hie hze0 hze1 hze2 rfl (by omega) _ _ u7 _ hR3.ents (some ⟨ge,0,none⟩) (cntE RX) (cntE RX) _ how.len (Owns.cellsA how) (ecells_one _) (by have :=hR3.ok.ents;unfold maxLen;omega) (by have :=hR3.ok.ents;omega) (by have :=HK3.out.size;have :=HKW'.out.size;omega)
         have hbz3:w.heap.size+1≤w3.heap.size:=by have :=HK3.out.size;have :=HKW'.out.size;omega
         have hn8:w4.ownsRow (w.heap.size+1) 3 1 (.slice a8 own'.length c8) own'.length (i64s own'):=ownsRow_grown hR3.nums hg7 λg e8 e7=>rows_apart hR3.ents hR3.nums (by decide) g e7 e8
         have hk34:Keeps [] w w4:=hR3.keep.grown hg7 λk hk=>by have :=ownsRow_block hR3.ents k hk;omega
         have hb12':Blk w4 g12 (u64s RX).toArray 74 :=(hg7.block g12 ((HB12.out.keep hk3 (by simp)).lt) λe7=>by
          have h1:=ownsRow_lt HR'.out.ents g12 e7.symm
          have h2:=HZ1.out
          omega).trans (HB12.out.keep hk3 (by simp))
         have hbi:=Blk.new w4 #[.int .i64 bi] 3
         obtain⟨v8',w6,hr8,ho8,hg8⟩:=run_append_any (P:= Tryz.prog) 40 3 40 ii _ 1 8 Tryz.underlying40 hii hzi0 hzi1 hzi2 rfl (by omega) _ _ (.slice a8 own'.length c8) _ (ownsRow_keep hn8 ((Keeps.refl [] w4).alloc (.cells #[.int .i64 bi] 3)) (by simp)) (some ⟨w4.heap.size,0,none⟩) 1 1 [.int .i64 bi] rfl (λ_=>⟨_,rfl,λj u hu=>by
          have hj:j<1:=(List.getElem?_eq_some_iff.1 hu).1
          obtain rfl:j=0:=by omega
          rw[add_plain,hbi.cell]
          exact hu⟩) (λu hu=>by rw[List.mem_singleton] at hu;rw[hu];rfl) (by unfold maxLen;omega) (by omega) (by have :=hg7.size;simp;omega)
         have hn7:w6.ownsRow (w.heap.size+1) 85 2 v7' (E'++blkE X c).length (ecells (E'++blkE X c)):=by
          have h1:w4.ownsRow (w.heap.size+1) 85 2 v7' (E'++blkE X c).length (ecells (E'++blkE X c)):=by
           rw[HEB.out,ecells_append,List.length_append,entsL_len]
           exact ho7
          have h2:=ownsRow_keep h1 ((Keeps.refl [] w4).alloc (.cells #[.int .i64 bi] 3)) (by simp)
          exact ownsRow_grown h2 hg8 λg e7 e8=>rows_apart h2 (ownsRow_keep hn8 ((Keeps.refl [] w4).alloc (.cells #[.int .i64 bi] 3)) (by simp)) (by decide) g e7 e8
         have hn8':w6.ownsRow (w.heap.size+1) 3 1 v8' (own'++[c]).length (i64s (own'++[c])):=by
          have e:i64s (own'++[c])=i64s own'++[.int .i64 bi]:=by rw[HCC.out.1];simp[i64s]
          rw[e,List.length_append]
          exact ho8
         have hk46:Keeps [] w w6:=(hk34.alloc (.cells #[.int .i64 bi] 3)).grown hg8 λk hk=>by have :=ownsRow_block hn8 k hk;omega
         have hb126:Blk w6 g12 (u64s RX).toArray 74 :=(hg8.block g12 ((hb12'.alloc _).lt) λe8=>by
          have h1:=ownsRow_lt HR'.out.nums g12 e8.symm
          have h2:=HZ1.out
          omega).trans (hb12'.alloc _)
         have HRN:Hid (SeemR w w6 v7' v8' (own'++[c]) (E'++blkE X c)):=⟨hn7,hn8',hk46,HR'.out.ok.step X HCC.out.2.1 HCC.out.2.2 (by omega)⟩
         have HKW6:Hid (Keeps [] W0 w6):=by
          have h1:Keeps [] W0 w4:=(HKW'.out.trans' HK3.out).grown hg7 λk hk=>by have :=ownsRow_block hR3.ents k hk;omega
          exact(h1.alloc (.cells #[.int .i64 bi] 3)).grown hg8 λk hk=>by have :=ownsRow_block hn8 k hk;omega
         have cx:w6.cell? ⟨g12,0,none⟩=some (.int .u64 (RX.getD 0 0)):=by rw[hb126.cell,List.getElem?_toArray,u64s_get (by omega)]
         have HR7:=Lib.hid hr7
         have HR8:=Lib.hid hr8
         have HCH2:Hid (chainD X gk (RX.getD 0 0) (own'++[c]) (E'++blkE X c)=chainD X (25-own.length) fi own E):=by
          show _=_
          rw[←HCH.out,HSTEP.out,if_pos (HOKB.out.2 hok),HX0.out]
         have HX64':=HR64.out 0
         clear hR3 ho7 hg7 hn8 hk34 hb12' hbi ho8 hg8 hn7 hn8' hk46 hb126 how hge hok hk3 hr7 hr8 HNONE HCH HR' HKW' HENT
         generalize RX.getD 0 0=xn at *
         go_wp2_with(first|((with_reducible show wpList _ _ _ (⟨some 45,_,_,_,_,_⟩::_) _ _);refine wpList_append_run rfl (.tmp 43) (.tmp 44) 35 35 rfl u7 (.slice (some ⟨ge,0,none⟩) (cntE RX) (cntE RX)) rfl rfl HR7.out ?_)|((with_reducible show wpList _ _ _ (⟨some 50,_,_,_,_,_⟩::_) _ _);refine wpList_append_run rfl (.tmp 46) (.tmp 49) 40 40 rfl (.slice a8 own'.length c8) (.slice (some ⟨w4.heap.size,0,none⟩) 1 1) rfl rfl HR8.out ?_))
         go_roundg gk
         case measure=>omega
         case rel=>exact⟨own'++[c],E'++blkE X c,xn,by simp;omega,rfl,HCH2.out,HX64'.1,HX64'.2,HRN.out,HKW6.out⟩
        ·have HF:=Lib.hid (HNONE.out w3 (HKR2.out.trans' hk3) (by rw[HSTEP.out,if_neg (λh=>hok (HOKB.out.1 h))]))
         clear HNONE HCH HR' HKW' hok hk3
         go_wp2_with fail
         go_ret3
         exact HF.out
end Go.Proofs.YtphojondgfjmgaaGreatDoor
