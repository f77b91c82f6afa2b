/-
  Layer 10: how many entries there are for each inode. Layer 10: a file's last bytes. Layer 10: the points that are asked over got: links, last bytes. Layer 10: the point of files' last bytes, over got. Layer 10: where entries lead; all points, one by one. Layer 5: the reference's Bits. Layer 2 (pack): the reference's Byte. Layer 10, the reference: the words ahead of the journal; the blocks; files' last bytes.
-/
import Derived.Test.YtphojondgfjmgaaGreatDoorG20
import Derived.Test.YtphojondgfjmgaaGreatDoorG18
import Derived.Test.YtphojondgfjmgaaGreatDoorG07
import Derived.Test.YtphojondgfjmgaaGreatDoorG02
import Derived.Test.YtphojondgfjmgaaGreatDoorG08
import Derived.Test.YtphojondgfjmgaaGreatDoorG13
import Derived.Test.YtphojondgfjmgaaGreatDoorG03
namespace Go.Proofs.YtphojondgfjmgaaGreatDoor
open Go.RowKit Go.Shelf
attribute [local go_sem] Oper.semAt_some
theorem Blk.low {A A':World} {k:Nat} {c:Array Value} {T n:Nat} (h:Blk A k c T) (hb:Below n A A') (hk:k<n):Blk A' k c T:=(hb.block k hk).trans h
theorem Keeps.below_trans {l:List Nat} {w A A':World} {n:Nat} (h:Keeps l w A) (hb:Below n A A') (hn:w.heap.size≤n):Keeps l w A':=
 ⟨hb.os.trans h.os,hb.tape.trans h.tape,hb.output.trans h.output,Nat.le_trans h.size hb.size,λk hk hm=>(hb.block k (by omega)).trans (h.block k hk hm)⟩
set_option maxRecDepth 100000 in
set_option maxHeartbeats 4000000 in
theorem entries_at {w:World} {b gp:Nat} {B:List Int} {ps:List (Int×Int)} {T:List (Ino×Value)} {own:Nat→List Nat} (h:SheetT w b gp B ps T own):
  Calls Tryz.prog 13 #[.pointer (some ⟨b,0,none⟩)] w λe w'=>e= .returned (.agg (i64s (tallyF 32 (ledT T))).toArray)∧Keeps [] w w':=by
 have hz32:=zero_i32
 have hzi:=zero_ino
 obtain⟨Z0,hZ0⟩:∃Z0,inoC inoZ (.slice none 0 0)=Z0:=⟨_,rfl⟩
 have HZZ:Hid (Z0.size=18):=by show _=_;rw[←hZ0];rfl
 rw[hZ0] at hzi
 clear hZ0
 have HS:=Lib.hid h
 clear h
 generalize hzc:(i64s (tallyF 32 λ_=>0)).toArray=ZC at *
 have HZC:=Lib.hid hzc
 clear hzc
 refine(callsIn_wide (n:=5)).1 (callsIn_of_wp_marks Tryz.func13 rfl trivial (wpIn_wide.2 ?_) rfl)
 simp only[Tryz.ntmps13,List.size_toArray,List.length_cons,List.length_nil,Nat.reduceAdd,Nat.reduceSub,Array.replicate_succ,Array.replicate_zero,List.push_toArray,List.append_toArray,List.nil_append,List.cons_append]
 go_wp2_with fail
 refine(got_at b _).mono ?_;rintro e w2 ⟨rfl,hw2⟩
 go_wp2_with fail
 rw[←hw2]
 have hsz:w2.heap.size=w.heap.size+3:=by rw[hw2];simp
 have hbC:Blk w2 (w.heap.size+1) ZC 48 :=by
  have :=(Blk.new (w.alloc (.cells ZC 48)) ZC 48).alloc (.cells #[.pointer (some ⟨b,0,none⟩)] 26)
  rw[World.size_alloc] at this
  rw[hw2]
  exact this
 have hbR:Blk w2 w.heap.size ZC 48 :=by
  rw[hw2]
  exact((Blk.new w ZC 48).alloc _).alloc _
 have hbS:Blk w2 (w.heap.size+1+1) #[.pointer (some ⟨b,0,none⟩)] 26 :=by
  have :=Blk.new ((w.alloc (.cells ZC 48)).alloc (.cells ZC 48)) #[.pointer (some ⟨b,0,none⟩)] 26
  rw[World.size_alloc,World.size_alloc] at this
  rw[hw2]
  exact this
 have hk2:Keeps [] w w2:=by
  rw[hw2]
  exact(((Keeps.refl [] w).alloc _).alloc _).alloc _
 have hs2:=HS.out.keep0 hk2
 have hlt:=HS.out.lt
 have htells:=got_tells (n:=5-1) (by omega) hs2 hbS (C:=[w.heap.size+1]) (λk hk=>by rw[List.mem_singleton] at hk;subst hk;omega)
 have hEL:=HS.out.gots.elen
 have htS:=HS.out.gots.tabS
 have htN:=HS.out.gots.tabN
 clear hw2 hs2 hbS
 refine(wpIn_wide (n:=5)).1 ?_
 refine wpIn_rangeTold (by omega) (gf:= 56) (lb:= #[.pointer (some ⟨w.heap.size+1+1,0,none⟩)]) rfl (enters_of Tryz.func56 (by kernel_rfl) rfl) htells (λk hk=>by rw[List.mem_singleton] at hk;subst hk;omega) (λ_=>rfl)
  (λpre A=>Keeps [] w A∧Blk A (w.heap.size+1) (i64s (tallyF 32 λq=>ledL (pre.map pairG) q)).toArray 48∧Blk A w.heap.size ZC 48∧∀q,ledL (pre.map pairG) q≤24*pre.length)
  (λ_ _ _=>False)
  (λpre A A' h hb=>⟨h.1.below_trans hb (by omega),h.2.1.low hb (by omega),h.2.2.1.low hb (by omega),h.2.2.2⟩)
  (λ_ _ _ _ h _=>h)
  ⟨hk2,by have :=hbC;rw[←HZC.out] at this;exact this,hbR,λq=>Nat.zero_le _⟩
  (λl x A A' h hk=>h.keep hk λk hk=>by rw[List.mem_singleton] at hk;omega)
  (λx a' W=>∃g5,Blk W g5 (inoC x.n x.v) 37∧w2.heap.size≤g5∧a'={ tmps:= #[.pointer (some ⟨b,0,none⟩),undef,.pointer (some ⟨w.heap.size,0,none⟩),.pointer (some ⟨w.heap.size+1,0,none⟩),undef,.pointer (some ⟨g5,0,none⟩),undef,undef,.pointer (some ⟨b,0,none⟩),.func (.func 56) #[] #[.pointer (some ⟨w.heap.size+1+1,0,none⟩)],.int .i64 (x.i:Int),.agg (inoC x.n x.v),undef,undef,undef,undef,undef,undef,undef,undef,undef,undef,undef,undef,undef,undef,undef],defers:=[] })
  (λl x a' A A' _ hr h hk=>by
   obtain⟨g5,h1,h2,h3⟩:=h
   obtain⟨r,hr⟩:=hr
   refine⟨g5,h1.keep hk λhm=> ?_,h2,h3⟩
   rw[List.mem_singleton] at hm
   subst hm
   rw[h1] at hr
   cases hr)
  ?assign (λl x A A' h hk=>h.keep hk (by simp)) ?body ?done ?stop
 case stop=>
  rintro D c pre W _ _ h _
  exact h.elim
 case assign=>
  rintro l x W K ⟨h1,h2,h3,h4,g,h5,h6⟩ hWs hK
  obtain⟨w4,p1,p2,p3⟩:=store_ino9 (n:=x.n) (v:=x.v) (Blk.new W Z0 37) HZZ.out h4 h6.one
  have HS4:=Lib.hid p1
  have hk4:Keeps [] W w4:=((Keeps.refl [] W).alloc _).trans p3 (by intro x hx;rw[List.mem_singleton] at hx;omega)
  have HF:=Lib.hid (hK _ w4 hk4 ⟨W.heap.size,p2,by omega,rfl⟩)
  clear p1 p2 p3 hk4 hK h1 h2 h3 h4 h5 h6
  unfold encG
  generalize inoC x.n x.v=ZN at *
  gi_wp2_with ((with_reducible show wpListIn _ _ _ _ _ (⟨_,.store 37 (.tmp 5) (.tmp 11),_,_,_,_⟩::_) _ _);refine wpListIn_store_any (r:=some l) rfl 37 (.tmp 5) (.tmp 11) rfl _ rfl _ rfl _ HS4.out ?_)
  exact HF.out
 case body=>
  rintro l pre x a' W hl hlW ⟨hkW,hcW,hrW,hleW⟩ hN ⟨hx1,hx2,hx3,hx4,g,hg,hE⟩ ⟨g5,hb5,hg5,rfl⟩
  have hel:x.n.E.length≤24:=by rw[hx2];exact hEL x.i
  have HEN:Hid (∀j,j<x.n.E.length→0≤eno x.n.E j∧eno x.n.E j<32):=λj hj=>by
   have hm:=htN (x.i:Int) (eno x.n.E j) ((succL_mem hx1).2 ⟨j,by rw[←hx2];exact hj,by rw[hx2]⟩)
   exact hm
  have HNX:Hid (∀W',Keeps [w.heap.size+1] W W'→Blk W' (w.heap.size+1) (i64s (tallyF 32 λq=>ledL (pre.map pairG) q+ledE x.n.E x.n.E.length q)).toArray 48→toldPost [w.heap.size+1] (λpre A=>Keeps [] w A∧Blk A (w.heap.size+1) (i64s (tallyF 32 λq=>ledL (pre.map pairG) q)).toArray 48∧Blk A w.heap.size ZC 48∧∀q,ledL (pre.map pairG) q≤24*pre.length) (λ_ _ _=>False) (pre++[x]) W .normal { tmps:= #[],defers:=[] } W'):=λW' hk hb=>by
   have e:∀q,ledL ((pre++[x]).map pairG) q=ledL (pre.map pairG) q+ledE x.n.E x.n.E.length q:=λq=>by
    rw[List.map_append,ledL_append]
    rfl
   refine⟨hk,hkW.trans hk (by intro y hy;rw[List.mem_singleton] at hy;omega),?_,hrW.keep hk (by simp),λq=> ?_⟩
   ·rw[tallyF_ext λq _=>e q]
    exact hb
   ·have h1:=hleW q
    have h2:=ledE_le x.n.E x.n.E.length q
    rw[e,List.length_append,List.length_singleton]
    omega
  obtain⟨an,cn,hv,hcn,hmn,HEX⟩:=hE.open
  have c17:W.cell? ⟨g5,17,none⟩=some (.slice an x.n.E.length cn):=by rw[hb5.cell,←hv];exact(inoAt _ hx4).f5
  have HEXX:=Lib.hid HEX
  have HST:Hid (Keeps [w.heap.size+1] W W∧Blk W (w.heap.size+1) (i64s (tallyF 32 λq=>ledL (pre.map pairG) q+ledE x.n.E 0 q)).toArray 48):=⟨Keeps.refl _ _,by
   rw[tallyF_ext (f':=λq=>ledL (pre.map pairG) q) λq _=>by rw[ledE_zero,Nat.add_zero]]
   exact hcW⟩
  have HLW:=Lib.hid hleW
  have HGW:Hid (g<W.heap.size∨x.n.E.length=0):=by
   by_cases h0:x.n.E.length=0
   ·exact .inr h0
   ·exact .inl (HEX 0 (by omega)).1
  have HG5:Hid (l<g∧w.heap.size+2<l):=⟨hg,by omega⟩
  have hze:=zero_entry9
  have HPN:Hid (pre.length<32):=hN
  clear hkW hcW hrW hleW hN hE hv HEX hx1 hx2 hx3 hg hEL htS htN hb5 hg5 hbC hbR hk2 hsz hlt HS
  generalize inoC x.n x.v=ZN at *
  generalize ledL (pre.map pairG)=fP at *
  obtain⟨mE,hmE⟩:∃mE,x.n.E.length=mE:=⟨_,rfl⟩
  have HME:=Lib.hid hmE
  rw[hmE] at c17 HEXX HEN HNX hel
  clear hmE
  generalize x.n.E=E at *
  gi_wp2
  gi_loopw [15] (λi wr=>∃j:Nat,j≤mE∧i= .int .i64 (j:Int)∧Hid (Keeps [w.heap.size+1] W wr∧Blk wr (w.heap.size+1) (i64s (tallyF 32 λq=>fP q+ledE E j q)).toArray 48))
   (λi _=>mE-(intOf i).toNat)
  case atStart=>exact⟨0,by omega,rfl,HST.out⟩
  case round=>
   clear HST c17
   obtain⟨j,hj,rfl,HI⟩:=hrel
   by_cases hjm:j<mE
   ·have hji:(j:Int)<(mE:Int):=by omega
    have hj0:(0:Int)≤(j:Int):=by omega
    obtain⟨hgl,off,rfl,d1,d2⟩:=HEXX.out j hjm
    have hkb:=HI.out.1.block g hgl (by rw[List.mem_singleton];have :=HG5.out;omega)
    have HEI:Hid ((loadVar 85 ⟨g,off+j*2,none⟩).run Tryz.prog wr= .ok (.agg #[.string (enm E j),.int .i64 (eno E j)]) wr):=
     load_entry ((World.cell?_of_block (w:=W) (a:=⟨g,off+j*2,none⟩) hkb).trans d1) ((World.cell?_of_block (w:=W) (a:=⟨g,off+j*2+1,none⟩) hkb).trans d2)
    obtain⟨hy0,hy32⟩:=HEN.out j hjm
    have hsu:=λq=>ledE_succ (E:=E) (j:=j) (by rw[HME.out];exact hjm) q
    have hlq:=λq=>ledE_le E j q
    generalize eno E j=yi at *
    obtain⟨y,rfl⟩:=Int.eq_ofNat_of_zero_le hy0
    have hyn:y<32:=by omega
    obtain⟨w6,p1,p2,p3⟩:=store_entry9 (enm E j) (y:Int) (Blk.new wr #[.string ⟨#[]⟩,.int .i64 0] 85) rfl
    have hk6:Keeps [] wr w6:=((Keeps.refl [] wr).alloc _).trans p3 (by intro x hx;rw[List.mem_singleton] at hx;omega)
    have c1:w6.cell? ⟨wr.heap.size,1,none⟩=some (.int .i64 (y:Int)):=by rw[p2.cell];rfl
    have hb6:=HI.out.2.keep hk6 (by simp)
    have c2:=blk_row hb6 (j:=y) hyn
    obtain⟨z,hz⟩:∃z,fP y+ledE E j y=z:=⟨_,rfl⟩
    rw[hz] at c2
    have hzb:z≤1000:=by have :=HLW.out y;have :=hlq y;have :=HPN.out;omega
    have HNB:Hid (∀x:Int,x=((z+1:Nat):Int)→Blk (w6.setCell ⟨w.heap.size+1,y,none⟩ (.int .i64 x)) (w.heap.size+1) (i64s (tallyF 32 λq=>fP q+ledE E (j+1) q)).toArray 48):=λx hx=>blk_bump hb6 y (λq hq=>by
     rw[hsu q]
     by_cases e:q=y
     ·subst e;rw[if_pos rfl,if_pos rfl];omega
     ·rw[if_neg e,if_neg (by omega)];omega) (by rw[hx,hz])
    have f2:=hb6.frozen y
    have HKW:Hid (Keeps [w.heap.size+1] W w6):=HI.out.1.trans' (hk6.mono (by simp))
    have HS6:=Lib.hid p1
    have hyi:(0:Int)≤(y:Int):=by omega
    clear HI hkb d1 d2 hsu hlq hz p1 p2 p3 hk6 hb6 HNX HEN HEXX HLW HPN
    generalize enm E j=sj at *
    gi_wp2_with (first|((with_reducible show wpListIn _ _ _ _ _ (⟨_,.load 85 (.tmp 17),_,_,_,_⟩::_) _ _);refine wpListIn_load_any (r:=some l) rfl 85 (.tmp 17) rfl _ rfl _ HEI.out ?_)|((with_reducible show wpListIn _ _ _ _ _ (⟨_,.store 85 (.tmp 7) (.tmp 18),_,_,_,_⟩::_) _ _);refine wpListIn_store_any (r:=some l) rfl 85 (.tmp 7) (.tmp 18) rfl _ rfl _ rfl _ HS6.out ?_))
    go_roundw
    case rel=>exact⟨j+1,by omega,by go_num,HKW.out.setCell (.inl (by simp)) _,HNB.out _ (by go_num)⟩
    case measure=>simp[intOf];omega
   ·obtain rfl:j=mE:=by omega
    have HF:=Lib.hid (HNX.out _ HI.out.1 HI.out.2)
    clear HI HNX HEN HEXX hj hjm
    gi_wp2
    exact HF.out
 case done=>
  rintro D xs W hD hxs ⟨hkW,hcW,hrW,-⟩ hKD
  rw[hxs,tallyF_ext (λq _=>ledL_got htS 32 q)] at hcW
  have HLC:Hid ((loadVar 48 ⟨w.heap.size+1,0,none⟩).run Tryz.prog W= .ok (.agg (i64s (tallyF 32 (ledT T))).toArray) W):=load_i32 hcW
  obtain⟨wS,p1,p2,p3⟩:=store_i32 (f':=ledT T) (show Blk W w.heap.size (i64s (tallyF 32 λ_=>0)).toArray 48 by rw[HZC.out];exact hrW)
  have HSS:=Lib.hid p1
  have HDD:Hid (wS.heap[D]? =some (.deferred (some []))):=(p3.block D (Array.getElem?_eq_some_iff.1 hKD).1 (by rw[List.mem_singleton];omega)).trans hKD
  have HFI:Hid (∀W',Keeps [D] wS W'→(loadVar 48 ⟨w.heap.size,0,none⟩).run Tryz.prog W'= .ok (.agg (i64s (tallyF 32 (ledT T))).toArray) W'∧Keeps [] w W'):=λW' hk=>⟨load_i32 (p2.keep hk (by rw[List.mem_singleton];omega)),(hkW.trans p3 (by intro y hy;rw[List.mem_singleton] at hy;omega)).trans hk (by intro y hy;rw[List.mem_singleton] at hy;omega)⟩
  clear hkW hcW hrW hKD hxs p1 p2 p3 hbC hbR hk2 hsz hlt HS HZC hEL htS htN
  obtain⟨ZR,hZR⟩:∃ZR,(i64s (tallyF 32 (ledT T))).toArray=ZR:=⟨_,rfl⟩
  rw[hZR] at HLC HSS HFI
  have HZE:=Lib.hid hZR
  clear hZR
  go_wp2_with(first|((with_reducible show wpList _ _ _ (⟨_,.load 48 (.tmp 3),_,_,_,_⟩::_) _ _);refine wpList_load_any rfl 48 (.tmp 3) rfl _ rfl _ HLC.out ?_)|((with_reducible show wpList _ _ _ (⟨_,.store 48 (.tmp 2) (.tmp 26),_,_,_,_⟩::_) _ _);refine wpList_store_any rfl 48 (.tmp 2) (.tmp 26) rfl _ rfl _ rfl _ HSS.out ?_))
  refine leaves_marks [D] wS (by simp) (λD' hD'=>by rw[List.mem_singleton] at hD';subst hD';exact HDD.out) λW' hk=> ?_
  obtain⟨h1,h2⟩:=HFI.out W' hk
  exact⟨_,results_cell Tryz.results13 rfl h1,by rw[←HZE.out],h2⟩
end Go.Proofs.YtphojondgfjmgaaGreatDoor
namespace Go.Proofs.YtphojondgfjmgaaGreatDoor
open Go.RowKit
set_option maxRecDepth 100000 in
set_option maxHeartbeats 4000000 in
theorem tailEmpty_at {w:World} {b gp:Nat} {B:List Int} {ps:List (Int×Int)} (h:ShAt w b gp B ps) (h64:In64 (putAll B ps)) {n:Ino} (v:Value) (hB:n.B.length=13) (hR:RightP n) (hK:n.K=1):
  Calls Tryz.prog 68 #[.pointer (some ⟨b,0,none⟩),.agg (inoC n v)] w (BelowPost w (tailP (putAll B ps) n)):=by
 have hS:0≤n.S∧n.S≤832:=by
  rcases hR.2.2 with h|h
  ·exact h.2.1
  ·omega
 have hlen:=right_len hR hB
 have HG:Hid (∀wx,Keeps [] w wx→∀i:Nat,i<3128→Calls Tryz.prog 15 #[.pointer (some ⟨b,0,none⟩),.int .i64 (i:Int)] wx λe w'=>e= .returned (.int .u64 (((putAll B ps).getD i 0).toNat:Int))∧wx=w'):=λwx hk i hi=>by
  have :=txGet_at (h.keep hk (by simp) (by simp)) (i:Int)
  rw[getN_nat hi] at this
  rwa[Int.toNat_of_nonneg (h64 i).1]
 have HP:Hid (∀(r:Bool) w',(r=true↔(n.S%64≠0→n.B.getD (n.S/64).toNat 0≠0→∀j:Nat,n.S%64≤(j:Int)→j<64→byt ((putAll B ps).getD (1080+8*(n.B.getD (n.S/64).toNat 0).toNat+j/8) 0).toNat (j%8)=0))→Keeps [] w w'→BelowPost w (tailP (putAll B ps) n) (.returned (.bool r)) w'):=λr w' hr hk=>⟨r,rfl,hr.trans (tail_last hB hR hK).symm,hk⟩
 have hb:=Blk.new w (inoC n v) 37
 have hk0:=(Keeps.refl [] w).alloc (.cells (inoC n v) 37)
 generalize putAll B ps=X at *
 generalize tailP X n=pT at *
 obtain⟨s,hs⟩:=Int.eq_ofNat_of_zero_le hS.1
 have c3:(w.alloc (.cells (inoC n v) 37)).cell? ⟨w.heap.size,3,none⟩=some (.int .i64 (s:Int)):=by rw[hb.cell,←hs];exact(inoAt v hB).f3
 have hm:(s:Int).tmod 64=((s%64:Nat):Int):=rfl
 have hd:(s:Int).tdiv 64=((s/64:Nat):Int):=rfl
 have hs832:s≤832:=by omega
 have HP2:Hid (∀(r:Bool) w',(r=true↔(s%64≠0→n.B.getD (s/64) 0≠0→∀j:Nat,s%64≤j→j<64→byt (X.getD (1080+8*(n.B.getD (s/64) 0).toNat+j/8) 0).toNat (j%8)=0))→Keeps [] w w'→BelowPost w pT (.returned (.bool r)) w'):=λr w' hr hk=>HP.out r w' (hr.trans (by
  rw[hs,show((s:Int)/64).toNat=s/64 by omega]
  constructor
  ·intro h h0 hb j hj
   exact h (by omega) hb j (by omega)
  ·intro h h0 hb j hj
   exact h (by omega) hb j (by omega))) hk
 clear HP hs h h64 hS
 by_cases h0:s%64=0
 ·have HF:=Lib.hid (HP2.out true _ ⟨λ_ h=>absurd h0 h,λ_=>rfl⟩ hk0)
  rw[h0] at hm
  clear HP2 HG hb hk0 hlen h0
  generalize inoC n v=Z at *
  go_enter Tryz.func68,Tryz.ntmps68
  go_wp2_with fail
  go_ret
  exact HF.out
 ·have hq:s/64<13:=by omega
  have c4:(w.alloc (.cells (inoC n v) 37)).cell? ⟨w.heap.size,4+s/64,none⟩=some (.int .i64 (n.B.getD (s/64) 0)):=by rw[hb.cell];exact(inoAt v hB).f4 _ hq
  have hy:=hlen (s/64)
  have HR0:Hid (s%64≠0):=h0
  have hr64:s%64<64:=Nat.mod_lt _ (by omega)
  have HK0:=Lib.hid hk0
  generalize n.B.getD (s/64) 0=y at *
  obtain⟨q,hqq⟩:∃q,s/64=q:=⟨_,rfl⟩
  rw[hqq] at c4 hd hq
  have hqi:(q:Int)<13:=by omega
  have hq0:(0:Int)≤(q:Int):=by omega
  have hr0:((s%64:Nat):Int)≠0:=by omega
  obtain⟨r,hrr⟩:∃r,s%64=r:=⟨_,rfl⟩
  rw[hrr] at hm hr64 HR0 HP2 hr0
  have hb0:((r:Int)==0)=false:=by simpa using hr0
  clear hb hk0 hlen h0 hqq hrr hs832 hr0
  generalize inoC n v=Z at *
  by_cases hy0:y=0
  ·subst hy0
   have HF:=Lib.hid (HP2.out true _ ⟨λ_ _ h=>absurd rfl h,λ_=>rfl⟩ HK0.out)
   clear HP2 HG hy
   go_enter Tryz.func68,Tryz.ntmps68
   go_wp2_with fail
   go_ret
   exact HF.out
  ·obtain⟨yn,rfl⟩:=Int.eq_ofNat_of_zero_le hy.1
   rw[Int.toNat_natCast] at HP2
   have hyb:(((yn:Nat):Int)==0)=false:=by simpa using hy0
   have hyn:yn<256:=by omega
   have HY0:Hid (((yn:Nat):Int)≠0):=hy0
   have HBK:=Lib.hid (λw=>txBlock_at (yn:Int) w)
   rw[show blockN (yn:Int)=((1080+8*yn:Nat):Int) by unfold blockN;rw[if_neg (by omega)];omega] at HBK
   have HQ:Hid (∀k:Nat,k<64→1080+8*yn+k/8<3128):=λk hk=>by omega
   clear hy hy0
   generalize 1080+8*yn=Q at *
   go_enter Tryz.func68,Tryz.ntmps68
   go_wp2_with fail
   go_loopg [7] (64-r) (λgh s7 wx=>∃k:Nat,k+gh=64∧s7= .int .i64 (k:Int)∧Hid (Keeps [] w wx∧r≤k∧∀j,r≤j→j<k→byt (X.getD (Q+j/8) 0).toNat (j%8)=0))
   case atStart=>exact⟨r,by omega,rfl,HK0.out,Nat.le_refl _,λj h1 h2=>by omega⟩
   case round=>
    clear c3 c4 hm hd
    obtain⟨k,hk,rfl,HI⟩:=hrel
    cases gk with
    |zero=>
     obtain rfl:k=64:=by omega
     have HF:=Lib.hid (HP2.out true _ ⟨λ_ _ _=>HI.out.2.2,λ_=>rfl⟩ HI.out.1)
     clear HI HP2 HG HBK HQ
     go_wp2_with fail
     go_ret
     exact HF.out
    |succ gg=>
     have hk64:k<64:=by omega
     have hki:(k:Int)<64:=by omega
     have hp:=HQ.out k hk64
     obtain⟨p,hpp⟩:∃p,Q+k/8=p:=⟨_,rfl⟩
     have HNX:Hid (byt (X.getD p 0).toNat (k%8)=0→r≤k+1∧∀j,r≤j→j<k+1→byt (X.getD (Q+j/8) 0).toNat (j%8)=0):=λhb=>⟨by have :=HI.out.2.1;omega,λj h1 h2=>by
      by_cases e:j=k
      ·rw[e,hpp];exact hb
      ·exact HI.out.2.2 j h1 (by omega)⟩
     have HNO:Hid (byt (X.getD p 0).toNat (k%8)≠0→¬(r≠0→((yn:Nat):Int)≠0→∀j:Nat,r≤j→j<64→byt (X.getD (Q+j/8) 0).toNat (j%8)=0)):=λhb hh=>hb (by
      have :=hh HR0.out HY0.out k HI.out.2.1 hk64
      rwa[hpp] at this)
     have HKI:=Lib.hid HI.out.1
     rw[hpp] at hp
     have hpi:(Q:Int)+((k/8:Nat):Int)=(p:Int):=by rw[←hpp];omega
     have hm8:(k:Int).tmod 8=((k%8:Nat):Int):=rfl
     have hd8:(k:Int).tdiv 8=((k/8:Nat):Int):=rfl
     have hj8:k%8<8:=Nat.mod_lt _ (by omega)
     have hj8i:((k%8:Nat):Int)<8:=by omega
     have hj0:(0:Int)≤((k%8:Nat):Int):=by omega
     have hpw:IntKind.i64.wrap (p:Int)=(p:Int):=IntWalk.i64_in _ (by omega)
     have hpw2:wrap64 (p:Int)=(p:Int):=by unfold wrap64;omega
     clear HI HQ hpp
     generalize k/8=d8 at *
     generalize k%8=j8 at *
     have HBK1:=Lib.hid (HBK.out wr)
     go_wp2_with fail
     refine HBK1.out.mono ?_;rintro e w1 ⟨rfl,rfl⟩
     have HGP:=Lib.hid (HG.out wr HKI.out p hp)
     have HBY:=Lib.hid (bytes_at (X.getD p 0).toNat wr)
     clear HBK HBK1 HG
     generalize (X.getD p 0).toNat=WD at *
     go_wp2_with fail
     refine HGP.out.mono ?_;rintro e w1 ⟨rfl,rfl⟩
     clear HGP
     go_wp2_with fail
     refine HBY.out.mono ?_;rintro e w2 ⟨rfl,hk2⟩
     obtain⟨w3,p1,p2,p3⟩:=store_bytes (bytTo_len 0 0) (byts_len WD) (Blk.new w2 (u8s (bytTo 0 0)).toArray 133)
     have c8:w3.cell? ⟨w2.heap.size,j8,none⟩=some (.int .u8 ((byt WD j8:Nat):Int)):=by
      rw[p2.cell,←byts_get WD j8 hj8]
      simpa using u8s_get (l:=byts WD) (j:=j8) (by rw[byts_len];omega)
     have HS3:=Lib.hid p1
     rw[←zero_bytes 0] at HS3
     have HK3:Hid (Keeps [] w w3):=(HKI.out.trans' hk2).trans' (((Keeps.refl [] w2).alloc _).trans p3 (by intro x hx;rw[List.mem_singleton] at hx;omega))
     have hby:=byt_lt WD j8
     clear HBY hk2 p1 p2 p3 HKI
     generalize (u8s (byts WD)).toArray=ZB at *
     generalize byt WD j8=bv at *
     by_cases hbv:bv=0
     ·subst hbv
      have HN:=Lib.hid (HNX.out rfl)
      clear HNX HNO HP2
      go_wp2_with((with_reducible show wpList _ _ _ (⟨_,.store 133 (.tmp 8) (.tmp 34),_,_,_,_⟩::_) _ _);refine wpList_store_any rfl 133 (.tmp 8) (.tmp 34) rfl _ rfl _ rfl _ HS3.out ?_)
      go_roundg gg
      case measure=>omega
      case rel=>exact⟨k+1,by omega,by go_num,HK3.out,HN.out⟩
     ·have hbn:(((bv:Nat):Int) != 0)=true:=bne_iff_ne.2 (by omega)
      have HF:=Lib.hid (HP2.out false _ ⟨(λh=>by cases h),λhh=>absurd hh (HNO.out hbv)⟩ HK3.out)
      clear HNX HNO HP2 hbv
      go_wp2_with((with_reducible show wpList _ _ _ (⟨_,.store 133 (.tmp 8) (.tmp 34),_,_,_,_⟩::_) _ _);refine wpList_store_any rfl 133 (.tmp 8) (.tmp 34) rfl _ rfl _ rfl _ HS3.out ?_)
      go_ret
      exact HF.out
end Go.Proofs.YtphojondgfjmgaaGreatDoor
namespace Go.Proofs.YtphojondgfjmgaaGreatDoor
open Go.RowKit Go.Shelf
attribute [local go_sem] Oper.semAt_some
theorem links_iff {X:List Int} {T:List (Ino×Value)} {own:Nat→List Nat} (h:Gots X T own) {xs:List GX} (hxs:xs.map pairG=gotTo T 32):(∀x∈xs,LinkP x.i x.n (ledT T x.i))↔linksP T:=by
 constructor
 ·intro hh i hi
  rcases h.form i with ⟨h1,-,-⟩|⟨-,h2,-⟩
  ·have hm:(i,nT T i)∈gotTo T 32:=gotTo_mem.2 ⟨hi,rfl,h1⟩
   rw[←hxs] at hm
   obtain⟨x,hx,e⟩:=List.mem_map.1 hm
   have :=hh x hx
   injection e with e1 e2
   rwa[e1,e2] at this
  ·rw[h2]
   exact⟨(λh=>by cases h),(λh=>by cases h)⟩
 ·intro hh x hx
  have hm:pairG x∈gotTo T 32:=by rw[←hxs];exact List.mem_map.2 ⟨x,hx,rfl⟩
  obtain⟨h1,h2,-⟩:=gotTo_mem.1 hm
  have :=hh x.i h1
  rwa[←show x.n=nT T x.i from h2] at this
set_option maxRecDepth 100000 in
set_option maxHeartbeats 4000000 in
theorem linksCounted_at {w:World} {b gp:Nat} {B:List Int} {ps:List (Int×Int)} {T:List (Ino×Value)} {own:Nat→List Nat} (h:SheetT w b gp B ps T own):
  Calls Tryz.prog 50 #[.pointer (some ⟨b,0,none⟩)] w (BelowPost w (linksP T)):=by
 have hz32:=zero_i32
 have hzi:=zero_ino
 obtain⟨Z0,hZ0⟩:∃Z0,inoC inoZ (.slice none 0 0)=Z0:=⟨_,rfl⟩
 have HZZ:Hid (Z0.size=18):=by show _=_;rw[←hZ0];rfl
 rw[hZ0] at hzi
 clear hZ0
 have HS:=Lib.hid h
 clear h
 generalize hzc:(i64s (tallyF 32 λ_=>0)).toArray=ZC at *
 have HZC:=Lib.hid hzc
 clear hzc
 have HEN:Hid (∀wx,Keeps [] w wx→Calls Tryz.prog 13 #[.pointer (some ⟨b,0,none⟩)] wx λe w'=>e= .returned (.agg (i64s (tallyF 32 (ledT T))).toArray)∧Keeps [] wx w'):=λwx hk=>entries_at (HS.out.keep0 hk)
 have hk1:=(Keeps.refl [] w).alloc (.cells #[.bool false] 4)
 have HEN1:=Lib.hid (HEN.out _ hk1)
 have HK1:=Lib.hid hk1
 have HBR:=Lib.hid (Blk.new w #[.bool false] 4)
 clear HEN hk1
 obtain⟨ZR,hZR⟩:∃ZR,(i64s (tallyF 32 (ledT T))).toArray=ZR:=⟨_,rfl⟩
 rw[hZR] at HEN1
 have HZR:=Lib.hid hZR
 clear hZR
 refine(callsIn_wide (n:=5)).1 (callsIn_of_wp_marks Tryz.func50 rfl trivial (wpIn_wide.2 ?_) rfl)
 simp only[Tryz.ntmps50,List.size_toArray,List.length_cons,List.length_nil,Nat.reduceAdd,Nat.reduceSub,Array.replicate_succ,Array.replicate_zero,List.push_toArray,List.append_toArray,List.nil_append,List.cons_append]
 go_wp2_with fail
 refine HEN1.out.mono ?_;rintro e w2 ⟨rfl,hk2⟩
 obtain⟨w3,p1,p2,p3⟩:=store_i32 (f':=ledT T) (show Blk (w2.alloc (.cells ZC 48)) w2.heap.size (i64s (tallyF 32 λ_=>0)).toArray 48 by rw[HZC.out];exact Blk.new w2 _ _)
 rw[HZR.out] at p1
 have HS3:=Lib.hid p1
 have HB3:=Lib.hid p2
 have hk23:Keeps [] w2 w3:=((Keeps.refl [] w2).alloc _).trans p3 (by intro x hx;rw[List.mem_singleton] at hx;omega)
 have HR3:=Lib.hid (HBR.out.keep (hk2.trans' hk23) (by simp))
 have HK3:=Lib.hid (HK1.out.trans' (hk2.trans' hk23))
 clear p1 p2 p3 hk23 hk2 HEN1 HBR HK1
 have hg2:=HB3.out.lt
 go_wp2_with((with_reducible show wpList _ _ _ (⟨_,.store 48 (.tmp 3) (.tmp 7),_,_,_,_⟩::_) _ _);refine wpList_store_any rfl 48 (.tmp 3) (.tmp 7) rfl _ rfl _ rfl _ HS3.out ?_)
 generalize w2.heap.size=cb at *
 refine(got_at b _).mono ?_;rintro e w4 ⟨rfl,hw4⟩
 go_wp2_with fail
 rw[←hw4]
 have hsz:w4.heap.size=w3.heap.size+1:=by rw[hw4];simp
 have hk34:Keeps [] w3 w4:=by rw[hw4];exact(Keeps.refl [] w3).alloc _
 have hbC:Blk w4 cb (i64s (tallyF 32 (ledT T))).toArray 48 :=HB3.out.keep hk34 (by simp)
 have hbR:Blk w4 w.heap.size #[.bool false] 4 :=HR3.out.keep hk34 (by simp)
 have hbS:Blk w4 w3.heap.size #[.pointer (some ⟨b,0,none⟩)] 26 :=by rw[hw4];exact Blk.new w3 _ _
 have hk4:Keeps [] w w4:=HK3.out.trans' hk34
 have hs4:=HS.out.keep0 hk4
 have hlt:=HS.out.lt
 have hwl:=HK3.out.size
 have hcb:w.heap.size≠cb:=λe=>by
  have h1:w3.heap[cb]? =some (.cells #[.bool false] 4 (0,0)):=by rw[←e];exact HR3.out
  have h3:=Option.some.inj (h1.symm.trans HB3.out)
  injection h3 with q1 q2
  exact absurd q2 (by decide)
 have htells:=got_tells (n:=5-1) (by omega) hs4 hbS (C:=[w.heap.size]) (λk hk=>by rw[List.mem_singleton] at hk;subst hk;have :=HR3.out.lt;omega)
 have hlk:∀xs:List GX,xs.map pairG=gotTo T 32→((∀x∈xs,LinkP x.i x.n (ledT T x.i))↔linksP T):=λxs h=>links_iff HS.out.gots h
 have hKR:∀i,(nT T i).F≠0→(nT T i).K=1∨(nT T i).K=2:=λi hi=>by
  rcases HS.out.gots.form i with ⟨-,-,h1⟩|⟨h1,-⟩
  ·exact h1.right.2.2.imp (·.1) (·.1)
  ·exact absurd h1 hi
 have hRl:=HR3.out.lt
 clear hw4 hs4 hbS HB3 HR3 HK3 HS3
 refine(wpIn_wide (n:=5)).1 ?_
 refine wpIn_rangeTold (by omega) (gf:= 56) (lb:= #[.pointer (some ⟨w3.heap.size,0,none⟩)]) rfl (enters_of Tryz.func56 (by kernel_rfl) rfl) htells (λk hk=>by rw[List.mem_singleton] at hk;subst hk;omega) (λ_=>rfl)
  (λpre A=>Keeps [] w A∧Blk A cb (i64s (tallyF 32 (ledT T))).toArray 48∧Blk A w.heap.size #[.bool false] 4∧∀x∈pre,LinkP x.i x.n (ledT T x.i))
  (λc pre A=>c= .ret∧Keeps [] w A∧Blk A w.heap.size #[.bool false] 4∧∃x∈pre,¬LinkP x.i x.n (ledT T x.i))
  (λpre A A' h hb=>⟨h.1.below_trans hb (by omega),h.2.1.low hb (by omega),h.2.2.1.low hb (by omega),h.2.2.2⟩)
  (λc pre A A' h hb=>⟨h.1,h.2.1.below_trans hb (by omega),h.2.2.1.low hb (by omega),h.2.2.2⟩)
  ⟨hk4,hbC,hbR,λx hx=>by cases hx⟩
  (λl x A A' h hk=>h.keep hk λk hk=>by rw[List.mem_singleton] at hk;omega)
  (λx a' W=>∃g5,Blk W g5 (inoC x.n x.v) 37∧w4.heap.size≤g5∧a'={ tmps:= #[.pointer (some ⟨b,0,none⟩),undef,.pointer (some ⟨w.heap.size,0,none⟩),.pointer (some ⟨cb,0,none⟩),.int .i64 (x.i:Int),.pointer (some ⟨g5,0,none⟩),.pointer (some ⟨b,0,none⟩),.agg ZR,.pointer (some ⟨b,0,none⟩),.func (.func 56) #[] #[.pointer (some ⟨w3.heap.size,0,none⟩)],.int .i64 (x.i:Int),.agg (inoC x.n x.v),undef,undef,undef,undef,undef,undef,undef],defers:=[] })
  (λl x a' A A' _ hr h hk=>by
   obtain⟨g5,h1,h2,h3⟩:=h
   obtain⟨r,hr⟩:=hr
   refine⟨g5,h1.keep hk λhm=> ?_,h2,h3⟩
   rw[List.mem_singleton] at hm
   subst hm
   rw[h1] at hr
   cases hr)
  ?assign (λl x A A' h hk=>h.keep hk (by simp)) ?body ?done ?stop
 case assign=>
  rintro l x W K ⟨h1,h2,h3,h4,g,h5,h6⟩ hWs hK
  obtain⟨w5,p1,p2,p3⟩:=store_ino9 (n:=x.n) (v:=x.v) (Blk.new W Z0 37) HZZ.out h4 h6.one
  have HS5:=Lib.hid p1
  have hk5:Keeps [] W w5:=((Keeps.refl [] W).alloc _).trans p3 (by intro x hx;rw[List.mem_singleton] at hx;omega)
  have HF:=Lib.hid (hK _ w5 hk5 ⟨W.heap.size,p2,by omega,rfl⟩)
  clear p1 p2 p3 hk5 hK h1 h2 h3 h4 h5 h6
  unfold encG
  generalize inoC x.n x.v=ZN at *
  gi_wp2_with ((with_reducible show wpListIn _ _ _ _ _ (⟨_,.store 37 (.tmp 5) (.tmp 11),_,_,_,_⟩::_) _ _);refine wpListIn_store_any (r:=some l) rfl 37 (.tmp 5) (.tmp 11) rfl _ rfl _ rfl _ HS5.out ?_)
  exact HF.out
 case body=>
  rintro l pre x a' W hl hlW ⟨hkW,hcW,hrW,hall⟩ hN ⟨hx1,hx2,hx3,hx4,g,hg,hE⟩ ⟨g5,hb5,hg5,rfl⟩
  have hK12:=hKR x.i (by rw[←hx2];exact hx3)
  rw[←hx2] at hK12
  have hbn5:g5≠w.heap.size:=by have :=hk4.size;omega
  obtain⟨pb,hpb⟩:∃pb:Bool,(pb=true↔LinkP x.i x.n (ledT T x.i)):=by
   by_cases hp:LinkP x.i x.n (ledT T x.i)
   ·exact⟨true,λ_=>hp,λ_=>rfl⟩
   ·exact⟨false,(λh=>by cases h),λh=>absurd h hp⟩
  have HLK:Hid (∀wx,Calls Tryz.prog 64 #[.int .i64 (x.i:Int),.agg (inoC x.n x.v),.int .i64 (ledT T x.i:Int)] wx λe w'=>e= .returned (.bool pb)∧Keeps [] wx w'):=λwx=>(linked_at x.v hx4 hK12 x.i (ledT T x.i) wx).mono λe w' ⟨r,h1,h2,h3⟩=>⟨by rw[h1,Bool.eq_iff_iff.2 (h2.trans hpb.symm)],h3⟩
  have HLI:Hid (∀wx,Keeps [] W wx→(loadVar 37 ⟨g5,0,none⟩).run Tryz.prog wx= .ok (.agg (inoC x.n x.v)) wx):=λwx hk=>load_ino (hb5.keep hk (by simp)) hx4
  have HCC:Hid (∀wx,Keeps [] W wx→wx.cell? ⟨cb,x.i,none⟩=some (.int .i64 (ledT T x.i:Int))):=λwx hk=>blk_row (hcW.keep hk (by simp)) hx1
  have hi32:(x.i:Int)<32:=by omega
  have hi0:(0:Int)≤(x.i:Int):=by omega
  have HRW:Hid (∀wx,Keeps [] W wx→wx.cell? ⟨w.heap.size,0,none⟩=some (.bool false)∧wx.frozen? ⟨w.heap.size,0,none⟩=false):=λwx hk=>by
   have hb:=hrW.keep hk (by simp)
   exact⟨by rw[hb.cell];rfl,hb.frozen 0⟩
  have HNX:Hid (pb=true→∀wx,Keeps [] W wx→toldPost [w.heap.size] (λpre A=>Keeps [] w A∧Blk A cb (i64s (tallyF 32 (ledT T))).toArray 48∧Blk A w.heap.size #[.bool false] 4∧∀x∈pre,LinkP x.i x.n (ledT T x.i)) (λc pre A=>c= .ret∧Keeps [] w A∧Blk A w.heap.size #[.bool false] 4∧∃x∈pre,¬LinkP x.i x.n (ledT T x.i)) (pre++[x]) W .normal { tmps:= #[],defers:=[] } wx):=λhp wx hk=>
   ⟨hk.mono (by simp),hkW.trans' hk,hcW.keep hk (by simp),hrW.keep hk (by simp),λy hy=>by
    rcases List.mem_append.1 hy with hy|hy
    ·exact hall y hy
    ·rw[List.mem_singleton] at hy
     subst hy
     exact hpb.1 hp⟩
  have HNO:Hid (pb=false→∀wx,Keeps [] W wx→toldPost [w.heap.size] (λpre A=>Keeps [] w A∧Blk A cb (i64s (tallyF 32 (ledT T))).toArray 48∧Blk A w.heap.size #[.bool false] 4∧∀x∈pre,LinkP x.i x.n (ledT T x.i)) (λc pre A=>c= .ret∧Keeps [] w A∧Blk A w.heap.size #[.bool false] 4∧∃x∈pre,¬LinkP x.i x.n (ledT T x.i)) (pre++[x]) W .ret { tmps:= #[],defers:=[] } (wx.setCell ⟨w.heap.size,0,none⟩ (.bool false))):=λhp wx hk=>
   ⟨(hk.mono (l':=[w.heap.size]) (by simp)).setCell (.inl (by simp)) _,rfl,(hkW.trans' hk).setCell (.inr (Nat.le_refl _)) _,(hrW.keep hk (by simp)).set 0 (.bool false),x,by simp,λh=>by rw[hpb.2 h] at hp;cases hp⟩
  have HKX:Hid (Keeps [] W W.drew):=(Keeps.refl _ _).drew
  clear hkW hcW hrW hall hN hx2 hx3 hE hb5 hK12 hpb hlk hKR hbC hbR hk4 htells
  generalize inoC x.n x.v=ZN at *
  generalize (ledT T x.i:Int)=cI at *
  refine wpIn_block (wpIn_seq_k λK hKs=> ?_)
  refine wpIn_region_each (r:=some l) (S:=λwx=>Keeps [] W wx) (by kernel_rfl) (by rintro⟨a,w,h⟩;exact h) (by kernel_rfl) (by kernel_rfl) (λd _ _ _ _ h=>by cases d<;>exact h) HKX.out (by kernel_rfl) ?_
  repeat (first
   |(refine EachList.cons (.bool pb) (EachIf.call rfl 64 #[.int .i64 (x.i:Int),.agg ZN,.int .i64 cI] ?he ?h) ?_;(case he=>(intro wz;go_simp));(case h=>exact λwx hx=>(HLK.out wx).mono λe w' he=>⟨he.1,hx.trans' he.2⟩);simp only[Act.put,List.setIfInBounds_toArray,List.set_cons_zero,List.set_cons_succ])
   |(refine EachList.cons (.agg ZN) (EachIf.load rfl 37 (.tmp 5) rfl _ rfl λwx hx=>HLI.out wx hx) ?_;simp only[Act.put,List.setIfInBounds_toArray,List.set_cons_zero,List.set_cons_succ])
   |(refine EachList.cons ?_ (EachIf.val rfl ?h) ?_;(case h=>(intro wx hx;have hcq:=HCC.out wx hx;clear hx;go_simp;rfl));simp only[Act.put,List.setIfInBounds_toArray,List.set_cons_zero,List.set_cons_succ]))
  refine EachList.done λwx hx=> ?_
  refine hKs _ _ ?_
  have HN1:=Lib.hid (λh=>HNX.out h wx hx)
  have HN2:=Lib.hid (λh=>HNO.out h wx hx)
  obtain⟨hc0,hf0⟩:=HRW.out wx hx
  clear hKs hx HNX HNO HRW HCC HLI HLK HKX
  cases pb
  ·have HF:=Lib.hid (HN2.out rfl)
   clear HN1 HN2
   gi_wp2
   exact HF.out
  ·have HF:=Lib.hid (HN1.out rfl)
   clear HN1 HN2
   gi_wp2
   exact HF.out
 case stop=>
  rintro D c pre W hD hpre ⟨rfl,hkW,hrW,x,hx,hno⟩ hKD
  have hnl:¬linksP T:=λh=>hno (by
   obtain⟨h1,h2,-⟩:=gotTo_mem.1 (hpre.2 x hx)
   have :=h x.i h1
   rwa[←show x.n=nT T x.i from h2] at this)
  have HDD:=Lib.hid hKD
  have HFI:Hid (∀W',Keeps [D] W W'→W'.cell? ⟨w.heap.size,0,none⟩=some (.bool false)∧BelowPost w (linksP T) (.returned (.bool false)) W'):=λW' hk=>⟨by rw[(hrW.keep hk (by rw[List.mem_singleton];omega)).cell];rfl,false,rfl,⟨(λh=>by cases h),λh=>absurd h hnl⟩,hkW.trans hk (by intro y hy;rw[List.mem_singleton] at hy;omega)⟩
  clear hkW hrW hno hx hpre hKD hnl
  refine wpIn_wide.2 ?_
  go_wp2_with fail
  refine leaves_marks [D] W (by simp) (λD' hD'=>by rw[List.mem_singleton] at hD';subst hD';exact HDD.out) λW' hk=> ?_
  obtain⟨h1,h2⟩:=HFI.out W' hk
  exact⟨.bool false,by simp[results,Tryz.results50,go_sem,h1],h2⟩
 case done=>
  rintro D xs W hD hxs ⟨hkW,hcW,hrW,hall⟩ hKD
  have hr:=(hlk xs hxs).1 hall
  have hc0:W.cell? ⟨w.heap.size,0,none⟩=some (.bool false):=by rw[hrW.cell];rfl
  have hf0:=hrW.frozen 0
  have hb2:=hrW.set 0 (.bool true)
  have hk2:Keeps [w.heap.size] W (W.setCell ⟨w.heap.size,0,none⟩ (.bool true)):=(Keeps.refl _ _).setCell (.inl (by simp)) _
  have HDD:Hid ((W.setCell ⟨w.heap.size,0,none⟩ (.bool true)).heap[D]? =some (.deferred (some []))):=(hk2.block D (Array.getElem?_eq_some_iff.1 hKD).1 (by rw[List.mem_singleton];omega)).trans hKD
  have HFI:Hid (∀W',Keeps [D] (W.setCell ⟨w.heap.size,0,none⟩ (.bool true)) W'→W'.cell? ⟨w.heap.size,0,none⟩=some (.bool true)∧BelowPost w (linksP T) (.returned (.bool true)) W'):=λW' hk=>⟨by rw[(hb2.keep hk (by rw[List.mem_singleton];omega)).cell];rfl,true,rfl,⟨λ_=>hr,λ_=>rfl⟩,(hkW.trans hk2 (by intro y hy;rw[List.mem_singleton] at hy;omega)).trans hk (by intro y hy;rw[List.mem_singleton] at hy;omega)⟩
  clear hkW hcW hrW hall hKD hr hb2 hk2 hxs hlk hKR hbC hbR hk4 htells
  go_wp2_with fail
  refine leaves_marks [D] _ (by simp) (λD' hD'=>by rw[List.mem_singleton] at hD';subst hD';exact HDD.out) λW' hk=> ?_
  obtain⟨h1,h2⟩:=HFI.out W' hk
  exact⟨.bool true,by simp[results,Tryz.results50,go_sem,h1],h2⟩
attribute [local go_sem] Oper.semAt_some
theorem tails_iff {X:List Int} {T:List (Ino×Value)} {own:Nat→List Nat} (h:Gots X T own) {xs:List GX} (hxs:xs.map pairG=gotTo T 32):(∀x∈xs,tailP X x.n)↔tailsP X T:=by
 constructor
 ·intro hh i hi
  rcases h.form i with ⟨h1,-,-⟩|⟨-,h2,-⟩
  ·have hm:(i,nT T i)∈gotTo T 32:=gotTo_mem.2 ⟨hi,rfl,h1⟩
   rw[←hxs] at hm
   obtain⟨x,hx,e⟩:=List.mem_map.1 hm
   have :=hh x hx
   injection e with e1 e2
   rwa[e2] at this
  ·rw[h2]
   exact λh=>by cases h
 ·intro hh x hx
  have hm:pairG x∈gotTo T 32:=by rw[←hxs];exact List.mem_map.2 ⟨x,hx,rfl⟩
  obtain⟨h1,h2,-⟩:=gotTo_mem.1 hm
  have :=hh x.i h1
  rwa[←show x.n=nT T x.i from h2] at this
set_option maxRecDepth 100000 in
set_option maxHeartbeats 4000000 in
theorem tailsEmpty_at {w:World} {b gp:Nat} {B:List Int} {ps:List (Int×Int)} {T:List (Ino×Value)} {own:Nat→List Nat} (h:SheetT w b gp B ps T own):
  Calls Tryz.prog 53 #[.pointer (some ⟨b,0,none⟩)] w (BelowPost w (tailsP (putAll B ps) T)):=by
 have hzi:=zero_ino
 obtain⟨Z0,hZ0⟩:∃Z0,inoC inoZ (.slice none 0 0)=Z0:=⟨_,rfl⟩
 have HZZ:Hid (Z0.size=18):=by show _=_;rw[←hZ0];rfl
 rw[hZ0] at hzi
 clear hZ0
 have HS:=Lib.hid h
 clear h
 have hc0:((w.alloc (.cells #[.pointer (some ⟨b,0,none⟩)] 26)).alloc (.cells #[.bool false] 4)).cell? ⟨w.heap.size,0,none⟩=some (.pointer (some ⟨b,0,none⟩)):=by
  rw[((Blk.new w #[.pointer (some ⟨b,0,none⟩)] 26).alloc _).cell];rfl
 refine(callsIn_wide (n:=5)).1 (callsIn_of_wp_marks Tryz.func53 rfl trivial (wpIn_wide.2 ?_) rfl)
 simp only[Tryz.ntmps53,List.size_toArray,List.length_cons,List.length_nil,Nat.reduceAdd,Nat.reduceSub,Array.replicate_succ,Array.replicate_zero,List.push_toArray,List.append_toArray,List.nil_append,List.cons_append]
 go_wp2_with fail
 refine(got_at b _).mono ?_;rintro e w4 ⟨rfl,hw4⟩
 go_wp2_with fail
 rw[←hw4]
 have hsz:w4.heap.size=w.heap.size+3:=by rw[hw4];simp
 have hbV:Blk w4 w.heap.size #[.pointer (some ⟨b,0,none⟩)] 26 :=by
  rw[hw4]
  exact((Blk.new w _ _).alloc _).alloc _
 have hbR:Blk w4 (w.heap.size+1) #[.bool false] 4 :=by
  have :=(Blk.new (w.alloc (.cells #[.pointer (some ⟨b,0,none⟩)] 26)) #[.bool false] 4).alloc (.cells #[.pointer (some ⟨b,0,none⟩)] 26)
  rw[World.size_alloc] at this
  rw[hw4]
  exact this
 have hbS:Blk w4 (w.heap.size+1+1) #[.pointer (some ⟨b,0,none⟩)] 26 :=by
  have :=Blk.new ((w.alloc (.cells #[.pointer (some ⟨b,0,none⟩)] 26)).alloc (.cells #[.bool false] 4)) #[.pointer (some ⟨b,0,none⟩)] 26
  rw[World.size_alloc,World.size_alloc] at this
  rw[hw4]
  exact this
 have hk4:Keeps [] w w4:=by
  rw[hw4]
  exact(((Keeps.refl [] w).alloc _).alloc _).alloc _
 have hs4:=HS.out.keep0 hk4
 have hlt:=HS.out.lt
 have htells:=got_tells (n:=5-1) (by omega) hs4 hbS (C:=[w.heap.size+1]) (λk hk=>by rw[List.mem_singleton] at hk;subst hk;omega)
 have hlk:∀xs:List GX,xs.map pairG=gotTo T 32→((∀x∈xs,tailP (putAll B ps) x.n)↔tailsP (putAll B ps) T):=λxs h=>tails_iff HS.out.gots h
 have hRG:∀i,(nT T i).F≠0→RightP (nT T i):=λi hi=>by
  rcases HS.out.gots.form i with ⟨-,-,h1⟩|⟨h1,-⟩
  ·exact h1.right
  ·exact absurd h1 hi
 have h64:=HS.out.w64
 clear hw4 hs4 hbS hc0
 generalize hX:putAll B ps=X at *
 refine(wpIn_wide (n:=5)).1 ?_
 refine wpIn_rangeTold (by omega) (gf:= 56) (lb:= #[.pointer (some ⟨w.heap.size+1+1,0,none⟩)]) rfl (enters_of Tryz.func56 (by kernel_rfl) rfl) htells (λk hk=>by rw[List.mem_singleton] at hk;subst hk;omega) (λ_=>rfl)
  (λpre A=>Keeps [] w A∧Blk A w.heap.size #[.pointer (some ⟨b,0,none⟩)] 26∧Blk A (w.heap.size+1) #[.bool false] 4∧∀x∈pre,tailP X x.n)
  (λc pre A=>c= .ret∧Keeps [] w A∧Blk A (w.heap.size+1) #[.bool false] 4∧∃x∈pre,¬tailP X x.n)
  (λpre A A' h hb=>⟨h.1.below_trans hb (by omega),h.2.1.low hb (by omega),h.2.2.1.low hb (by omega),h.2.2.2⟩)
  (λc pre A A' h hb=>⟨h.1,h.2.1.below_trans hb (by omega),h.2.2.1.low hb (by omega),h.2.2.2⟩)
  ⟨hk4,hbV,hbR,λx hx=>by cases hx⟩
  (λl x A A' h hk=>h.keep hk λk hk=>by rw[List.mem_singleton] at hk;omega)
  (λx a' W=>∃g5,Blk W g5 (inoC x.n x.v) 37∧w4.heap.size≤g5∧a'={ tmps:= #[.pointer (some ⟨b,0,none⟩),.pointer (some ⟨w.heap.size,0,none⟩),.pointer (some ⟨w.heap.size+1,0,none⟩),undef,.pointer (some ⟨g5,0,none⟩),.pointer (some ⟨b,0,none⟩),.func (.func 56) #[] #[.pointer (some ⟨w.heap.size+1+1,0,none⟩)],.int .i64 (x.i:Int),.agg (inoC x.n x.v),undef,undef,undef,undef,undef,undef,undef,undef,undef],defers:=[] })
  (λl x a' A A' _ hr h hk=>by
   obtain⟨g5,h1,h2,h3⟩:=h
   obtain⟨r,hr⟩:=hr
   refine⟨g5,h1.keep hk λhm=> ?_,h2,h3⟩
   rw[List.mem_singleton] at hm
   subst hm
   rw[h1] at hr
   cases hr)
  ?assign (λl x A A' h hk=>h.keep hk (by simp)) ?body ?done ?stop
 case assign=>
  rintro l x W K ⟨h1,h2,h3,h4,g,h5,h6⟩ hWs hK
  obtain⟨w5,p1,p2,p3⟩:=store_ino9 (n:=x.n) (v:=x.v) (Blk.new W Z0 37) HZZ.out h4 h6.one
  have HS5:=Lib.hid p1
  have hk5:Keeps [] W w5:=((Keeps.refl [] W).alloc _).trans p3 (by intro x hx;rw[List.mem_singleton] at hx;omega)
  have HF:=Lib.hid (hK _ w5 hk5 ⟨W.heap.size,p2,by omega,rfl⟩)
  clear p1 p2 p3 hk5 hK h1 h2 h3 h4 h5 h6
  unfold encG
  generalize inoC x.n x.v=ZN at *
  gi_wp2_with ((with_reducible show wpListIn _ _ _ _ _ (⟨_,.store 37 (.tmp 4) (.tmp 8),_,_,_,_⟩::_) _ _);refine wpListIn_store_any (r:=some l) rfl 37 (.tmp 4) (.tmp 8) rfl _ rfl _ rfl _ HS5.out ?_)
  exact HF.out
 case body=>
  rintro l pre x a' W hl hlW ⟨hkW,hcW,hrW,hall⟩ hN ⟨hx1,hx2,hx3,hx4,g,hg,hE⟩ ⟨g5,hb5,hg5,rfl⟩
  have hR:=hRG x.i (by rw[←hx2];exact hx3)
  rw[←hx2] at hR
  have c1:W.cell? ⟨g5,1,none⟩=some (.int .i64 x.n.K):=by rw[hb5.cell];exact(inoAt _ hx4).f1
  have c0:W.cell? ⟨w.heap.size,0,none⟩=some (.pointer (some ⟨b,0,none⟩)):=by rw[hcW.cell];rfl
  have HLI:=Lib.hid (load_ino hb5 hx4)
  have HTE:Hid (x.n.K=1→Calls Tryz.prog 68 #[.pointer (some ⟨b,0,none⟩),.agg (inoC x.n x.v)] W (BelowPost W (tailP X x.n))):=λhk=>by
   have :=tailEmpty_at (HS.out.sh.keep hkW (by simp) (by simp)) HS.out.w64 x.v hx4 hR hk
   rwa[hX] at this
  have HNK:Hid (x.n.K≠1→tailP X x.n):=λh1 h2=>absurd h2 h1
  have HRW:Hid (∀wx,Keeps [] W wx→wx.cell? ⟨w.heap.size+1,0,none⟩=some (.bool false)∧wx.frozen? ⟨w.heap.size+1,0,none⟩=false):=λwx hk=>by
   have hb:=hrW.keep hk (by simp)
   exact⟨by rw[hb.cell];rfl,hb.frozen 0⟩
  have HNX:Hid (tailP X x.n→∀wx,Keeps [] W wx→toldPost [w.heap.size+1] (λpre A=>Keeps [] w A∧Blk A w.heap.size #[.pointer (some ⟨b,0,none⟩)] 26∧Blk A (w.heap.size+1) #[.bool false] 4∧∀x∈pre,tailP X x.n) (λc pre A=>c= .ret∧Keeps [] w A∧Blk A (w.heap.size+1) #[.bool false] 4∧∃x∈pre,¬tailP X x.n) (pre++[x]) W .normal { tmps:= #[],defers:=[] } wx):=λhp wx hk=>
   ⟨hk.mono (by simp),hkW.trans' hk,hcW.keep hk (by simp),hrW.keep hk (by simp),λy hy=>by
    rcases List.mem_append.1 hy with hy|hy
    ·exact hall y hy
    ·rw[List.mem_singleton] at hy
     subst hy
     exact hp⟩
  have HNO:Hid (¬tailP X x.n→∀wx,Keeps [] W wx→toldPost [w.heap.size+1] (λpre A=>Keeps [] w A∧Blk A w.heap.size #[.pointer (some ⟨b,0,none⟩)] 26∧Blk A (w.heap.size+1) #[.bool false] 4∧∀x∈pre,tailP X x.n) (λc pre A=>c= .ret∧Keeps [] w A∧Blk A (w.heap.size+1) #[.bool false] 4∧∃x∈pre,¬tailP X x.n) (pre++[x]) W .ret { tmps:= #[],defers:=[] } (wx.setCell ⟨w.heap.size+1,0,none⟩ (.bool false))):=λhp wx hk=>
   ⟨(hk.mono (l':=[w.heap.size+1]) (by simp)).setCell (.inl (by simp)) _,rfl,(hkW.trans' hk).setCell (.inr (by simp)) _,(hrW.keep hk (by simp)).set 0 (.bool false),x,by simp,hp⟩
  clear hkW hcW hrW hall hN hx2 hx3 hE hb5 hlk hRG hbV hbR hk4 htells hR hX h64 HS
  generalize inoC x.n x.v=ZN at *
  generalize hKx:x.n.K=K at *
  by_cases hK1:K=1
  ·subst hK1
   have HT1:=Lib.hid (HTE.out rfl)
   clear HTE HNK hKx
   gi_wp2_with ((with_reducible show wpListIn _ _ _ _ _ (⟨_,.load 37 (.tmp 4),_,_,_,_⟩::_) _ _);refine wpListIn_load_any (r:=some l) rfl 37 (.tmp 4) rfl _ rfl _ HLI.out ?_)
   refine⟨trivial,CallsIn.inRound l (callsIn_wide.2 (HT1.out.mono ?_))⟩
   rintro e w6 ⟨r,rfl,hr,hk6⟩
   obtain⟨hc0,hf0⟩:=HRW.out w6 hk6
   cases r
   ·have HF:=Lib.hid (HNO.out (λh=>by cases hr.2 h) w6 hk6)
    clear HNX HNO HRW hr hk6 HT1
    gi_wp2
    exact HF.out
   ·have HF:=Lib.hid (HNX.out (hr.1 rfl) w6 hk6)
    clear HNX HNO HRW hr hk6 HT1
    gi_wp2
    exact HF.out
  ·have hKb:(K==1)=false:=by simpa using hK1
   have HF:=Lib.hid (HNX.out (HNK.out hK1) W (Keeps.refl _ _))
   clear HNX HNO HRW HTE HNK hK1
   gi_wp2
   refine⟨trivial,?_⟩
   gi_wp2
   exact HF.out
 case stop=>
  rintro D c pre W hD hpre ⟨rfl,hkW,hrW,x,hx,hno⟩ hKD
  have hnl:¬tailsP X T:=λh=>hno (by
   obtain⟨h1,h2,-⟩:=gotTo_mem.1 (hpre.2 x hx)
   have :=h x.i h1
   rwa[←show x.n=nT T x.i from h2] at this)
  have HDD:=Lib.hid hKD
  have HFI:Hid (∀W',Keeps [D] W W'→W'.cell? ⟨w.heap.size+1,0,none⟩=some (.bool false)∧BelowPost w (tailsP X T) (.returned (.bool false)) W'):=λW' hk=>⟨by rw[(hrW.keep hk (by rw[List.mem_singleton];omega)).cell];rfl,false,rfl,⟨(λh=>by cases h),λh=>absurd h hnl⟩,hkW.trans hk (by intro y hy;rw[List.mem_singleton] at hy;omega)⟩
  clear hkW hrW hno hx hpre hKD hnl
  refine wpIn_wide.2 ?_
  go_wp2_with fail
  refine leaves_marks [D] W (by simp) (λD' hD'=>by rw[List.mem_singleton] at hD';subst hD';exact HDD.out) λW' hk=> ?_
  obtain⟨h1,h2⟩:=HFI.out W' hk
  exact⟨.bool false,by simp[results,Tryz.results53,go_sem,h1],h2⟩
 case done=>
  rintro D xs W hD hxs ⟨hkW,hcW,hrW,hall⟩ hKD
  have hr:=(hlk xs hxs).1 hall
  have hc0:W.cell? ⟨w.heap.size+1,0,none⟩=some (.bool false):=by rw[hrW.cell];rfl
  have hf0:=hrW.frozen 0
  have hb2:=hrW.set 0 (.bool true)
  have hk2:Keeps [w.heap.size+1] W (W.setCell ⟨w.heap.size+1,0,none⟩ (.bool true)):=(Keeps.refl _ _).setCell (.inl (by simp)) _
  have HDD:Hid ((W.setCell ⟨w.heap.size+1,0,none⟩ (.bool true)).heap[D]? =some (.deferred (some []))):=(hk2.block D (Array.getElem?_eq_some_iff.1 hKD).1 (by rw[List.mem_singleton];omega)).trans hKD
  have HFI:Hid (∀W',Keeps [D] (W.setCell ⟨w.heap.size+1,0,none⟩ (.bool true)) W'→W'.cell? ⟨w.heap.size+1,0,none⟩=some (.bool true)∧BelowPost w (tailsP X T) (.returned (.bool true)) W'):=λW' hk=>⟨by rw[(hb2.keep hk (by rw[List.mem_singleton];omega)).cell];rfl,true,rfl,⟨λ_=>hr,λ_=>rfl⟩,(hkW.trans hk2 (by intro y hy;rw[List.mem_singleton] at hy;omega)).trans hk (by intro y hy;rw[List.mem_singleton] at hy;omega)⟩
  clear hkW hcW hrW hall hKD hr hb2 hk2 hxs hlk hRG hbV hbR hk4 htells hX h64 HS
  go_wp2_with fail
  refine leaves_marks [D] _ (by simp) (λD' hD'=>by rw[List.mem_singleton] at hD';subst hD';exact HDD.out) λW' hk=> ?_
  obtain⟨h1,h2⟩:=HFI.out W' hk
  exact⟨.bool true,by simp[results,Tryz.results53,go_sem,h1],h2⟩
end Go.Proofs.YtphojondgfjmgaaGreatDoor
namespace Go.Proofs.YtphojondgfjmgaaGreatDoor
open Go.RowKit
set_option maxRecDepth 100000 in
set_option maxHeartbeats 4000000 in
theorem entriesLead_at {w:World} {b gp:Nat} {B:List Int} {ps:List (Int×Int)} {T:List (Ino×Value)} {own:Nat→List Nat} (h:SheetT w b gp B ps T own):
  Calls Tryz.prog 49 #[.pointer (some ⟨b,0,none⟩)] w (BelowPost w (leadP (putAll B ps) T)):=by
 have hzi:=zero_ino
 obtain⟨Z0,hZ0⟩:∃Z0,inoC inoZ (.slice none 0 0)=Z0:=⟨_,rfl⟩
 have HZZ:Hid (Z0.size=18):=by show _=_;rw[←hZ0];rfl
 rw[hZ0] at hzi
 clear hZ0
 have HG:Hid (Calls Tryz.prog 10 #[.pointer (some ⟨b,0,none⟩),.int .i64 0] w (GotPost w (putAll B ps) T own 0)):=h.get (i:=0) (by omega)
 have HEN:Hid (∀wx,Keeps [] w wx→Calls Tryz.prog 13 #[.pointer (some ⟨b,0,none⟩)] wx λe w'=>e= .returned (.agg (i64s (tallyF 32 (ledT T))).toArray)∧Keeps [] wx w'):=λwx hk=>entries_at (h.keep0 hk)
 have HFR:Hid (∀wx,Keeps [] w wx→∀i:Nat,i<32→Calls Tryz.prog 24 #[.pointer (some ⟨b,0,none⟩),.int .i64 (i:Int)] wx λe w'=>e= .returned (.bool (decide (FreeP (putAll B ps) (i:Int))))∧Keeps [] wx w'):=λwx hk i hi=>by
  have :=free_at (h.keep0 hk).sh (i:Int)
  rwa[show decide ((0≤(i:Int)∧(i:Int)<32)∧FreeP (putAll B ps) (i:Int))=decide (FreeP (putAll B ps) (i:Int)) by rw[decide_eq_decide];exact⟨λh=>h.2,λh=>⟨⟨by omega,by omega⟩,h⟩⟩] at this
 have HP:Hid (∀(r:Bool) w',(r=true↔((nT T 0).K=2∧∀i:Nat,i<32→0<ledT T i→¬FreeP (putAll B ps) (i:Int)))→Keeps [] w w'→BelowPost w (leadP (putAll B ps) T) (.returned (.bool r)) w'):=λr w' hr hk=>⟨r,rfl,hr,hk⟩
 have HRC:Hid (∀i,i<32→(i64s (tallyF 32 (ledT T))).toArray[i]? =some (.int .i64 (ledT T i:Int))):=λi hi=>tallyF_cell hi
 clear h
 generalize leadP (putAll B ps) T=pP at *
 generalize putAll B ps=X at *
 generalize (i64s (tallyF 32 (ledT T))).toArray=ZR at *
 go_enter Tryz.func49,Tryz.ntmps49
 go_wp2_with fail
 refine HG.out.mono ?_;rintro e w3 ⟨v,g,va,ga,r,rfl,hB,hE,hg,hO,hga,hk3,hr⟩
 obtain⟨w4,p1,p2,p3⟩:=store_ino9 (n:=nT T 0) (v:=v) (Blk.new w3 Z0 37) HZZ.out hB hE.one
 have HS4:=Lib.hid p1
 have HK4:Hid (Keeps [] w w4):=hk3.trans' (((Keeps.refl [] w3).alloc _).trans p3 (by intro x hx;rw[List.mem_singleton] at hx;omega))
 have c1:w4.cell? ⟨w3.heap.size,1,none⟩=some (.int .i64 (nT T 0).K):=by rw[p2.cell];exact(inoAt _ hB).f1
 clear hB hE hg hO hga hk3 hr p1 p2 p3 HG
 generalize inoC (nT T 0) v=ZN at *
 generalize hK:(nT T 0).K=K at *
 by_cases hk2:K=2
 ·subst hk2
  have HE4:=Lib.hid (HEN.out _ HK4.out)
  clear HEN
  go_wp2_with((with_reducible show wpList _ _ _ (⟨_,.store 37 (.tmp 3) (.tmp 11),_,_,_,_⟩::_) _ _);refine wpList_store_any rfl 37 (.tmp 3) (.tmp 11) rfl _ rfl _ rfl _ HS4.out ?_)
  refine HE4.out.mono ?_;rintro e w5 ⟨rfl,hk5⟩
  have HK5:=Lib.hid (HK4.out.trans' hk5)
  clear hk5 HE4 HS4 c1 HK4
  go_wp2_with fail
  go_loopg [19] 32 (λgh s19 wx=>∃k:Nat,k+gh=32∧s19= .int .i64 (k:Int)∧Hid (Keeps [] w wx∧∀i:Nat,i<k→0<ledT T i→¬FreeP X (i:Int)))
  case atStart=>exact⟨0,by omega,rfl,HK5.out,λi hi=>by omega⟩
  case round=>
   clear HK5
   obtain⟨k,hk,rfl,HI⟩:=hrel
   cases gk with
   |zero=>
    obtain rfl:k=32:=by omega
    have HF:=Lib.hid (HP.out true _ ⟨λ_=>⟨(by first|trivial|rfl),HI.out.2⟩,λ_=>rfl⟩ HI.out.1)
    clear HI HP HFR HRC
    go_wp2_with fail
    go_ret
    exact HF.out
   |succ gg=>
    have hki:(k:Int)<32:=by omega
    have hk32:k<32:=by omega
    have hix:=run_index_ints 48 3 32 .i64 ZR k _ Tryz.underlying48 Tryz.underlying3 size_int1 hk32 (HRC.out k hk32)
    have HFK:=Lib.hid (HFR.out _ HI.out.1 k hk32)
    have HOLD:=Lib.hid HI.out.2
    have HKK:=Lib.hid HI.out.1
    have HNX:Hid ((0<ledT T k→¬FreeP X (k:Int))→∀i:Nat,i<k+1→0<ledT T i→¬FreeP X (i:Int)):=λhh i hi=>by
     by_cases e:i=k
     ·rw[e];exact hh
     ·exact HOLD.out i (by omega)
    have HNO:Hid (¬(0<ledT T k→¬FreeP X (k:Int))→¬((2:Int)=2∧∀i:Nat,i<32→0<ledT T i→¬FreeP X (i:Int))):=λhh ha=>hh (ha.2 k hk32)
    clear HI HFR HRC HOLD
    generalize ledT T k=z at *
    by_cases hz:0<z
    ·have hzi2:(0:Int)<(z:Int):=by omega
     by_cases hf:FreeP X (k:Int)
     ·rw[decide_eq_true hf] at HFK
      have HNF:=Lib.hid (HNO.out λh=>h hz hf)
      clear HNX HNO hf hz
      go_wp2_with fail
      refine HFK.out.mono ?_;rintro e w6 ⟨rfl,hk6⟩
      have HF:=Lib.hid (HP.out false _ ⟨(λh=>by cases h),λh=>absurd h HNF.out⟩ (HKK.out.trans' hk6))
      clear hk6 HFK HKK HNF HP
      go_wp2_with fail
      go_ret
      exact HF.out
     ·rw[decide_eq_false hf] at HFK
      have HN:=Lib.hid (HNX.out λ_=>hf)
      clear HNX HNO hf hz
      go_wp2_with fail
      refine HFK.out.mono ?_;rintro e w6 ⟨rfl,hk6⟩
      have HK6:=Lib.hid (HKK.out.trans' hk6)
      clear hk6 HFK HKK
      go_wp2_with fail
      go_roundg gg
      case measure=>omega
      case rel=>exact⟨k+1,by omega,by go_num,HK6.out,HN.out⟩
    ·have hzi2:¬(0:Int)<(z:Int):=by omega
     have HN:=Lib.hid (HNX.out λh=>absurd h hz)
     obtain rfl:z=0:=by omega
     clear HNX HNO hz HFK
     go_wp2_with fail
     go_roundg gg
     case measure=>omega
     case rel=>exact⟨k+1,by omega,by go_num,HKK.out,HN.out⟩
 ·have hb:(K != 2)=true:=bne_iff_ne.2 hk2
  have HF:=Lib.hid (HP.out false _ ⟨(λh=>by cases h),λh=>absurd h.1 hk2⟩ HK4.out)
  clear HEN HFR HP hk2 HRC
  go_wp2_with((with_reducible show wpList _ _ _ (⟨_,.store 37 (.tmp 3) (.tmp 11),_,_,_,_⟩::_) _ _);refine wpList_store_any rfl 37 (.tmp 3) (.tmp 11) rfl _ rfl _ rfl _ HS4.out ?_)
  go_ret
  exact HF.out
def SoundPost (w:World) (P:Nat→Prop) (e:Ending) (w':World):Prop:=∃k:Nat,e= .returned (.tuple #[.int .i64 (k:Int),.bool (decide (k=0))])∧FirstP P k∧k≤7∧Keeps [] w w'
theorem points_at (w:World):Calls Tryz.prog 29 #[] w λe w'=>e= .returned (.slice (some ⟨w.heap.size,0,none⟩) 7 7)∧Keeps [] w w'∧
  w'.cell? ⟨w.heap.size,0,none⟩=some (.func (.func 47) #[] #[])∧w'.cell? ⟨w.heap.size,1,none⟩=some (.func (.func 48) #[] #[])∧w'.cell? ⟨w.heap.size,2,none⟩=some (.func (.func 49) #[] #[])∧
  w'.cell? ⟨w.heap.size,3,none⟩=some (.func (.func 50) #[] #[])∧w'.cell? ⟨w.heap.size,4,none⟩=some (.func (.func 51) #[] #[])∧w'.cell? ⟨w.heap.size,5,none⟩=some (.func (.func 52) #[] #[])∧
  w'.cell? ⟨w.heap.size,6,none⟩=some (.func (.func 53) #[] #[])∧w.heap.size<w'.heap.size:=by
 go_enter Tryz.func29,Tryz.ntmps29
 go_wp2_with fail
 go_ret
 exact⟨(by first|trivial|rfl),(Keeps.refl [] w).alloc _,by rw[(Blk.new w _ _).cell];rfl,by rw[(Blk.new w _ _).cell];rfl,by rw[(Blk.new w _ _).cell];rfl,by rw[(Blk.new w _ _).cell];rfl,by rw[(Blk.new w _ _).cell];rfl,by rw[(Blk.new w _ _).cell];rfl,by rw[(Blk.new w _ _).cell];rfl,by simp⟩
set_option maxRecDepth 100000 in
set_option maxHeartbeats 8000000 in
theorem sound_at {w:World} {b gp:Nat} {B:List Int} {ps:List (Int×Int)} {T:List (Ino×Value)} {own:Nat→List Nat} (h:SheetT w b gp B ps T own):
  Calls Tryz.prog 11 #[.pointer (some ⟨b,0,none⟩)] w (SoundPost w (PointP (putAll B ps) T own)):=by
 have HC0:Hid (∀wx,Keeps [] w wx→Calls Tryz.prog 47 #[.pointer (some ⟨b,0,none⟩)] wx (BelowPost wx (PointP (putAll B ps) T own 0))):=λwx hk=>wordsRight_at (h.keep0 hk).sh
 have HC1:Hid (∀wx,Keeps [] w wx→Calls Tryz.prog 48 #[.pointer (some ⟨b,0,none⟩)] wx (BelowPost wx (PointP (putAll B ps) T own 1))):=λwx hk=>allGot_at (h.keep0 hk)
 have HC2:Hid (∀wx,Keeps [] w wx→Calls Tryz.prog 49 #[.pointer (some ⟨b,0,none⟩)] wx (BelowPost wx (PointP (putAll B ps) T own 2))):=λwx hk=>entriesLead_at (h.keep0 hk)
 have HC3:Hid (∀wx,Keeps [] w wx→Calls Tryz.prog 50 #[.pointer (some ⟨b,0,none⟩)] wx (BelowPost wx (PointP (putAll B ps) T own 3))):=λwx hk=>linksCounted_at (h.keep0 hk)
 have HC4:Hid (∀wx,Keeps [] w wx→Calls Tryz.prog 51 #[.pointer (some ⟨b,0,none⟩)] wx (BelowPost wx (PointP (putAll B ps) T own 4))):=λwx hk=>allReached_at (h.keep0 hk)
 have HC5:Hid (∀wx,Keeps [] w wx→Calls Tryz.prog 52 #[.pointer (some ⟨b,0,none⟩)] wx (BelowPost wx (PointP (putAll B ps) T own 5))):=λwx hk=>blocksOnce_at (h.keep0 hk)
 have HC6:Hid (∀wx,Keeps [] w wx→Calls Tryz.prog 53 #[.pointer (some ⟨b,0,none⟩)] wx (BelowPost wx (PointP (putAll B ps) T own 6))):=λwx hk=>tailsEmpty_at (h.keep0 hk)
 clear h
 generalize PointP (putAll B ps) T own=pP at *
 go_enter Tryz.func11,Tryz.ntmps11
 go_wp2_with fail
 refine(points_at _).mono ?_;rintro e w1 ⟨rfl,hk1,q0,q1,q2,q3,q4,q5,q6,hlt⟩
 have HK1:=Lib.hid hk1
 have HQ:Hid (∀wx,Keeps [] w1 wx→wx.cell? ⟨w.heap.size,0,none⟩=some (.func (.func 47) #[] #[])∧wx.cell? ⟨w.heap.size,1,none⟩=some (.func (.func 48) #[] #[])∧wx.cell? ⟨w.heap.size,2,none⟩=some (.func (.func 49) #[] #[])∧
  wx.cell? ⟨w.heap.size,3,none⟩=some (.func (.func 50) #[] #[])∧wx.cell? ⟨w.heap.size,4,none⟩=some (.func (.func 51) #[] #[])∧wx.cell? ⟨w.heap.size,5,none⟩=some (.func (.func 52) #[] #[])∧
  wx.cell? ⟨w.heap.size,6,none⟩=some (.func (.func 53) #[] #[])):=λwx hk=>by
  have hb:=hk.block w.heap.size hlt (by simp)
  exact⟨(World.cell?_of_block (a:=⟨w.heap.size,0,none⟩) hb).trans q0,(World.cell?_of_block (a:=⟨w.heap.size,1,none⟩) hb).trans q1,(World.cell?_of_block (a:=⟨w.heap.size,2,none⟩) hb).trans q2,(World.cell?_of_block (a:=⟨w.heap.size,3,none⟩) hb).trans q3,(World.cell?_of_block (a:=⟨w.heap.size,4,none⟩) hb).trans q4,(World.cell?_of_block (a:=⟨w.heap.size,5,none⟩) hb).trans q5,(World.cell?_of_block (a:=⟨w.heap.size,6,none⟩) hb).trans q6⟩
 clear hk1 q0 q1 q2 q3 q4 q5 q6 hlt
 go_wp2_with fail
 go_loopg [8] 7 (λgh s8 wx=>∃k:Nat,k+gh=7∧s8= .int .i64 (k:Int)∧Hid (Keeps [] w1 wx∧∀j,j<k→pP j))
 case atStart=>exact⟨0,by omega,rfl,Keeps.refl _ _,λj hj=>by omega⟩
 case round=>
  obtain⟨k,hk,rfl,HI⟩:=hrel
  cases gk with
  |zero=>
   obtain rfl:k=7:=by omega
   have HF:Hid (SoundPost w pP (.returned (.tuple #[.int .i64 0,.bool true])) wr):=⟨0,rfl,.inl ⟨rfl,HI.out.2⟩,by omega,HK1.out.trans' HI.out.1⟩
   clear HI HQ HC0 HC1 HC2 HC3 HC4 HC5 HC6
   go_wp2_with fail
   go_ret2
   exact HF.out
  |succ gg=>
   have HOLD:=Lib.hid HI.out.2
   have HKK:=Lib.hid HI.out.1
   obtain⟨q0,q1,q2,q3,q4,q5,q6⟩:=HQ.out _ HKK.out
   have HKW:=Lib.hid (HK1.out.trans' HKK.out)
   have hk7:k=0∨k=1∨k=2∨k=3∨k=4∨k=5∨k=6:=by omega
   have hg0:=gg
   rcases hk7 with rfl|rfl|rfl|rfl|rfl|rfl|rfl
   ·obtain rfl:gg=6:=by omega
    have HCK:=Lib.hid (HC0.out _ HKW.out)
    clear HI HQ HC0 HC1 HC2 HC3 HC4 HC5 HC6 q1 q2 q3 q4 q5 q6
    go_wp2_with fail
    refine HCK.out.mono ?_;rintro e w2 ⟨r,rfl,hr,hk2⟩
    cases r
    ·have HF:Hid (SoundPost w pP (.returned (.tuple #[.int .i64 1,.bool false])) w2):=⟨1,rfl,.inr ⟨by omega,by omega,λh=>(by cases hr.2 h),HOLD.out⟩,by omega,HKW.out.trans' hk2⟩
     clear HOLD HKK hr hk2 HCK
     go_wp2_with fail
     go_ret2
     exact HF.out
    ·have HN:Hid (Keeps [] w1 w2∧∀j,j<1→pP j):=⟨HKK.out.trans' hk2,λj hj=>by
      by_cases e:j=0
      ·rw[e];exact hr.1 rfl
      ·exact HOLD.out j (by omega)⟩
     clear HOLD HKK hr hk2 HCK
     go_wp2_with fail
     go_roundg 6
     case measure=>omega
     case rel=>exact⟨1,by omega,by go_num,HN.out⟩
   ·obtain rfl:gg=5:=by omega
    have HCK:=Lib.hid (HC1.out _ HKW.out)
    clear HI HQ HC0 HC1 HC2 HC3 HC4 HC5 HC6 q0 q2 q3 q4 q5 q6
    go_wp2_with fail
    refine HCK.out.mono ?_;rintro e w2 ⟨r,rfl,hr,hk2⟩
    cases r
    ·have HF:Hid (SoundPost w pP (.returned (.tuple #[.int .i64 2,.bool false])) w2):=⟨2,rfl,.inr ⟨by omega,by omega,λh=>(by cases hr.2 h),HOLD.out⟩,by omega,HKW.out.trans' hk2⟩
     clear HOLD HKK hr hk2 HCK
     go_wp2_with fail
     go_ret2
     exact HF.out
    ·have HN:Hid (Keeps [] w1 w2∧∀j,j<2→pP j):=⟨HKK.out.trans' hk2,λj hj=>by
      by_cases e:j=1
      ·rw[e];exact hr.1 rfl
      ·exact HOLD.out j (by omega)⟩
     clear HOLD HKK hr hk2 HCK
     go_wp2_with fail
     go_roundg 5
     case measure=>omega
     case rel=>exact⟨2,by omega,by go_num,HN.out⟩
   ·obtain rfl:gg=4:=by omega
    have HCK:=Lib.hid (HC2.out _ HKW.out)
    clear HI HQ HC0 HC1 HC2 HC3 HC4 HC5 HC6 q0 q1 q3 q4 q5 q6
    go_wp2_with fail
    refine HCK.out.mono ?_;rintro e w2 ⟨r,rfl,hr,hk2⟩
    cases r
    ·have HF:Hid (SoundPost w pP (.returned (.tuple #[.int .i64 3,.bool false])) w2):=⟨3,rfl,.inr ⟨by omega,by omega,λh=>(by cases hr.2 h),HOLD.out⟩,by omega,HKW.out.trans' hk2⟩
     clear HOLD HKK hr hk2 HCK
     go_wp2_with fail
     go_ret2
     exact HF.out
    ·have HN:Hid (Keeps [] w1 w2∧∀j,j<3→pP j):=⟨HKK.out.trans' hk2,λj hj=>by
      by_cases e:j=2
      ·rw[e];exact hr.1 rfl
      ·exact HOLD.out j (by omega)⟩
     clear HOLD HKK hr hk2 HCK
     go_wp2_with fail
     go_roundg 4
     case measure=>omega
     case rel=>exact⟨3,by omega,by go_num,HN.out⟩
   ·obtain rfl:gg=3:=by omega
    have HCK:=Lib.hid (HC3.out _ HKW.out)
    clear HI HQ HC0 HC1 HC2 HC3 HC4 HC5 HC6 q0 q1 q2 q4 q5 q6
    go_wp2_with fail
    refine HCK.out.mono ?_;rintro e w2 ⟨r,rfl,hr,hk2⟩
    cases r
    ·have HF:Hid (SoundPost w pP (.returned (.tuple #[.int .i64 4,.bool false])) w2):=⟨4,rfl,.inr ⟨by omega,by omega,λh=>(by cases hr.2 h),HOLD.out⟩,by omega,HKW.out.trans' hk2⟩
     clear HOLD HKK hr hk2 HCK
     go_wp2_with fail
     go_ret2
     exact HF.out
    ·have HN:Hid (Keeps [] w1 w2∧∀j,j<4→pP j):=⟨HKK.out.trans' hk2,λj hj=>by
      by_cases e:j=3
      ·rw[e];exact hr.1 rfl
      ·exact HOLD.out j (by omega)⟩
     clear HOLD HKK hr hk2 HCK
     go_wp2_with fail
     go_roundg 3
     case measure=>omega
     case rel=>exact⟨4,by omega,by go_num,HN.out⟩
   ·obtain rfl:gg=2:=by omega
    have HCK:=Lib.hid (HC4.out _ HKW.out)
    clear HI HQ HC0 HC1 HC2 HC3 HC4 HC5 HC6 q0 q1 q2 q3 q5 q6
    go_wp2_with fail
    refine HCK.out.mono ?_;rintro e w2 ⟨r,rfl,hr,hk2⟩
    cases r
    ·have HF:Hid (SoundPost w pP (.returned (.tuple #[.int .i64 5,.bool false])) w2):=⟨5,rfl,.inr ⟨by omega,by omega,λh=>(by cases hr.2 h),HOLD.out⟩,by omega,HKW.out.trans' hk2⟩
     clear HOLD HKK hr hk2 HCK
     go_wp2_with fail
     go_ret2
     exact HF.out
    ·have HN:Hid (Keeps [] w1 w2∧∀j,j<5→pP j):=⟨HKK.out.trans' hk2,λj hj=>by
      by_cases e:j=4
      ·rw[e];exact hr.1 rfl
      ·exact HOLD.out j (by omega)⟩
     clear HOLD HKK hr hk2 HCK
     go_wp2_with fail
     go_roundg 2
     case measure=>omega
     case rel=>exact⟨5,by omega,by go_num,HN.out⟩
   ·obtain rfl:gg=1:=by omega
    have HCK:=Lib.hid (HC5.out _ HKW.out)
    clear HI HQ HC0 HC1 HC2 HC3 HC4 HC5 HC6 q0 q1 q2 q3 q4 q6
    go_wp2_with fail
    refine HCK.out.mono ?_;rintro e w2 ⟨r,rfl,hr,hk2⟩
    cases r
    ·have HF:Hid (SoundPost w pP (.returned (.tuple #[.int .i64 6,.bool false])) w2):=⟨6,rfl,.inr ⟨by omega,by omega,λh=>(by cases hr.2 h),HOLD.out⟩,by omega,HKW.out.trans' hk2⟩
     clear HOLD HKK hr hk2 HCK
     go_wp2_with fail
     go_ret2
     exact HF.out
    ·have HN:Hid (Keeps [] w1 w2∧∀j,j<6→pP j):=⟨HKK.out.trans' hk2,λj hj=>by
      by_cases e:j=5
      ·rw[e];exact hr.1 rfl
      ·exact HOLD.out j (by omega)⟩
     clear HOLD HKK hr hk2 HCK
     go_wp2_with fail
     go_roundg 1
     case measure=>omega
     case rel=>exact⟨6,by omega,by go_num,HN.out⟩
   ·obtain rfl:gg=0:=by omega
    have HCK:=Lib.hid (HC6.out _ HKW.out)
    clear HI HQ HC0 HC1 HC2 HC3 HC4 HC5 HC6 q0 q1 q2 q3 q4 q5
    go_wp2_with fail
    refine HCK.out.mono ?_;rintro e w2 ⟨r,rfl,hr,hk2⟩
    cases r
    ·have HF:Hid (SoundPost w pP (.returned (.tuple #[.int .i64 7,.bool false])) w2):=⟨7,rfl,.inr ⟨by omega,by omega,λh=>(by cases hr.2 h),HOLD.out⟩,by omega,HKW.out.trans' hk2⟩
     clear HOLD HKK hr hk2 HCK
     go_wp2_with fail
     go_ret2
     exact HF.out
    ·have HN:Hid (Keeps [] w1 w2∧∀j,j<7→pP j):=⟨HKK.out.trans' hk2,λj hj=>by
      by_cases e:j=6
      ·rw[e];exact hr.1 rfl
      ·exact HOLD.out j (by omega)⟩
     clear HOLD HKK hr hk2 HCK
     go_wp2_with fail
     go_roundg 0
     case measure=>omega
     case rel=>exact⟨7,by omega,by go_num,HN.out⟩
def bitsB (ws:List Nat) (n:Nat):List Bool:=(List.range 256).map λc=>if c<n then (ws.getD (c/64) 0).testBit (c%64) else false
theorem bitsB_len (ws:List Nat) (n:Nat):(bitsB ws n).length=256:=by simp[bitsB]
theorem bitsB_get (ws:List Nat) (n c:Nat) (hc:c<256):(bitsB ws n).getD c false=if c<n then (ws.getD (c/64) 0).testBit (c%64) else false:=by
 rw[bitsB,List.getD_eq_getElem?_getD,List.getElem?_map,List.getElem?_range hc]
 rfl
theorem ext_getB {l m:List Bool} (hl:l.length=256) (hm:m.length=256) (h:∀j,j<256→l.getD j false=m.getD j false):l=m:=by
 apply List.ext_getElem (by rw[hl,hm])
 intro j h1 h2
 have :=h j (by omega)
 simpa[List.getD_eq_getElem?_getD,h1,h2] using this
theorem getD_setB (l:List Bool) (i j:Nat) (x:Bool) (hi:i<l.length):(l.set i x).getD j false=if i=j then x else l.getD j false:=by
 rw[List.getD_eq_getElem?_getD,List.getElem?_set]
 by_cases e:i=j
 ·subst e;simp[hi]
 ·rw[if_neg e,if_neg e,List.getD_eq_getElem?_getD]
theorem bitsB_zero (ws:List Nat):List.replicate 256 false=bitsB ws 0:=by
 refine ext_getB List.length_replicate (bitsB_len _ _) λj hj=> ?_
 rw[bitsB_get _ _ _ hj,if_neg (by omega),List.getD_eq_getElem?_getD,List.getElem?_replicate,if_pos hj]
 rfl
theorem bitsB_succ (ws:List Nat) (k j:Nat) (hk:k<4) (hj:j<64):(bitsB ws (64*k+j)).set (64*k+j) ((ws.getD k 0).testBit j)=bitsB ws (64*k+j+1):=by
 refine ext_getB (by rw[List.length_set,bitsB_len]) (bitsB_len _ _) λc hc=> ?_
 rw[getD_setB _ _ _ _ (by rw[bitsB_len];omega),bitsB_get _ _ _ hc,bitsB_get _ _ _ hc]
 by_cases e:64*k+j=c
 ·rw[if_pos e,if_pos (by omega),show c/64=k by omega,show c%64=j by omega]
 ·rw[if_neg e]
  by_cases e2:c<64*k+j
  ·rw[if_pos e2,if_pos (by omega)]
  ·rw[if_neg e2,if_neg (by omega)]
theorem Tryz.info_bool:(Tryz.prog.info? 4).map (λi=>(i.zero,i.size,i.bytes))=some (some (.bool false),1,1):=by kernel_rfl
theorem make_bools (w:World) (n:Nat) (hn:n≤100000):(Instr.makeSlice 101 (.int .i64 (n:Int)) (.int .i64 (n:Int))).run Tryz.prog w= .ok (.slice (some ⟨w.heap.size,0,none⟩) n n) (w.alloc (.cells (madeCells #[.bool false] n) 4)):=by
 obtain⟨i0,hi,hz0,hz1,hz2⟩:=info_parts Tryz.info_bool
 have :=run_make (P:= Tryz.prog) w 101 4 i0 _ Tryz.underlying101 hi hz0 .i64 .i64 (n:Int) (n:Int) (by omega) (by omega) (by rw[hz2];omega) (by omega)
 rw[hz1,Int.toNat_natCast,Nat.mul_one] at this
 exact this
theorem owns_bools (w:World) (n:Nat) (hn:n≤100000):Owns (w.alloc (.cells (madeCells #[.bool false] n) 4)) (.slice (some ⟨w.heap.size,0,none⟩) n n) w.heap.size 4 1 n (bools (List.replicate n false)):=by
 refine⟨by simp[bools],_,n,rfl,Nat.le_refl _,by unfold maxLen;omega,λ_=>⟨rfl,_,Blk.new _ _ _,by simp[size_madeCells],?_⟩⟩
 rw[toList_madeCells_one,List.take_of_length_le (by simp)]
 simp[bools]
theorem make_bits (w:World):∃mc,(Instr.makeSlice 101 (.int .i64 256) (.int .i64 256)).run Tryz.prog w= .ok (.slice (some ⟨w.heap.size,0,none⟩) 256 256) (w.alloc (.cells mc 4))∧
  Owns (w.alloc (.cells mc 4)) (.slice (some ⟨w.heap.size,0,none⟩) 256 256) w.heap.size 4 1 256 (bools (List.replicate 256 false)):=
 ⟨_,make_bools w 256 (by omega),owns_bools w 256 (by omega)⟩
theorem bools_getO {w:World} {v:Value} {g T n:Nat} {xs:List Bool} (h:Owns w v g T 1 n (bools xs)) (hn:xs.length=n) {j:Nat} (hj:j<n):
  (∃cap,v= .slice (some ⟨g,0,none⟩) n cap∧n≤cap∧cap≤maxLen)∧w.cell? ⟨g,j,none⟩=some (.bool (xs.getD j false))∧w.frozen? ⟨g,j,none⟩=false:=by
 obtain⟨-,h1,h2,h3⟩:=h.cell (by omega)
 exact⟨h1,(h2 j (by omega)).trans (bools_get (by omega)),h3 j⟩
theorem Owns.setB {w:World} {v:Value} {g T n:Nat} {xs:List Bool} (h:Owns w v g T 1 n (bools xs)) (j:Nat) (x:Bool):Owns (w.setCell ⟨g,j,none⟩ (.bool x)) v g T 1 n (bools (xs.set j x)):=by
 have :=h.set j (.bool x)
 rwa[bools_set] at this
def MadeBits (w:World) (bl:List Bool) (e:Ending) (w':World):Prop:=
 ∃g,e= .returned (.slice (some ⟨g,0,none⟩) 256 256)∧Owns w' (.slice (some ⟨g,0,none⟩) 256 256) g 4 1 256 (bools bl)∧w.heap.size≤g∧Keeps [] w w'
set_option maxRecDepth 100000 in
set_option maxHeartbeats 4000000 in
theorem bits_at (ws:List Nat) (hws:∀i,ws.getD i 0<18446744073709551616) (w:World):Calls Tryz.prog 54 #[.agg (w4 ws)] w (MadeBits w (bitsB ws 256)):=by
 have hcell:=λk hk=>w4_get ws k hk
 have HC:=Lib.hid hcell
 have HWS:=Lib.hid hws
 clear hcell hws
 generalize w4 ws=Z at *
 obtain⟨mc,hmk,hoz⟩:=make_bits (w.alloc (.cells Z 103))
 have hz:(w.alloc (.cells Z 103)).heap.size=w.heap.size+1:=by simp
 rw[hz] at hmk hoz
 rw[bitsB_zero ws] at hoz
 have HO:=Lib.hid hoz
 have HB:Hid (Blk ((w.alloc (.cells Z 103)).alloc (.cells mc 4)) w.heap.size Z 103):=(Blk.new w Z _).alloc _
 have HK:Hid (Keeps [] w ((w.alloc (.cells Z 103)).alloc (.cells mc 4))):=((Keeps.refl [] w).alloc _).alloc _
 clear hoz hz
 go_enter Tryz.func54,Tryz.ntmps54
 go_wp2_with fail
 clear hmk
 go_loopg [4] 4 (λgh s4 wx=>∃k:Nat,k+gh=4∧s4= .int .i64 (k:Int)∧Hid (Owns wx (.slice (some ⟨w.heap.size+1,0,none⟩) 256 256) (w.heap.size+1) 4 1 256 (bools (bitsB ws (64*k)))∧Blk wx w.heap.size Z 103∧Keeps [] w wx))
 case atStart=>exact⟨0,by omega,rfl,HO.out,HB.out,HK.out⟩
 case round=>
  clear HO HB HK
  obtain⟨k,hk,rfl,HR⟩:=hrel
  cases gk with
  |zero=>
   obtain rfl:k=4:=by omega
   clear hk
   have HM:Hid (MadeBits w (bitsB ws 256) (.returned (.slice (some ⟨w.heap.size+1,0,none⟩) 256 256)) wr):=⟨_,rfl,HR.out.1,by omega,HR.out.2.2⟩
   clear HR
   go_wp2_with fail
   go_ret
   exact HM.out
  |succ gg=>
   have hk4:k<4:=by omega
   have hlt:(k:Int)<4:=by omega
   have hk0:(0:Int)≤(k:Int):=by omega
   have c0:wr.cell? ⟨w.heap.size,k,none⟩=some (.int .u64 ((ws.getD k 0:Nat):Int)):=by rw[HR.out.2.1.cell,HC.out k hk4]
   have HSU:=Lib.hid (λj hj=>bitsB_succ ws k j hk4 hj)
   have HTB:Hid (∀j,(ws.getD k 0).testBit j=decide (ws.getD k 0/2^j%2=1)):=λj=>Nat.testBit_eq_decide_div_mod_eq
   have HXL:=Lib.hid (HWS.out k)
   generalize ws.getD k 0=x at *
   go_wp2_with fail
   clear c0
   go_loopg [5,6] 64 (λgh s5 s6 wx=>∃j:Nat,j+gh=64∧s6= .int .i64 (j:Int)∧s5= .int .u64 ((x/2^j:Nat):Int)∧Hid (Owns wx (.slice (some ⟨w.heap.size+1,0,none⟩) 256 256) (w.heap.size+1) 4 1 256 (bools (bitsB ws (64*k+j)))∧Blk wx w.heap.size Z 103∧Keeps [] w wx))
   case atStart=>exact⟨0,by omega,rfl,by simp,HR.out⟩
   case round=>
    clear HR
    obtain⟨j,hj,rfl,rfl,HR⟩:=hrel
    cases gk with
    |zero=>
     obtain rfl:j=64:=by omega
     clear hj
     go_wp2_with fail
     go_roundg gg
     case measure=>omega
     case rel=>exact⟨k+1,by omega,by go_num,HR.out⟩
    |succ g2=>
     have hj6:j<64:=by omega
     have hltj:(j:Int)<64:=by omega
     have hj0:(0:Int)≤(j:Int):=by omega
     obtain⟨ho,hb,hkp⟩:=HR.out
     obtain⟨-,hc,hf⟩:=bools_getO ho (bitsB_len _ _) (show 64*k+j<256 by omega)
     have htb:=HTB.out j
     have HS:Hid (Owns (wr.setCell ⟨w.heap.size+1,64*k+j,none⟩ (.bool (x.testBit j))) (.slice (some ⟨w.heap.size+1,0,none⟩) 256 256) (w.heap.size+1) 4 1 256 (bools (bitsB ws (64*k+j+1)))):=by
      show Owns _ _ _ _ _ _ _
      rw[←HSU.out j hj6]
      exact ho.setB _ _
     have HBN:Hid (Blk (wr.setCell ⟨w.heap.size+1,64*k+j,none⟩ (.bool (x.testBit j))) w.heap.size Z 103):=hb.other (by simp) _
     have HKP:=Lib.hid hkp
     have HX:Hid (((x/2^j:Nat):Int)/2=((x/2^(j+1):Nat):Int)):=by
      show _=_
      rw[Nat.pow_succ,←Nat.div_div_eq_div_mul]
      omega
     have HXW:=Lib.hid (wrapU (x/2^(j+1)) (Nat.lt_of_le_of_lt (Nat.div_le_self _ _) HXL.out))
     clear ho hb hkp HR
     generalize hm:x/2^j=m at *
     have e1:((m:Int)%2==1)=x.testBit j:=by rw[htb,Bool.eq_iff_iff];simp;omega
     have hm0:(0:Int)≤(m:Int):=by omega
     clear htb hm
     generalize x.testBit j=t at *
     generalize (bitsB ws (64*k+j)).getD (64*k+j) false=old at *
     go_wp2_with fail
     go_roundg g2
     case measure=>omega
     case rel=>exact⟨j+1,by omega,by go_num,by rw[HX.out,HXW.out],HS.out,HBN.out,HKP.out.setCell (by simp) _⟩
set_option maxHeartbeats 1000000 in
theorem refByte_at (W n:Nat) (hW:W<18446744073709551616) (hn:n≤8) (w:World):Calls Tryz.prog 55 #[.int .u64 (W:Int),.int .i64 (n:Int)] w λe w'=>e= .returned (.int .u8 (byt W n:Nat))∧w=w':=by
 go_enter Tryz.func55,Tryz.ntmps55
 go_wp2
 go_loopg [0,5] n (λg s0 s5 wx=>∃k:Nat,k+g=n∧s5= .int .i64 (k:Int)∧s0= .int .u64 ((W/256^k:Nat):Int)∧wx=w)
 case atStart=>exact⟨0,by omega,rfl,by simp,rfl⟩
 case round=>
  obtain⟨k,hk,rfl,rfl,rfl⟩:=hrel
  cases gk with
  |zero=>
   obtain rfl:k=n:=by omega
   have hlt:¬(k:Int)<(k:Int):=by omega
   have HB:Hid (W/256^k%256=byt W k):=rfl
   generalize W/256^k=x at *
   go_wp2_with fail
   go_ret
   refine⟨?_,rfl⟩
   rw[←HB.out]
   rfl
  |succ g=>
   have hlt:(k:Int)<(n:Int):=by omega
   have HX:=Lib.hid (show W/256^k/256=W/256^(k+1) by rw[Nat.div_div_eq_div_mul,Nat.pow_succ])
   have hx:W/256^k<18446744073709551616:=Nat.lt_of_le_of_lt (Nat.div_le_self _ _) hW
   generalize W/256^k=x at *
   go_wp2_with fail
   go_roundg g
   case measure=>omega
   case rel=>
    refine⟨k+1,by omega,by go_num,?_,rfl⟩
    rw[←HX.out]
    rfl
theorem words_open {w:World} {v:Value} {g:Nat} {X:List Int} (h:Reads w v g (u64s X)) (hX:X.length=3128):∃off cap,v= .slice (some ⟨g,off,none⟩) 3128 cap∧3128≤cap∧cap≤maxLen∧g<w.heap.size∧∀k,k<3128→w.cell? ⟨g,off+k,none⟩=some (.int .u64 (X.getD k 0)):=by
 obtain⟨a,cap,rfl,h1,h2,h3⟩:=h
 have hl:(u64s X).length=3128:=by rw[u64s_len,hX]
 obtain⟨h4,off,rfl,h5⟩:=h3 (λe=>by rw[e] at hl;simp at hl)
 rw[hl] at h1 h5 ⊢
 exact⟨off,cap,rfl,h1,h2,h4,λk hk=>by rw[h5 k hk,u64s_get (by omega)]⟩
set_option maxRecDepth 100000 in
set_option maxHeartbeats 4000000 in
theorem refSuper_at {w:World} {v:Value} {g:Nat} {X:List Int} (hR:Reads w v g (u64s X)) (hX:X.length=3128):
  Calls Tryz.prog 30 #[v] w (BelowPost w (superOk X)):=by
 obtain⟨off,cap,rfl,hc1,hc2,hgl,hcell⟩:=words_open hR hX
 have HC:=Lib.hid hcell
 have HP:Hid (∀r:Bool,(r=true↔(X.getD 0 0=7596835243318849792∧(X.getD 1 0=1∨X.getD 1 0=2)∧X.getD 2 0≤32∧(∀i:Nat,3≤i→i<8→X.getD i 0=0)∧∀i:Nat,820≤i→i<824→X.getD i 0=0))→BelowPost w (superOk X) (.returned (.bool r)) w):=λr hr=>⟨r,rfl,hr,Keeps.refl _ _⟩
 unfold maxLen at hc2
 clear hR hX hcell hgl
 generalize superOk X=pP at *
 go_enter Tryz.func30,Tryz.ntmps30
 go_wp2_with fail
 go_loopg [3] 5 (λgh s3 wx=>w=wx∧∃k:Nat,k+gh=8∧s3= .int .i64 (k:Int)∧Hid (3≤k∧∀i:Nat,3≤i→i<k→X.getD i 0=0))
 case atStart=>exact⟨rfl,3,by omega,rfl,Nat.le_refl _,λi h1 h2=>by omega⟩
 case round=>
  obtain⟨rfl,k,hk,rfl,HI⟩:=hrel
  cases gk with
  |succ gg=>
   have hki:(k:Int)<8:=by omega
   have hk0:(0:Int)≤(k:Int):=by omega
   have hk31:(k:Int)<3128:=by omega
   have ck:=HC.out k (by omega)
   have hk8:k<8:=by omega
   by_cases hx:X.getD k 0=0
   ·have HN:Hid (3≤k+1∧∀i:Nat,3≤i→i<k+1→X.getD i 0=0):=⟨by have :=HI.out.1;omega,λi h1 h2=>by
     by_cases e:i=k
     ·rw[e];exact hx
     ·exact HI.out.2 i h1 (by omega)⟩
    rw[hx] at ck
    clear HI hx HC
    go_wp2_with fail
    go_roundg gg
    case measure=>omega
    case rel=>exact⟨rfl,k+1,by omega,by go_num,HN.out⟩
   ·have HF:=Lib.hid (HP.out false ⟨λh=>(by cases h),λhh=>absurd (hh.2.2.2.1 k HI.out.1 hk8) hx⟩)
    have hb:(X.getD k 0 != 0)=true:=bne_iff_ne.2 hx
    clear HI hx HC HP
    generalize X.getD k 0=x at *
    go_wp2_with fail
    go_ret
    exact HF.out
  |zero=>
   obtain rfl:k=8:=by omega
   have H8:=Lib.hid HI.out.2
   clear HI hk
   go_wp2_with fail
   go_loopg [4] 4 (λgh s4 wx=>w=wx∧∃k:Nat,k+gh=824∧s4= .int .i64 (k:Int)∧Hid (820≤k∧∀i:Nat,820≤i→i<k→X.getD i 0=0))
   case atStart=>exact⟨rfl,820,by omega,rfl,Nat.le_refl _,λi h1 h2=>by omega⟩
   case round=>
    obtain⟨rfl,k,hk,rfl,HI⟩:=hrel
    cases gk with
    |succ g2=>
     have hki:(k:Int)<824:=by omega
     have hk0:(0:Int)≤(k:Int):=by omega
     have hk31:(k:Int)<3128:=by omega
     have ck:=HC.out k (by omega)
     have hk8:k<824:=by omega
     by_cases hx:X.getD k 0=0
     ·have HN:Hid (820≤k+1∧∀i:Nat,820≤i→i<k+1→X.getD i 0=0):=⟨by have :=HI.out.1;omega,λi h1 h2=>by
       by_cases e:i=k
       ·rw[e];exact hx
       ·exact HI.out.2 i h1 (by omega)⟩
      rw[hx] at ck
      clear HI hx HC H8
      go_wp2_with fail
      go_roundg g2
      case measure=>omega
      case rel=>exact⟨rfl,k+1,by omega,by go_num,HN.out⟩
     ·have HF:=Lib.hid (HP.out false ⟨λh=>(by cases h),λhh=>absurd (hh.2.2.2.2 k HI.out.1 hk8) hx⟩)
      have hb:(X.getD k 0 != 0)=true:=bne_iff_ne.2 hx
      clear HI hx HC HP H8
      generalize X.getD k 0=x at *
      go_wp2_with fail
      go_ret
      exact HF.out
    |zero=>
     obtain rfl:k=824:=by omega
     have H9:=Lib.hid HI.out.2
     have c0:=HC.out 0 (by omega)
     have c1:=HC.out 1 (by omega)
     have c2:=HC.out 2 (by omega)
     rw[Nat.add_zero] at c0
     have HQ:Hid (∀r:Bool,(r=true↔(X.getD 0 0=7596835243318849792∧(X.getD 1 0=1∨X.getD 1 0=2)∧X.getD 2 0≤32))→BelowPost w pP (.returned (.bool r)) w):=λr hr=>HP.out r (hr.trans ⟨λh=>⟨h.1,h.2.1,h.2.2,H8.out,H9.out⟩,λh=>⟨h.1,h.2.1,h.2.2.1⟩⟩)
     clear HI HP HC H8 H9 hk
     generalize X.getD 0 0=x0 at *
     generalize X.getD 1 0=x1 at *
     generalize X.getD 2 0=x2 at *
     by_cases e0:x0=7596835243318849792
     ·have b0:(x0==7596835243318849792)=true:=by simpa using e0
      by_cases e2:x2≤32
      ·by_cases e1:x1=1
       ·have b1:(x1==1)=true:=by simpa using e1
        have HF:=Lib.hid (HQ.out true ⟨λ_=>⟨e0,.inl e1,e2⟩,λ_=>rfl⟩)
        clear HQ e0 e1
        go_wp2_with fail
        go_ret
        exact HF.out
       ·have b1:(x1==1)=false:=by simpa using e1
        by_cases e3:x1=2
        ·have b3:(x1==2)=true:=by simpa using e3
         have HF:=Lib.hid (HQ.out true ⟨λ_=>⟨e0,.inr e3,e2⟩,λ_=>rfl⟩)
         clear HQ e0 e1 e3
         go_wp2_with fail
         go_ret
         exact HF.out
        ·have b3:(x1==2)=false:=by simpa using e3
         have HF:=Lib.hid (HQ.out false ⟨λh=>(by cases h),λh=>by have :=h.2.1;omega⟩)
         clear HQ e0 e1 e3
         go_wp2_with fail
         go_ret
         exact HF.out
      ·by_cases e1:x1=1
       ·have b1:(x1==1)=true:=by simpa using e1
        have HF:=Lib.hid (HQ.out false ⟨λh=>(by cases h),λh=>absurd h.2.2 e2⟩)
        clear HQ e0 e1
        go_wp2_with fail
        go_ret
        exact HF.out
       ·have b1:(x1==1)=false:=by simpa using e1
        by_cases e3:x1=2
        ·have b3:(x1==2)=true:=by simpa using e3
         have HF:=Lib.hid (HQ.out false ⟨λh=>(by cases h),λh=>absurd h.2.2 e2⟩)
         clear HQ e0 e1 e3
         go_wp2_with fail
         go_ret
         exact HF.out
        ·have b3:(x1==2)=false:=by simpa using e3
         have HF:=Lib.hid (HQ.out false ⟨λh=>(by cases h),λh=>by have :=h.2.1;omega⟩)
         clear HQ e0 e1 e3
         go_wp2_with fail
         go_ret
         exact HF.out
     ·have b0:(x0==7596835243318849792)=false:=by simpa using e0
      have HF:=Lib.hid (HQ.out false ⟨λh=>(by cases h),λh=>absurd h.1 e0⟩)
      clear HQ e0
      go_wp2_with fail
      go_ret
      exact HF.out
end Go.Proofs.YtphojondgfjmgaaGreatDoor
