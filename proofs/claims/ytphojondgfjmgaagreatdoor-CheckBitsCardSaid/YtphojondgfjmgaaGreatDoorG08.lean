/-
  Layer 7 (fmt2): laid. Layer 7 (fmt2): isLaid. Layer 7 (fmt2), plain: a row's parts. Layer 6 (fmt1): Lay, where it refuses. Layer 5: the laws' sheet. Layer 5: four words loaded as an array; numbers read. Layer 6 (fmt1): Lay, where it lays. Layer 7 (fmt2): Lay. Layer 7 (fmt2): Lay, where it lays.
-/
import Derived.Test.YtphojondgfjmgaaGreatDoorG07
import Derived.Test.YtphojondgfjmgaaGreatDoorG06
import Derived.Test.YtphojondgfjmgaaGreatDoorG01
import Derived.Test.YtphojondgfjmgaaGreatDoorG05
import Derived.Test.YtphojondgfjmgaaGreatDoorG04
import Derived.Test.YtphojondgfjmgaaGreatDoorG03
import Derived.Deep.DeepCutAuto
namespace Go.Proofs.YtphojondgfjmgaaGreatDoor
open Go.RowKit
def rowF (n:Ino) (own:List Nat):List Int:=if n.K=2 then dirRow n own else fileRow n own
def blocksF (n:Ino) (own:List Nat):List (List Int):=if n.K=2 then dirTo n.E own 4 else fileBlocks n
theorem needTo_fst (n:Ino):∀k,needTo n k=(if 6<(runsL n.B).length then 1 else 0)+fstN n.E k
 |0=>by rw[needTo,fstN];rfl
 |k+1=>by rw[needTo,fstN,needTo_fst n k,dN];omega
theorem runs_zero:runsL (List.replicate 13 0)=[]:=by kernel_rfl
theorem need_dir {n:Ino} (h:DirP n):needF n=fstN n.E 4:=by
 rw[needF,needTo_fst,h.2.2.1,runs_zero]
 simp
theorem need_file {n:Ino} (h:FileP n):needF n=if 6<(runsL n.B).length then 1 else 0:=by
 have hE:n.E=[]:=List.eq_nil_of_length_eq_zero h.2.1
 rw[needF,needTo_fst,hE]
 rfl
theorem fileRow_len (n:Ino) (own:List Nat):(fileRow n own).length=8:=by
 have h:=runsTo_len n.B 13
 have h':(runsL n.B).length≤13:=h
 unfold fileRow
 split
 ·simp;omega
 ·simp;omega
theorem rowF_len (n:Ino) (own:List Nat):(rowF n own).length=8:=by
 unfold rowF
 split
 ·rfl
 ·exact fileRow_len n own
theorem entOk_dir {n:Ino} (hR:RightP n):EntOk n.E:=by
 rcases hR.2.2 with ⟨-,hf⟩|⟨-,hd⟩
 ·have :=hf.2.1
  exact⟨by omega,λk hk=>by omega,λk hk=>by omega⟩
 ·have h24:=hd.1
  refine⟨by omega,λk hk=> ?_,λk hk=> ?_⟩
  ·have :=(goodN_len (hd.2.2.2 k hk).1).2
   rw[bl_len] at this
   omega
  ·have :=(hd.2.2.2 k hk).2.1
   omega
set_option maxRecDepth 100000 in
set_option maxHeartbeats 4000000 in
theorem laid_at {w:World} (n:Ino) (v:Value) (g:Nat) (hB:n.B.length=13) (hR:RightP n) (hE:EReads w v g n.E) (vo:Value) (go:Nat) (own:List Nat) (hO:Reads w vo go (i64s own)) (ho:own.length=needF n) (h256:∀c∈own,c<256):
  Calls Tryz.prog 86 #[.agg (inoC n v),vo] w (LaidPost w (rowF n own) (blocksF n own)):=by
 have ht:=tagOk_right hR
 obtain⟨W0,hW0⟩:∃W0,W0=(w.alloc (.cells (inoC n v) 37)).alloc (.cells (u64s (List.replicate 8 0)).toArray 74):=⟨_,rfl⟩
 have hb0:Blk W0 w.heap.size (inoC n v) 37 :=by
  rw[hW0]
  exact(Blk.new w _ _).alloc _
 have hbR:Blk W0 (w.heap.size+1) (u64s (List.replicate 8 0)).toArray 74 :=by
  have :=Blk.new (w.alloc (.cells (inoC n v) 37)) (u64s (List.replicate 8 0)).toArray 74
  have e:(w.alloc (.cells (inoC n v) 37)).heap.size=w.heap.size+1:=by simp
  rw[e,←hW0] at this
  exact this
 have hk0:Keeps [] w W0:=by
  rw[hW0]
  exact((Keeps.refl [] w).alloc _).alloc _
 have HLI:=Lib.hid (load_ino hb0 hB)
 have cK:W0.cell? ⟨w.heap.size,1,none⟩=some (.int .i64 n.K):=by rw[hb0.cell];exact(inoAt v hB).f1
 have hzv:=zero_r8
 have HW0:=Lib.hid hW0
 have HK0:=Lib.hid hk0
 have HBR:=Lib.hid hbR
 have hrl:=rowF_len n own
 have HFIN:Hid (∀w1 vb gb,Keeps [] W0 w1→BReads w1 vb gb (blocksF n own)→w.heap.size≤gb→gb≠w.heap.size+1→∃w2,(storeVar 74 ⟨w.heap.size+1,0,none⟩ (.agg (u64s (rowF n own)).toArray)).run Tryz.prog w1= .ok () w2∧(loadVar 74 ⟨w.heap.size+1,0,none⟩).run Tryz.prog w2= .ok (.agg (u64s (rowF n own)).toArray) w2∧LaidPost w (rowF n own) (blocksF n own) (.returned (.tuple #[.agg (u64s (rowF n own)).toArray,vb])) w2):=λw1 vb gb hk hb hg hne=>by
  obtain⟨w2,hS,hb2,hk2⟩:=store_whole (P:= Tryz.prog) (ty:= 74) (cs:=u64s (rowF n own)) (by rw[u64s_len,hrl];exact size_r8) (hbR.keep hk (by simp)) (by simp[u64s_len,hrl]) (u64s_one _)
  exact⟨w2,hS,load_r8 hb2 hrl,vb,gb,rfl,hb.keep hk2 (by intro _;simp;exact hne),hg,(hk0.trans' hk).trans hk2 (by intro x hx;rw[List.mem_singleton] at hx;omega)⟩
 have hs0:w.heap.size+1<W0.heap.size:=hbR.lt
 by_cases hK:n.K=2
 ·have hd:DirP n:=(hR.2.2.resolve_left (λh=>by have :=h.1;omega)).2
  have hrow:rowF n own=dirRow n own:=if_pos hK
  have hblk:blocksF n own=dirTo n.E own 4:=if_pos hK
  have HD:=Lib.hid (laidDir_at n v g hB ht (hE.keep hk0 (by simp)) (entOk_dir hR) (by have :=hd.1;omega) vo go own (hO.keep hk0 (by simp)) (by rw[ho,need_dir hd]) h256)
  rw[←hrow,←hblk] at HD
  rw[hK] at cK
  rw[hW0] at cK
  clear hb0 hbR hk0 hW0 hE hO ho hR ht hd hrow hblk hK
  generalize rowF n own=RW at *
  generalize blocksF n own=BW at *
  generalize inoC n v=Z at *
  generalize hz8:(u64s (List.replicate 8 0)).toArray=Z8 at *
  go_enter Tryz.func86,Tryz.ntmps86
  go_wp2_with((with_reducible show wpList _ _ _ (⟨_,.load 37 (.tmp 2),_,_,_,_⟩::_) _ _);rw[←HW0.out];refine wpList_load_any rfl 37 (.tmp 2) rfl _ rfl _ HLI.out ?_)
  refine HD.out.mono ?_;rintro e w1 ⟨vb,gb,rfl,hb,hg,hk1⟩
  obtain⟨w2,hS,hL,hM⟩:=HFIN.out w1 vb gb hk1 hb (by have :=HK0.out.size;omega) (by omega)
  have HS:=Lib.hid hS
  have HL:=Lib.hid hL
  have HM:=Lib.hid hM
  clear hS hL hM hb hg hk1
  go_wp2_with((with_reducible show wpList _ _ _ (⟨_,.store 74 (.tmp 4) (.tmp 12),_,_,_,_⟩::_) _ _);refine wpList_store_any rfl 74 (.tmp 4) (.tmp 12) rfl _ rfl _ rfl _ HS.out ?_)
  exact bodyPost_ret (results_cell2 Tryz.results86 rfl HL.out rfl) rfl HM.out
 ·have hf:FileP n:=(hR.2.2.resolve_right (λh=>hK h.1)).2
  have hrow:rowF n own=fileRow n own:=if_neg hK
  have hblk:blocksF n own=fileBlocks n:=if_neg hK
  have HD:Hid (Calls Tryz.prog 103 #[.agg (inoC n v),vo] W0 (LaidPost W0 (fileRow n own) (fileBlocks n))):=by
   have hn:=need_file hf
   by_cases h6:(runsL n.B).length≤6
   ·exact laidFile_small n v hB ht vo own h6
   ·rw[if_pos (by omega)] at hn
    refine laidFile_big n v hB ht vo go own (hO.keep hk0 (by simp)) ?_ (by omega) (by omega)
    exact h256 _ (by rw[List.getD_eq_getElem?_getD,List.getElem?_eq_getElem (by omega:0<own.length)];exact List.getElem_mem _)
  rw[←hrow,←hblk] at HD
  rw[hW0] at cK
  have hK':(n.K==2)=false:=by simpa using hK
  clear hb0 hbR hk0 hW0 hE hO ho hR ht hf hrow hblk
  generalize rowF n own=RW at *
  generalize blocksF n own=BW at *
  generalize n.K=K at *
  generalize inoC n v=Z at *
  generalize hz8:(u64s (List.replicate 8 0)).toArray=Z8 at *
  go_enter Tryz.func86,Tryz.ntmps86
  go_wp2_with((with_reducible show wpList _ _ _ (⟨_,.load 37 (.tmp 2),_,_,_,_⟩::_) _ _);rw[←HW0.out];refine wpList_load_any rfl 37 (.tmp 2) rfl _ rfl _ HLI.out ?_)
  refine HD.out.mono ?_;rintro e w1 ⟨vb,gb,rfl,hb,hg,hk1⟩
  obtain⟨w2,hS,hL,hM⟩:=HFIN.out w1 vb gb hk1 hb (by have :=HK0.out.size;omega) (by omega)
  have HS:=Lib.hid hS
  have HL:=Lib.hid hL
  have HM:=Lib.hid hM
  clear hS hL hM hb hg hk1
  go_wp2_with((with_reducible show wpList _ _ _ (⟨_,.store 74 (.tmp 4) (.tmp 17),_,_,_,_⟩::_) _ _);refine wpList_store_any rfl 74 (.tmp 4) (.tmp 17) rfl _ rfl _ rfl _ HS.out ?_)
  exact bodyPost_ret (results_cell2 Tryz.results86 rfl HL.out rfl) rfl HM.out
def IsLaidP (X R:List Int) (n:Ino) (own:List Nat):Prop:=
 (∀k,k<own.length→(blocksF n own).getD k []=rowL X (1080+8*own.getD k 0))∧rowF n own=R
theorem blocksF_len {n:Ino} {own:List Nat} (hR:RightP n) (ho:own.length=needF n):(blocksF n own).length=own.length:=by
 unfold blocksF
 rcases hR.2.2 with ⟨hK,hf⟩|⟨hK,hd⟩
 ·rw[if_neg (by omega),ho,need_file hf,fileBlocks]
  by_cases h:(runsL n.B).length≤6
  ·rw[if_pos h,if_neg (by omega)];rfl
  ·rw[if_neg h,if_pos (by omega)];rfl
 ·rw[if_pos hK,dirTo_len,ho,need_dir hd]
theorem blocksF_len8 {n:Ino} {own:List Nat} {k:Nat} (hk:k<(blocksF n own).length):((blocksF n own).getD k []).length=8:=by
 unfold blocksF at *
 by_cases hK:n.K=2
 ·rw[if_pos hK] at hk ⊢
  rw[dirTo_len] at hk
  obtain⟨b,j,hb,hj,rfl⟩:=fst_cover n.E hk
  rw[dirTo_get n.E own hj hb]
  exact blkX_len (by rw[wordsE_len,chE_len];omega) _
 ·rw[if_neg hK] at hk ⊢
  unfold fileBlocks at *
  have h13:(runsL n.B).length≤13:=runsTo_len n.B 13
  by_cases h:(runsL n.B).length≤6
  ·rw[if_pos h] at hk;simp at hk
  ·rw[if_neg h] at hk ⊢
   obtain rfl:k=0:=by simpa using hk
   simp
   omega
theorem breads_load {w:World} {v:Value} {g:Nat} {Ls:List (List Int)} (h:BReads w v g Ls) {k:Nat} (hk:k<Ls.length) (h8:(Ls.getD k []).length=8):
  ∃off cap,v= .slice (some ⟨g,off,none⟩) Ls.length cap∧g<w.heap.size∧∀wx,wx.heap[g]? =w.heap[g]? →(loadVar 74 ⟨g,off+k*8,none⟩).run Tryz.prog wx= .ok (.agg (u64s (Ls.getD k [])).toArray) wx:=by
 obtain⟨a,cap,h1,h2,h3,h4⟩:=h
 obtain⟨hg,off,rfl,hc⟩:=h4 (by omega)
 refine⟨off,cap,h1,hg,λwx hx=>run_loadVar_cells g (off+k*8) (u64s (Ls.getD k [])) Tryz.underlying74 rfl (by rw[u64s_len,h8];exact size_r8) λj hj=> ?_⟩
 rw[u64s_len,h8] at hj
 rw[World.cell?_of_block (w:=w) (a:=⟨g,off+k*8+j,none⟩) hx,hc k hk j hj,u64s_get (by rw[h8];exact hj)]
set_option maxRecDepth 100000 in
set_option maxHeartbeats 8000000 in
theorem isLaid_at {w:World} {b gp:Nat} {B:List Int} {ps:List (Int×Int)} (hSh:ShAt w b gp B ps) (n:Ino) (v:Value) (g:Nat) (hB:n.B.length=13) (hR:RightP n) (hE:EReads w v g n.E) (vo:Value) (go:Nat) (own:List Nat) (hO:Reads w vo go (i64s own)) (ho:own.length=needF n) (h256:∀c∈own,c<256) {R:List Int} (hR8:R.length=8):
  Calls Tryz.prog 85 #[.pointer (some ⟨b,0,none⟩),.agg (u64s R).toArray,.agg (inoC n v),vo] w λe w'=>∃t:Bool,e= .returned (.bool t)∧(t=true↔IsLaidP (putAll B ps) R n own)∧Keeps [] w w':=by
 obtain⟨ao,co,rfl,hoc,hom,HOC⟩:=ints_cellR hO
 obtain⟨W0,hW0⟩:∃W0,W0=(w.alloc (.cells (u64s R).toArray 74)).alloc (.cells (inoC n v) 37):=⟨_,rfl⟩
 have hb5:Blk W0 w.heap.size (u64s R).toArray 74 :=by
  rw[hW0]
  exact(Blk.new w _ _).alloc _
 have hb6:Blk W0 (w.heap.size+1) (inoC n v) 37 :=by
  have :=Blk.new (w.alloc (.cells (u64s R).toArray 74)) (inoC n v) 37
  have e:(w.alloc (.cells (u64s R).toArray 74)).heap.size=w.heap.size+1:=by simp
  rw[e] at this
  rw[hW0]
  exact this
 have hk0:Keeps [] w W0:=by
  rw[hW0]
  exact((Keeps.refl _ _).alloc _).alloc _
 have HLI:=Lib.hid (load_ino hb6 hB)
 have HLA:=Lib.hid (laid_at n v g hB hR (hE.keep hk0 (by simp)) (.slice ao own.length co) go own (hO.keep hk0 (by simp)) ho h256)
 have hbl:=blocksF_len hR ho
 have HB8:Hid (∀k,k<own.length→((blocksF n own).getD k []).length=8):=λk hk=>blocksF_len8 (by omega)
 have hrl:=rowF_len n own
 have hzv:=zero_r8
 have hol:own.length≤4001:=by
  rw[ho]
  have :=needTo_le n (by rcases hR.2.2 with ⟨-,hf⟩|⟨-,hd⟩;·have :=hf.2.1;omega
                         ·have :=hd.1;omega) 4
  unfold needF
  have h2:=hR.2.2
  rcases h2 with ⟨-,hf⟩|⟨-,hd⟩
  ·have :=need_file hf
   unfold needF at this
   rw[this]
   split<;>omega
  ·have h3:=need_dir hd
   have h24:=hd.1
   unfold needF at h3
   rw[h3]
   have e0:=sprE_len n.E 0
   have e1:=sprE_len n.E 1
   have e2:=sprE_len n.E 2
   have e3:=sprE_len n.E 3
   simp only[fstN,dN]
   omega
 have HIS:Hid (∀t,(t=true↔IsLaidP (putAll B ps) R n own)↔(t=true↔((∀k,k<own.length→(blocksF n own).getD k []=rowL (putAll B ps) (1080+8*own.getD k 0))∧rowF n own=R))):=λt=>Iff.rfl
 have HSH:=Lib.hid (hSh.keep hk0 (by simp) (by simp))
 have HW0:=Lib.hid hW0
 have HK0:=Lib.hid hk0
 have HB5:=Lib.hid hb5
 have H256:Hid (∀k,k<own.length→own.getD k 0<256):=λk hk=>h256 _ (by rw[List.getD_eq_getElem?_getD,List.getElem?_eq_getElem hk];exact List.getElem_mem hk)
 have HR8:=Lib.hid hR8
 have hs0:W0.heap.size=w.heap.size+1+1:=by rw[hW0];simp
 clear hb5 hb6 hk0 hW0 hE hO hR ho h256 hB hSh
 generalize hRW:rowF n own=RW at *
 generalize hBW:blocksF n own=BW at *
 generalize inoC n v=Z at *
 generalize hzr:(u64s R).toArray=ZR at *
 have HZR:=Lib.hid hzr
 generalize hz8:(u64s (List.replicate 8 0)).toArray=Z8 at *
 have HZ8:=Lib.hid hz8
 clear hRW hBW hzr hz8
 generalize hn:own.length=nn at *
 have HN:=Lib.hid hn
 clear hn
 go_enter Tryz.func85,Tryz.ntmps85
 go_wp2_with((with_reducible show wpList _ _ _ (⟨_,.load 37 (.tmp 6),_,_,_,_⟩::_) _ _);rw[←HW0.out];refine wpList_load_any rfl 37 (.tmp 6) rfl _ rfl _ HLI.out ?_)
 refine HLA.out.mono ?_;rintro e w1 ⟨vb,gb,rfl,hb,hg,hk1⟩
 obtain⟨w2,hS1,hb9,hk2⟩:=store_whole (P:= Tryz.prog) (ty:= 74) (cs:=u64s RW) (by rw[u64s_len,hrl];exact size_r8) (Blk.new w1 Z8 74) (by rw[←HZ8.out];simp[u64s_len,hrl]) (u64s_one _)
 have hz1:=hk1.size
 have HS1:=Lib.hid hS1
 have HK2:Hid (Keeps [] W0 w2):=(hk1.alloc (.cells Z8 74)).trans hk2 (by intro x hx;rw[List.mem_singleton] at hx;omega)
 have HB9:=Lib.hid hb9
 have HBW:Hid (BReads w2 vb gb BW):=by
  obtain⟨a,cap,q1,q2,q3,q4⟩:=hb
  refine BReads.keep (l:=[w1.heap.size]) ⟨a,cap,q1,q2,q3,q4⟩ (((Keeps.refl [w1.heap.size] w1).alloc (.cells Z8 74)).trans' hk2) λh0 hm=> ?_
  have :=(q4 h0).1
  rw[List.mem_singleton] at hm
  omega
 clear hS1 hb9 hk2 hk1 hb hg hz1
 generalize hg9:w1.heap.size=g9 at *
 go_wp2_with((with_reducible show wpList _ _ _ (⟨_,.store 74 (.tmp 9) (.tmp 17),_,_,_,_⟩::_) _ _);refine wpList_store_any rfl 74 (.tmp 9) (.tmp 17) rfl _ rfl _ rfl _ HS1.out ?_)
 go_loopg [21] nn (λgh s21 wx=>∃k:Nat,k+gh=nn∧s21= .int .i64 (k:Int)∧Hid ((∀j,j<k→BW.getD j []=rowL (putAll B ps) (1080+8*own.getD j 0))∧Keeps [] w2 wx))
 case atStart=>exact⟨0,by omega,rfl,λj hj=>by omega,Keeps.refl _ _⟩
 case round=>
  obtain⟨k,hk,rfl,HP⟩:=hrel
  obtain⟨hall,hkp⟩:=HP.out
  cases gk with
  |zero=>
   obtain rfl:k=nn:=by omega
   have HL9:=Lib.hid (load_r8 (HB9.out.keep hkp (by simp)) hrl)
   have HL5:Hid ((loadVar 74 ⟨w.heap.size,0,none⟩).run Tryz.prog wr= .ok (.agg ZR) wr):=by
    have :=(HB5.out.keep HK2.out (by simp)).keep hkp (by simp)
    rw[←HZR.out] at this ⊢
    exact load_r8 this HR8.out
   have HEQ:=λwx=>eq_r8 (a:=RW) (b:=R) hrl HR8.out wx
   have hgr8:=guard_r8
   rw[HZR.out] at HEQ
   obtain⟨t,ht⟩:∃t,decide (RW=R)=t:=⟨_,rfl⟩
   rw[ht] at HEQ
   have HF:Hid (∃t':Bool,Ending.returned (.bool t)= .returned (.bool t')∧(t'=true↔IsLaidP (putAll B ps) R n own)∧Keeps [] w wr):=by
    refine⟨t,rfl,(HIS.out t).2 ?_,HK0.out.trans' (HK2.out.trans' hkp)⟩
    rw[←ht,decide_eq_true_iff]
    exact⟨λh=>⟨hall,h⟩,λh=>h.2⟩
   have HEQ':=HEQ
   clear hall hkp HP ht HEQ
   generalize (u64s RW).toArray=ZW at *
   go_wp2_with(first|((with_reducible show wpList _ _ _ (⟨_,.load 74 (.tmp 9),_,_,_,_⟩::_) _ _);refine wpList_load_any rfl 74 (.tmp 9) rfl _ rfl _ HL9.out ?_)|((with_reducible show wpList _ _ _ (⟨_,.load 74 (.tmp 5),_,_,_,_⟩::_) _ _);refine wpList_load_any rfl 74 (.tmp 5) rfl _ rfl _ HL5.out ?_))
   go_ret
   exact HF.out
  |succ gg=>
   have hkn:k<nn:=by omega
   have hlt:(k:Int)<(nn:Int):=by omega
   have hk0:(0:Int)≤(k:Int):=by omega
   obtain⟨hgo,offo,rfl,hco⟩:=HOC.out k hkn
   have c0:=(World.cell?_of_block (w:=w) (w':=wr) (a:=⟨go,offo+k,none⟩) ((HK0.out.trans' (HK2.out.trans' hkp)).block go hgo (by simp))).trans hco
   have hx:=H256.out k hkn
   obtain⟨off,cap,rfl,hgb,hld⟩:=breads_load HBW.out (k:=k) (by omega) (HB8.out k hkn)
   rw[hbl] at *
   have HLD:Hid (∀wx,Keeps [] wr wx→(loadVar 74 ⟨gb,off+k*8,none⟩).run Tryz.prog wx= .ok (.agg (u64s (BW.getD k [])).toArray) wx):=λwx hkx=>hld wx ((hkp.trans' hkx).block gb hgb (by simp))
   obtain⟨x,hxe⟩:∃x,x=own.getD k 0:=⟨_,rfl⟩
   rw[←hxe] at hx c0
   have HBL:=Lib.hid (λwx=>txBlock_at (x:Int) wx)
   have HBN:Hid (blockN (x:Int)=((1080+8*x:Nat):Int)):=by
    show _=_
    rw[blockN,if_neg (by omega)]
    omega
   rw[HBN.out] at HBL
   have HROW:Hid (∀wx,Keeps [] wr wx→Calls Tryz.prog 27 #[.pointer (some ⟨b,0,none⟩),.int .i64 ((1080+8*x:Nat):Int)] wx λe w'=>e= .returned (.agg (u64s (rowL (putAll B ps) (1080+8*x))).toArray)∧Keeps [] wx w'):=λwx hkx=>
    rowAt_at (((HSH.out.keep HK2.out (by simp) (by simp)).keep hkp (by simp) (by simp)).keep hkx (by simp) (by simp)) (1080+8*x) (by omega)
   have HEQ:=λwx=>eq_r8 (a:=BW.getD k []) (b:=rowL (putAll B ps) (1080+8*x)) (HB8.out k hkn) (rowL_len _ _) wx
   have hgr8:=guard_r8
   obtain⟨t,ht⟩:∃t,decide (BW.getD k []=rowL (putAll B ps) (1080+8*x))=t:=⟨_,rfl⟩
   rw[ht] at HEQ
   have HALL:=Lib.hid hall
   have HKP:=Lib.hid hkp
   have HT:Hid (t=true↔BW.getD k []=rowL (putAll B ps) (1080+8*own.getD k 0)):=by
    show _↔_
    rw[←ht,decide_eq_true_iff,hxe]
   have heq8:=HEQ
   clear hall hkp HP hco hgo hgb hld HBW ht hx hxe HBN HEQ
   generalize hpx:((1080+8*x:Nat):Int)=px at *
   generalize hxi:(x:Int)=xi at *
   generalize (u64s (BW.getD k [])).toArray=ZQ at *
   generalize (u64s (rowL (putAll B ps) (1080+8*x))).toArray=ZP at *
   clear hpx hxi
   cases t
   all_goals
    go_wp2_with fail
    refine wp_region_each (S:=λwx=>Keeps [] wr wx) (by kernel_rfl) (by kernel_rfl) (λd _ _ _ _ h=>by cases d<;>exact h) ((Keeps.refl _ _).drew) (by kernel_rfl) ?_
    repeat (first
     |(refine EachList.cons (.agg ZQ) (EachIf.load rfl 74 (.tmp 28) rfl _ rfl λwx hx=>HLD.out wx hx) ?_;simp only[Act.put,List.setIfInBounds_toArray,List.set_cons_zero,List.set_cons_succ])
     |(refine EachList.cons (.int .i64 px) (EachIf.call rfl 80 #[.int .i64 xi] ?he ?h) ?_;(case he=>(intro wz;go_simp));(case h=>exact λwx hx=>(HBL.out wx).mono λe w' he=>⟨he.1,he.2▸hx⟩);simp only[Act.put,List.setIfInBounds_toArray,List.set_cons_zero,List.set_cons_succ])
     |(refine EachList.cons (.agg ZP) (EachIf.call rfl 27 #[.pointer (some ⟨b,0,none⟩),.int .i64 px] ?he ?h) ?_;(case he=>(intro wz;go_simp));(case h=>exact λwx hx=>(HROW.out wx hx).mono λe w' he=>⟨he.1,hx.trans' he.2⟩);simp only[Act.put,List.setIfInBounds_toArray,List.set_cons_zero,List.set_cons_succ])
     |(refine EachList.cons ?_ (EachIf.val rfl ?h) ?_;(case h=>(intro wx hx;clear hx;go_simp;rfl));simp only[Act.put,List.setIfInBounds_toArray,List.set_cons_zero,List.set_cons_succ]))
    refine EachList.done λwz hx=> ?_
    have HKZ:=Lib.hid hx
    clear hx
   ·have HF:Hid (∃t':Bool,Ending.returned (.bool false)= .returned (.bool t')∧(t'=true↔IsLaidP (putAll B ps) R n own)∧Keeps [] w wz):=by
     refine⟨false,rfl,(HIS.out false).2 ⟨λh=>(by cases h),λh=> ?_⟩,HK0.out.trans' (HK2.out.trans' (HKP.out.trans' HKZ.out))⟩
     have :=HT.out.2 (h.1 k hkn)
     cases this
    go_wp2_with fail
    go_ret
    exact HF.out
   ·have HN:Hid ((∀j,j<k+1→BW.getD j []=rowL (putAll B ps) (1080+8*own.getD j 0))∧Keeps [] w2 wz):=by
     refine⟨λj hj=> ?_,HKP.out.trans' HKZ.out⟩
     by_cases e:j=k
     ·subst e;exact HT.out.1 (by trivial)
     ·exact HALL.out j (by omega)
    clear HALL HT HIS
    go_wp2_with fail
    go_roundg gg
    case measure=>omega
    case rel=>exact⟨k+1,by omega,by go_num,HN.out⟩
theorem rowF_head (n:Ino) (own:List Nat):(rowF n own).getD 0 0=tagW n∧(rowF n own).getD 1 0=n.S:=by
 unfold rowF
 split
 ·exact⟨rfl,rfl⟩
 ·unfold fileRow
  split<;>exact⟨rfl,rfl⟩
theorem blk_word (l:List (ByteArray×Int)) (j y:Nat) (hy:y<7):(wordsE (chE l j)).getD y 0=if 3*j+y/2<l.length∧y<6 then (if y%2=0 then ((wordV (bl (enm l (3*j+y/2))):Nat):Int) else eno l (3*j+y/2)) else 0:=by
 by_cases h:3*j+y/2<l.length∧y<6
 ·rw[if_pos h]
  have hc:y/2<(chE l j).length:=by rw[chE_len];omega
  obtain⟨-,e1,e2⟩:=chE_get l j (y/2) hc
  have hw:=wordsE_get (chE l j) (y/2) hc
  rcases (show y%2=0∨y%2=1 by omega) with hm|hm
  ·rw[if_pos hm,←e1,←hw.1,show y/2*2=y by omega]
  ·rw[if_neg (by omega),←e2,←hw.2,show y/2*2+1=y by omega]
 ·rw[if_neg h,List.getD_eq_getElem?_getD,List.getElem?_eq_none (by rw[wordsE_len,chE_len];omega)]
  rfl
theorem rowF_dir {n:Ino} {own:List Nat} (hK:n.K=2) {b:Nat} (hb:b<4):(rowF n own).getD (2+b) 0=hdD n.E own b∧(rowF n own).getD 6 0=0∧(rowF n own).getD 7 0=0:=by
 unfold rowF
 rw[if_pos hK]
 refine⟨?_,rfl,rfl⟩
 rcases (show b=0∨b=1∨b=2∨b=3 by omega) with rfl|rfl|rfl|rfl<;>rfl
def LayP (i:Int) (n:Ino):Prop:=(0≤i∧i<32)∧n.F=1∧RightP n
instance (i:Int) (n:Ino):Decidable (LayP i n):=by unfold LayP;infer_instance
set_option maxRecDepth 100000 in
set_option maxHeartbeats 4000000 in
theorem lay_arg {w:World} {p:Value} (i:Int) (n:Ino) (v:Value) (g:Nat) (hB:n.B.length=13) (hE:EReads w v g n.E) (hN:∀k,k<n.E.length→(enm n.E k).size≤9223372036854775807) (hno:¬LayP i n):
  Calls Tryz.prog 60 #[p,.int .i64 i,.agg (inoC n v)] w λe w'=>e= .returned (.int .i64 1)∧Keeps [] w w':=by
 have HRT:Hid (∀wx,Keeps [] w wx→Calls Tryz.prog 39 #[.agg (inoC n v)] wx λe w'=>e= .returned (.bool (decide (RightP n)))∧Keeps [] wx w'):=λwx hk=>right_at n v g hB wx (hE.keep hk (by simp)) hN
 have hat:=inoAt v hB
 have hb0:=Blk.new w (inoC n v) 37
 have HL:=Lib.hid (load_ino hb0 hB)
 have HI:=Lib.hid (txInode_at i)
 generalize inoC n v=Z at *
 have c0:(w.alloc (.cells Z 37)).cell? ⟨w.heap.size,0,none⟩=some (.int .i64 n.F):=by rw[hb0.cell];exact hat.f0
 have HK:Hid (Keeps [] w (w.alloc (.cells Z 37))):=(Keeps.refl [] w).alloc _
 have HNO:=Lib.hid hno
 clear hb0 hat hE hN hB hno
 by_cases hi:i<0∨32≤i
 ·have hin:inodeN i= -1:=by unfold inodeN;rw[if_pos hi]
  rw[hin] at HI
  clear hin
  go_enter Tryz.func60,Tryz.ntmps60
  go_wp2_with fail
  refine(HI.out _).mono ?_;rintro e w' ⟨rfl,rfl⟩
  go_wp2_with fail
  go_ret
  exact⟨rfl,HK.out⟩
 ·have hin:inodeN i=((824+8*i.toNat:Nat):Int):=by unfold inodeN;rw[if_neg hi];omega
  rw[hin] at HI
  have hp0:(0:Int)≤((824+8*i.toNat:Nat):Int):=by omega
  generalize ((824+8*i.toNat:Nat):Int)=q at *
  clear hin
  by_cases hF:n.F=1
  ·have HQ:Hid (decide (RightP n)=false):=decide_eq_false λh=>HNO.out ⟨by omega,hF,h⟩
   rw[hF] at c0
   rw[HQ.out] at HRT
   go_enter Tryz.func60,Tryz.ntmps60
   go_wp2_with fail
   refine(HI.out _).mono ?_;rintro e w' ⟨rfl,rfl⟩
   go_wp2_with((with_reducible show wpList _ _ _ (⟨_,.load 37 (.tmp 5),_,_,_,_⟩::_) _ _);refine wpList_load_want (by simp[Region.wanted,yielded,hp0]) 37 (.tmp 5) rfl _ rfl _ HL.out ?_)
   refine(HRT.out _ HK.out).mono ?_;rintro e w1 ⟨rfl,hk1⟩
   have HK1:=Lib.hid (HK.out.trans' hk1)
   clear hk1
   go_wp2_with fail
   go_ret
   exact⟨rfl,HK1.out⟩
  ·have hF':(n.F != 1)=true:=bne_iff_ne.2 hF
   generalize n.F=f at *
   go_enter Tryz.func60,Tryz.ntmps60
   go_wp2_with fail
   refine(HI.out _).mono ?_;rintro e w' ⟨rfl,rfl⟩
   go_wp2_with fail
   go_ret
   exact⟨rfl,HK.out⟩
set_option maxRecDepth 100000 in
set_option maxHeartbeats 4000000 in
theorem lay_space {w:World} {b gp:Nat} {B:List Int} {ps:List (Int×Int)} (h:ShAt w b gp B ps) (h64:In64 (putAll B ps)) (i:Int) (n:Ino) (v:Value) (g:Nat) (hB:n.B.length=13) (hE:EReads w v g n.E) (hN:∀k,k<n.E.length→(enm n.E k).size≤9223372036854775807)
  (hok:LayP i n) (hfew:(freeL (putAll B ps)).length<needN n):
  Calls Tryz.prog 60 #[.pointer (some ⟨b,0,none⟩),.int .i64 i,.agg (inoC n v)] w λe w'=>e= .returned (.int .i64 7)∧Keeps [] w w':=by
 have HRT:Hid (∀wx,Keeps [] w wx→Calls Tryz.prog 39 #[.agg (inoC n v)] wx λe w'=>e= .returned (.bool true)∧Keeps [] wx w'):=λwx hk=>by
  have :=right_at n v g hB wx (hE.keep hk (by simp)) hN
  rwa[decide_eq_true hok.2.2] at this
 have hl24:=(blocks_le hok.2.2).1
 have HNEED:Hid (∀wx,Calls Tryz.prog 78 #[.agg (inoC n v)] wx λe w'=>e= .returned (.int .i64 ((needN n:Nat):Int))∧Keeps [] wx w'):=λwx=>by
  obtain⟨a,cap,rfl,-⟩:=hE
  exact need_at n a cap hB (by omega) wx
 have HTK:Hid (∀wx,Keeps [] w wx→Calls Tryz.prog 77 #[.pointer (some ⟨b,0,none⟩),.int .i64 ((needN n:Nat):Int)] wx λe w'=>e= .returned (.tuple #[.slice none 0 0,.int .i64 7])∧wx=w'):=λwx hk=>
  paTake_less (h.keep hk (by simp) (by simp)) h64 (needN n) hfew
 have hat:=inoAt v hB
 have hb0:=Blk.new w (inoC n v) 37
 have HL:Hid (∀wx,Keeps [] (w.alloc (.cells (inoC n v) 37)) wx→(loadVar 37 ⟨w.heap.size,0,none⟩).run Tryz.prog wx= .ok (.agg (inoC n v)) wx):=λwx hk=>load_ino (hb0.keep hk (by simp)) hB
 have HI:=Lib.hid (txInode_at i)
 generalize inoC n v=Z at *
 have c0:(w.alloc (.cells Z 37)).cell? ⟨w.heap.size,0,none⟩=some (.int .i64 1):=by rw[hb0.cell,←hok.2.1];exact hat.f0
 have HK:Hid (Keeps [] w (w.alloc (.cells Z 37))):=(Keeps.refl [] w).alloc _
 have hin:inodeN i=((824+8*i.toNat:Nat):Int):=by unfold inodeN;rw[if_neg (by have :=hok.1;omega)];have :=hok.1;omega
 rw[hin] at HI
 have hp0:(0:Int)≤((824+8*i.toNat:Nat):Int):=by omega
 generalize ((824+8*i.toNat:Nat):Int)=q at *
 clear hb0 hat hE hN hB hin hok h h64 hfew
 have HL0:=Lib.hid (HL.out _ (Keeps.refl [] _))
 generalize ((needN n:Nat):Int)=nn at *
 go_enter Tryz.func60,Tryz.ntmps60
 go_wp2_with fail
 refine(HI.out _).mono ?_;rintro e w' ⟨rfl,rfl⟩
 go_wp2_with((with_reducible show wpList _ _ _ (⟨_,.load 37 (.tmp 5),_,_,_,_⟩::_) _ _);refine wpList_load_want (by simp[Region.wanted,yielded,hp0]) 37 (.tmp 5) rfl _ rfl _ HL0.out ?_)
 refine(HRT.out _ HK.out).mono ?_;rintro e w1 ⟨rfl,hk1⟩
 have HK1:=Lib.hid (HK.out.trans' hk1)
 have HL1:=Lib.hid (HL.out _ hk1)
 clear hk1
 go_wp2_with((with_reducible show wpList _ _ _ (⟨_,.load 37 (.tmp 5),_,_,_,_⟩::_) _ _);refine wpList_load_any rfl 37 (.tmp 5) rfl _ rfl _ HL1.out ?_)
 refine(HNEED.out _).mono ?_;rintro e w2 ⟨rfl,hk2⟩
 have HK2:=Lib.hid (HK1.out.trans' hk2)
 clear hk2
 go_wp2_with fail
 refine(HTK.out _ HK2.out).mono ?_;rintro e w3 ⟨rfl,rfl⟩
 go_wp2_with fail
 go_ret
 exact⟨rfl,HK2.out⟩
def w4 (ws:List Nat):Array Value:= #[.int .u64 ((ws.getD 0 0:Nat):Int),.int .u64 ((ws.getD 1 0:Nat):Int),.int .u64 ((ws.getD 2 0:Nat):Int),.int .u64 ((ws.getD 3 0:Nat):Int)]
theorem w4_get (ws:List Nat) (k:Nat) (hk:k<4):(w4 ws)[k]? =some (.int .u64 ((ws.getD k 0:Nat):Int)):=by
 rcases (show k=0∨k=1∨k=2∨k=3 by omega) with rfl|rfl|rfl|rfl<;>rfl
theorem ints_cell {w:World} {v:Value} {g:Nat} {l:List Nat} (h:Reads w v g (i64s l)):∃a cap,v= .slice a l.length cap∧l.length≤cap∧cap≤maxLen∧
  Hid (∀k,k<l.length→g<w.heap.size∧∃off,a=some ⟨g,off,none⟩∧w.cell? ⟨g,off+k,none⟩=some (.int .i64 ((l.getD k 0:Nat):Int))):=by
 obtain⟨a,cap,h0,h1,h2,h3⟩:=h
 rw[i64s_len] at *
 refine⟨a,cap,h0,h1,h2,λk hk=> ?_⟩
 obtain⟨hg,off,ho,hc⟩:=h3 (by intro e;have :=congrArg List.length e;rw[i64s_len,List.length_nil] at this;omega)
 exact⟨hg,off,ho,(hc k hk).trans (i64s_get hk)⟩
theorem load_sl {P:Program} {w:World} {ty e:TypeId} {g off T:Nat} {Z:Array Value} {v:Value} (hu:P.underlying ty=some (.slice e)) (hb:Blk w g Z T) (hz:Z[off]? =some v):(loadVar ty ⟨g,off,none⟩).run P w= .ok v w:=by
 have hagg:(isAgg ty).run P w= .ok false w:=by
  unfold isAgg
  rw[Sem.run_bind,run_underlying hu w]
  rfl
 have hc:w.cell? ⟨g,off,none⟩=some v:=by rw[hb.cell,hz]
 simp[loadVar,Sem.run_bind,hagg,hc]
set_option maxRecDepth 100000 in
set_option maxHeartbeats 8000000 in
theorem lay_ok {w:World} {b gp:Nat} {B:List Int} {ps:List (Int×Int)} (h:ShAt w b gp B ps) (h64:In64 (putAll B ps)) (hT:TabAt w) (hgp:gp<w.heap.size) (hps:ps.length≤800000) (i:Int) (n:Ino) (v:Value) (g:Nat) (hB:n.B.length=13) (hE:EReads w v g n.E)
  (hN:∀k,k<n.E.length→(enm n.E k).size≤9223372036854775807) (hok:LayP i n) (hgg:n.E.length≠0→g≠b∧g≠gp) (hn:needN n≤(freeL (putAll B ps)).length):
  Calls Tryz.prog 60 #[.pointer (some ⟨b,0,none⟩),.int .i64 i,.agg (inoC n v)] w λe w'=>e= .returned (.int .i64 0)∧Onto w b gp B (ps++layPs (putAll B ps) i.toNat n ((freeL (putAll B ps)).take (needN n))) w':=by
 have HRT:Hid (∀wx,Keeps [] w wx→Calls Tryz.prog 39 #[.agg (inoC n v)] wx λe w'=>e= .returned (.bool true)∧Keeps [] wx w'):=λwx hk=>by
  have :=right_at n v g hB wx (hE.keep hk (by simp)) hN
  rwa[decide_eq_true hok.2.2] at this
 have hbl:=blocks_le hok.2.2
 have HNEED:Hid (∀wx,Calls Tryz.prog 78 #[.agg (inoC n v)] wx λe w'=>e= .returned (.int .i64 ((needN n:Nat):Int))∧Keeps [] wx w'):=λwx=>by
  obtain⟨a,cap,rfl,-⟩:=hE
  exact need_at n a cap hB (by omega) wx
 have HEB:Hid (∀wx,Calls Tryz.prog 75 #[.agg (inoC n v)] wx λe w'=>e= .returned (.int .i64 ((blocksN n.E.length:Nat):Int))∧Keeps [] wx w'):=λwx=>by
  obtain⟨a,cap,rfl,-⟩:=hE
  exact entryBlocks_at n a cap hB (by omega) wx
 have hfl:=freeL_len (putAll B ps)
 have HTK:Hid (∀wx,Keeps [] w wx→Calls Tryz.prog 77 #[.pointer (some ⟨b,0,none⟩),.int .i64 ((needN n:Nat):Int)] wx (TakePost wx b gp B ps ((freeL (putAll B ps)).take (needN n)))):=λwx hk=>
  paTake_ok (h.keep hk (by simp) (by simp)) h64 (hT.keep hk) (Nat.lt_of_lt_of_le hgp hk.size) (by omega) (needN n) hn
 have HIN:Hid (∀c∈(freeL (putAll B ps)).take (needN n),c≠0∧c<256):=λc hc=>by
  have :=freeTo_mem.1 (List.mem_of_mem_take hc)
  exact⟨this.2.1,this.1⟩
 have hlen:((freeL (putAll B ps)).take (needN n)).length=needN n:=by rw[List.length_take,Nat.min_eq_left hn]
 have hcn:blocksN n.E.length≤needN n∧needN n≤blocksN n.E.length+1:=by unfold needN;split<;>omega
 have hat:=inoAt v hB
 have hb0:=Blk.new w (inoC n v) 37
 have hbl0:=h.raw.lt
 have HI:=Lib.hid (txInode_at i)
 have HTO:=Lib.hid (tagOk_right hok.2.2)
 have HEO:=Lib.hid (entOk_right hok.2.2 hN)
 have HR:=Lib.hid hok.2.2
 have HB:=Lib.hid hB
 have HIR:Hid (∀(l:List Int) (list:Int),l.length=13→Nats l→0≤list∧list<9223372036854775808→∀wx,Calls Tryz.prog 76 #[.agg (inoC n v),.agg (zs l).toArray,.int .i64 list] wx λe w'=>e= .returned (.agg (u64s (inoRow n l list)).toArray)∧Keeps [] wx w'):=λl list hl hnl h0 wx=>inodeRow_at n v hB HTO.out l hl hnl list h0 wx
 have HLB:Hid (∀wx,Blk wx w.heap.size (inoC n v) 37→(loadVar 37 ⟨w.heap.size,0,none⟩).run Tryz.prog wx= .ok (.agg (inoC n v)) wx∧(loadVar 34 ⟨w.heap.size,4,none⟩).run Tryz.prog wx= .ok (.agg (zs n.B).toArray) wx):=λwx hb=>⟨load_ino hb hB,load_B hb hB⟩
 have HLAY:Hid (layPs (putAll B ps) i.toNat n ((freeL (putAll B ps)).take (needN n))=takePs (putAll B ps) ((freeL (putAll B ps)).take (needN n))++rowsPs i.toNat n ((freeL (putAll B ps)).take (needN n))):=rfl
 have HTL:Hid ((takePs (putAll B ps) ((freeL (putAll B ps)).take (needN n))).length=9*needN n):=by
  show _=_
  rw[takePs_len _ _ HIN.out,hlen]
 generalize hol:(freeL (putAll B ps)).take (needN n)=own at *
 generalize layPs (putAll B ps) i.toNat n own=lps at *
 generalize htps:takePs (putAll B ps) own=tps at *
 have HTPS:=Lib.hid htps
 clear htps
 have hgI:inodeN i=((824+8*i.toNat:Nat):Int):=by unfold inodeN;rw[if_neg (by have :=hok.1;omega)];have :=hok.1;omega
 rw[hgI] at HI
 have hi32:i.toNat<32:=by have :=hok.1;omega
 have c0:(w.alloc (.cells (inoC n v) 37)).cell? ⟨w.heap.size,0,none⟩=some (.int .i64 1):=by rw[hb0.cell,←hok.2.1];exact hat.f0
 generalize hZ:inoC n v=Z at *
 have hZ17:Z[17]? =some v:=hat.f5
 have HK:Hid (Keeps [] w (w.alloc (.cells Z 37))):=(Keeps.refl [] w).alloc _
 have HB0:=Lib.hid hb0
 have HE:=Lib.hid hE
 have HS:=Lib.hid h
 have HPS:=Lib.hid hps
 have HL0:=Lib.hid (HLB.out _ hb0).1
 generalize hq:824+8*i.toNat=q at *
 have HQ:Hid (q=824+8*i.toNat):=hq.symm
 have hq3:q+8≤3128:=by omega
 clear hq hi32
 have hp0:(0:Int)≤(q:Int):=by omega
 clear hb0 hat hE hN hB hgI h h64 hT hfl hn hol hps
 go_enter Tryz.func60,Tryz.ntmps60
 go_wp2_with fail
 refine(HI.out _).mono ?_;rintro e w' ⟨rfl,rfl⟩
 go_wp2_with((with_reducible show wpList _ _ _ (⟨_,.load 37 (.tmp 5),_,_,_,_⟩::_) _ _);refine wpList_load_want (by simp[Region.wanted,yielded,hp0]) 37 (.tmp 5) rfl _ rfl _ HL0.out ?_)
 refine(HRT.out _ HK.out).mono ?_;rintro e w1 ⟨rfl,hk1⟩
 have HK1:=Lib.hid (HK.out.trans' hk1)
 have HB1:=Lib.hid (HB0.out.keep hk1 (by simp))
 have HL1:=Lib.hid (HLB.out _ HB1.out).1
 clear hk1 HL0 HB0 HK
 go_wp2_with((with_reducible show wpList _ _ _ (⟨_,.load 37 (.tmp 5),_,_,_,_⟩::_) _ _);refine wpList_load_any rfl 37 (.tmp 5) rfl _ rfl _ HL1.out ?_)
 refine(HNEED.out _).mono ?_;rintro e w2 ⟨rfl,hk2⟩
 have HK2:=Lib.hid (HK1.out.trans' hk2)
 have HB2:=Lib.hid (HB1.out.keep hk2 (by simp))
 clear hk2 HK1 HB1 HL1 HNEED HRT
 go_wp2_with fail
 refine(HTK.out _ HK2.out).mono ?_;rintro e w3 ⟨vo,go,rfl,hro,hgo1,hgo2,gp1,hgp1,hne1,hs3,hk3⟩
 rw[HTPS.out] at hs3
 have hz2:=HK2.out.size
 have hb2:=HB2.out.lt
 have HB3:=Lib.hid (HB2.out.keep hk3 (by simp only[List.mem_cons,List.not_mem_nil,or_false];omega))
 have HE3:Hid (EReads w3 v g n.E):=(HE.out.keep HK2.out (by simp)).keep hk3 (λhne=>by have :=hgg hne;simp only[List.mem_cons,List.not_mem_nil,or_false];omega)
 have HK3:Hid (Keeps [b,gp] w w3):=(HK2.out.mono (by simp)).trans' hk3
 have HS3:=Lib.hid hs3
 have HRO:=Lib.hid hro
 have HL3:=Lib.hid (HLB.out _ HB3.out).1
 have hz3:=hk3.size
 obtain⟨a,oc,rfl,ho1,ho2,-⟩:=hro
 have HOL:Hid ((i64s own).length=needN n):=by show _=_;rw[i64s_len,hlen]
 rw[HOL.out] at ho1 HRO ⊢
 have HGG:Hid (n.E.length≠0→g∉[b,gp1]):=λh0 hm=>by
  have h1:=hgg h0
  have h2:g<w.heap.size:=by
   rcases Nat.lt_or_ge g w.heap.size with h|h
   ·exact h
   ·exact absurd (List.mem_singleton.2 rfl) (HE.out.apart (l:=[g]) (λx hx=>by rw[List.mem_singleton] at hx;omega) h0)
  simp only[List.mem_cons,List.not_mem_nil,or_false] at hm
  rcases hm with rfl|rfl
  ·exact h1.1 rfl
  ·omega
 clear HTK HK2 HB2 HE HS hk3 hs3
 have hzn:=zero_n13
 go_wp2_with((with_reducible show wpList _ _ _ (⟨_,.load 37 (.tmp 5),_,_,_,_⟩::_) _ _);refine wpList_load_any rfl 37 (.tmp 5) rfl _ rfl _ HL3.out ?_)
 refine(HEB.out _).mono ?_;rintro e w4 ⟨rfl,hk4⟩
 have HB4:=Lib.hid (HB3.out.keep hk4 (by simp))
 have HE4:=Lib.hid (HE3.out.keep hk4 (by simp))
 have HK4:=Lib.hid (HK3.out.trans' (hk4.mono (by simp)))
 have HS4:=Lib.hid (HS3.out.keep hk4 (by simp) (by simp))
 have HRO4:=Lib.hid (HRO.out.keep hk4 (by simp))
 have hz4:=hk4.size
 have HLB4:=Lib.hid (HLB.out _ HB4.out).2
 have HN0:=Blk.new w4 (zs (List.replicate 13 0)).toArray 34
 obtain⟨w5,hst5,hb5,hk5⟩:=store_whole (P:= Tryz.prog) (ty:= 34) (cs:=zs n.B) (by rw[zs_len,HB.out];exact size_n13) HN0 (by simp[zs_len,HB.out]) (zs_one _)
 have HST5:=Lib.hid hst5
 have hk45:Keeps [] w4 w5.drew:=(((Keeps.refl [] w4).alloc _).trans hk5 (by intro x hx;rw[List.mem_singleton] at hx;omega)).drew
 have HRO5:=HRO4.out.keep hk45 (by simp)
 rw[←hlen] at HRO5
 obtain⟨vc,w6,hcp,hb6,hk6⟩:=copy_ints (n:=13) (cap:=13) (m:=blocksN n.E.length) (mc:=oc) hb5.drew HRO5 (by omega) (by rw[HB.out];omega) (by omega)
 have HCP:=Lib.hid hcp
 have hk46:Keeps [] w4 w6:=hk45.trans hk6 (by intro x hx;rw[List.mem_singleton] at hx;omega)
 have HB6:=Lib.hid (HB4.out.keep hk46 (by simp))
 have HE6:=Lib.hid (HE4.out.keep hk46 (by simp))
 have HK6:=Lib.hid (HK4.out.trans' (hk46.mono (by simp)))
 have HS6:=Lib.hid (HS4.out.keep hk46 (by simp) (by simp))
 have HRO6:=Lib.hid (HRO4.out.keep hk46 (by simp))
 have hb6':Blk w6 w4.heap.size (zs (laidL n own)).toArray 34 :=hb6
 have HA6:=Lib.hid hb6'
 have hz6:=hk46.size
 have hlt6:=hb6'.lt
 have hs13:=slice_l13 w4.heap.size
 have hsu:=slice_upto a (needN n) oc (blocksN n.E.length) (by omega)
 have HLL:=Lib.hid (laidL_len (own:=own) HB.out (by omega) (by omega))
 have H256:=Lib.hid (laidL_256 HR.out HB.out (by omega) HIN.out)
 have HLI:Hid (blocksN n.E.length<own.length→listI n own=own.getD (blocksN n.E.length) 0∧listPs n own=rowPs (1080+8*listI n own) ((laidL n own).drop 5) 8):=λhc=>by
  refine⟨by unfold listI;rw[if_pos hc],by unfold listPs;rw[if_pos hc]⟩
 have HLO:Hid (¬blocksN n.E.length<own.length→listI n own=0∧listPs n own=[]):=λhc=>by
  refine⟨by unfold listI;rw[if_neg hc],by unfold listPs;rw[if_neg hc]⟩
 have HLY:Hid (lps=tps++(entPs n.E (laidL n own) (blocksN n.E.length)++(listPs n own++rowPs q (inoRow n (laidL n own) ((listI n own:Nat):Int)) 8))):=by
  have h1:=HLAY.out
  unfold rowsPs at h1
  rw[←HQ.out] at h1
  exact h1
 have HEL:Hid (∀k,k<blocksN n.E.length→4*k<n.E.length):=λk hk=>by unfold blocksN at hk;omega
 have HTL6:=HTL.out
 have hpsl:=HPS.out
 clear hst5 hb5 hk5 hk45 hcp hb6 hk6 hk46 hb6' HN0 HLAY HEB HL3 HK3 HS3 HE3 HB3 HRO HK4 HS4 HE4 HB4 HRO4 HRO5 hk4
 generalize hcnt:blocksN n.E.length=cnt at *
 generalize (zs n.B).toArray=ZB at *
 generalize (zs (List.replicate 13 0)).toArray=ZN at *
 go_wp2_with(first|((with_reducible show wpList _ _ _ (⟨_,.load 34 (.tmp 38),_,_,_,_⟩::_) _ _);refine wpList_load_any rfl 34 (.tmp 38) rfl _ rfl _ HLB4.out ?_)|((with_reducible show wpList _ _ _ (⟨_,.store 34 (.tmp 10) (.tmp 39),_,_,_,_⟩::_) _ _);refine wpList_store_any rfl 34 (.tmp 10) (.tmp 39) rfl _ rfl _ rfl _ HST5.out ?_))
 refine wp_region_last (l:=[_,_,_,_]) (o:=_) (S:=λwx=>wx=w5.drew) (by kernel_rfl) rfl (by kernel_rfl) (λd _ _ _ _ h=>by cases d<;>exact h) rfl (by kernel_rfl) (by kernel_rfl) ?_
 repeat (refine EachList.cons ?_ (EachIf.val rfl ?h) ?_;(case h=>(intro wx hx;go_simp;rfl));simp only[Act.put,List.setIfInBounds_toArray,List.set_cons_zero,List.set_cons_succ])
 refine EachList.done λwx hx=> ?_
 subst hx
 refine wpList_copy_any rfl (.tmp 40) (.tmp 43) 40 40 rfl _ _ rfl rfl (HCP.out _) ?_
 clear hs13 hsu HST5 HLB4 HCP hzn
 have HG6:Hid (gp1=gp∨(w.heap.size≤gp1∧gp1<w6.heap.size)):=by show _∨_;omega
 have hlb:b<w.heap.size∧w.heap.size<w4.heap.size∧gp1<w6.heap.size∧gp1≠w.heap.size∧gp1≠w4.heap.size∧go<w4.heap.size∧w.heap.size≤go:=by omega
 have hgo6:go<w6.heap.size:=by omega
 generalize w4.heap.size=lb at *
 have HX:Hid (∀wx,Keeps [b,gp1] w6 wx→Blk wx w.heap.size Z 37∧EReads wx v g n.E∧Reads wx (.slice a (needN n) oc) go (i64s own)∧Blk wx lb (zs (laidL n own)).toArray 34):=λwx hk=>by
  refine⟨HB6.out.keep hk ?_,HE6.out.keep hk HGG.out,HRO6.out.keep hk ?_,HA6.out.keep hk ?_⟩
  ·simp only[List.mem_cons,List.not_mem_nil,or_false];omega
  ·simp only[List.mem_cons,List.not_mem_nil,or_false];omega
  ·simp only[List.mem_cons,List.not_mem_nil,or_false];omega
 have HST:Hid (Onto w6 b gp1 B (ps++(tps++entPs n.E (laidL n own) 0)) w6):=by
  show Onto _ _ _ _ _ _
  rw[show entPs n.E (laidL n own) 0=[] from rfl,List.append_nil]
  exact Onto.refl HS6.out
 have HCN:Hid (cnt≤6):=hbl.2.1
 have HF:Hid (∀(x:Int),x=((listI n own:Nat):Int)→∀wy,Onto w6 b gp1 B (ps++(tps++(entPs n.E (laidL n own) cnt++listPs n own))) wy→∀wx,Keeps [] wy wx→
   (loadVar 37 ⟨w.heap.size,0,none⟩).run Tryz.prog wx= .ok (.agg Z) wx∧(loadVar 34 ⟨lb,0,none⟩).run Tryz.prog wx= .ok (.agg (zs (laidL n own)).toArray) wx∧
   Calls Tryz.prog 76 #[.agg Z,.agg (zs (laidL n own)).toArray,.int .i64 x] wx (λe w'=>e= .returned (.agg (u64s (inoRow n (laidL n own) x)).toArray)∧Keeps [] wx w')∧
   Calls Tryz.prog 79 #[.pointer (some ⟨b,0,none⟩),.int .i64 (q:Int),.agg (u64s (inoRow n (laidL n own) x)).toArray] wx (λe w'=>e= .returned (.tuple #[])∧Hid (Onto w b gp B (ps++lps) w'))):=by
  rintro x rfl wy ⟨gp2,hgp2,hs2,hk2⟩ wx hk
  obtain⟨HBr,-,-,HAr⟩:=HX.out _ hk2
  have hli:listI n own<256:=by
   by_cases hc:cnt<own.length
   ·have h1:=HIN.out (own.getD cnt 0) (by rw[List.getD_eq_getElem?_getD,List.getElem?_eq_getElem hc];exact List.getElem_mem _)
    rw[(HLI.out hc).1]
    exact h1.2
   ·rw[(HLO.out hc).1];omega
  have hlp:(listPs n own).length≤8:=by
   by_cases hc:cnt<own.length
   ·rw[(HLI.out hc).2,rowPs_len];omega
   ·rw[(HLO.out hc).2];simp
  have hbx:=HBr.keep hk (by simp)
  have hax:=HAr.keep hk (by simp)
  have hrl:(inoRow n (laidL n own) ((listI n own:Nat):Int)).length=8:=by simp[inoRow,HLL.out]
  refine⟨(HLB.out _ hbx).1,load_n13 (off:=0) hax HLL.out (λk hk=>by rw[Nat.zero_add,List.getElem?_toArray,zs_get (by rw[HLL.out];exact hk)]),HIR.out _ _ HLL.out (λk=>by have :=H256.out k;omega) (by omega) wx,?_⟩
  have h1:=putRow_at (hs2.keep hk (by simp) (by simp)) (by simp only[List.length_append,entPs_len,HTL6];omega) q (by omega) (inoRow n (laidL n own) ((listI n own:Nat):Int)) hrl
  refine h1.mono ?_
  rintro e w' ⟨he,h2⟩
  refine⟨he,?_⟩
  have e1:ps++(tps++(entPs n.E (laidL n own) cnt++listPs n own))++rowPs q (inoRow n (laidL n own) ((listI n own:Nat):Int)) 8=ps++lps:=by rw[HLY.out];simp only[List.append_assoc]
  rw[e1] at h2
  have hz2:=hk2.size
  exact Onto.trans HG6.out HK6.out (Onto.trans hgp2 hk2 (Onto.mono hk (by omega) h2))
 go_wp2_with fail
 go_loopg [46] cnt (λgh s46 wx=>∃k:Nat,k+gh=cnt∧s46= .int .i64 (k:Int)∧Hid (Onto w6 b gp1 B (ps++(tps++entPs n.E (laidL n own) k)) wx))
 case atStart=>exact⟨0,by omega,rfl,HST.out⟩
 case round=>
  clear HST
  obtain⟨k,hk,rfl,HP⟩:=hrel
  obtain⟨gp2,hgp2,hs2,hk2⟩:=HP.out
  obtain⟨HBr,HEr,HRr,HAr⟩:=HX.out _ hk2
  have hz2:=hk2.size
  cases gk with
  |zero=>
   obtain rfl:k=cnt:=by omega
   by_cases hc:k<own.length
   ·obtain⟨hli,hlp⟩:=HLI.out hc
    obtain⟨off,hoff,hcell⟩:∃off,a=some ⟨go,off,none⟩∧wr.cell? ⟨go,off+k,none⟩=some (.int .i64 ((listI n own:Nat):Int)):=by
     obtain⟨a',cap',he,-,-,HC⟩:=ints_cell HRr
     injection he with h1 h2 h3
     subst h1
     obtain⟨-,off,ho,hc'⟩:=HC.out k hc
     exact⟨off,ho,by rw[hc',hli]⟩
    have hli256:listI n own<256:=by
     have h1:=HIN.out (own.getD k 0) (by rw[List.getD_eq_getElem?_getD,List.getElem?_eq_getElem hc];exact List.getElem_mem _)
     rw[hli]
     exact h1.2
    have HLD:Hid (∀wx,Keeps [] wr wx→(loadVar 34 ⟨lb,0,none⟩).run Tryz.prog wx= .ok (.agg (zs (laidL n own)).toArray) wx):=λwx hk'=>
     load_n13 (off:=0) (HAr.keep hk' (by simp)) HLL.out (λk hk=>by rw[Nat.zero_add,List.getElem?_toArray,zs_get (by rw[HLL.out];exact hk)])
    have HBK:Hid (∀wx,Calls Tryz.prog 80 #[.int .i64 ((listI n own:Nat):Int)] wx λe w'=>e= .returned (.int .i64 ((1080+8*listI n own:Nat):Int))∧wx=w'):=λwx=>by
     have :=txBlock_at ((listI n own:Nat):Int) wx
     rwa[blockN,if_neg (by omega),show 1080+((listI n own:Nat):Int)*8=((1080+8*listI n own:Nat):Int) by omega] at this
    have HLR:Hid (∀wx,Calls Tryz.prog 82 #[.agg (zs (laidL n own)).toArray] wx λe w'=>e= .returned (.agg (u64s ((laidL n own).drop 5)).toArray)∧Keeps [] wx w'):=λwx=>listRow_at _ HLL.out (λk=>by have :=H256.out k;omega) wx
    have HPR:Hid (∀wx,Keeps [] wr wx→Calls Tryz.prog 79 #[.pointer (some ⟨b,0,none⟩),.int .i64 ((1080+8*listI n own:Nat):Int),.agg (u64s ((laidL n own).drop 5)).toArray] wx λe w'=>e= .returned (.tuple #[])∧Onto w6 b gp1 B (ps++(tps++(entPs n.E (laidL n own) k++listPs n own))) w'):=λwx hk'=>by
     have h1:=putRow_at (hs2.keep hk' (by simp) (by simp)) (by simp only[List.length_append,entPs_len,HTL6];omega) (1080+8*listI n own) (by omega) ((laidL n own).drop 5) (by rw[List.length_drop,HLL.out])
     refine h1.mono ?_
     rintro e w' ⟨he,h2⟩
     refine⟨he,?_⟩
     rw[List.append_assoc,List.append_assoc,←hlp] at h2
     exact Onto.trans hgp2 hk2 (Onto.mono hk' (by omega) h2)
    have hlt:(k:Int)<((needN n:Nat):Int):=by omega
    have hk0:(0:Int)≤(k:Int):=by omega
    subst hoff
    have HF:=Lib.hid (HF.out ((listI n own:Nat):Int) rfl)
    clear HP hs2 HBr HEr HRr HAr HLI HLO hli hlp HX
    generalize (u64s (inoRow n (laidL n own) ((listI n own:Nat):Int))).toArray=ZR at *
    generalize (u64s ((laidL n own).drop 5)).toArray=ZD at *
    generalize (zs (laidL n own)).toArray=ZL at *
    generalize ((1080+8*listI n own:Nat):Int)=bk at *
    generalize ((listI n own:Nat):Int)=li at *
    go_wp2_with fail
    refine wp_region_last (l:=[_,_,_,_,_]) (o:=_) (S:=λwx=>Keeps [] wr wx) (by kernel_rfl) rfl (by kernel_rfl) (λd _ _ _ _ h=>by cases d<;>exact h) ((Keeps.refl _ _).drew) (by kernel_rfl) (by kernel_rfl) ?_
    repeat (first
     |(refine EachList.cons (.agg ZL) (EachIf.load rfl 34 (.tmp 10) rfl _ rfl λwx hx=>HLD.out wx hx) ?_;simp only[Act.put,List.setIfInBounds_toArray,List.set_cons_zero,List.set_cons_succ])
     |(refine EachList.cons (.int .i64 bk) (EachIf.call rfl 80 #[.int .i64 li] ?he ?h) ?_;(case he=>(intro wz;go_simp));(case h=>exact λwx hx=>(HBK.out wx).mono λe w' he=>⟨he.1,he.2▸hx⟩);simp only[Act.put,List.setIfInBounds_toArray,List.set_cons_zero,List.set_cons_succ])
     |(refine EachList.cons (.agg ZD) (EachIf.call rfl 82 #[.agg ZL] ?he ?h) ?_;(case he=>(intro wz;go_simp));(case h=>exact λwx hx=>(HLR.out wx).mono λe w' he=>⟨he.1,hx.trans' he.2⟩);simp only[Act.put,List.setIfInBounds_toArray,List.set_cons_zero,List.set_cons_succ])
     |(refine EachList.cons ?_ (EachIf.val rfl ?h) ?_;(case h=>(intro wx hx;clear hx;go_simp;rfl));simp only[Act.put,List.setIfInBounds_toArray,List.set_cons_zero,List.set_cons_succ]))
    refine EachList.done λwx hx=> ?_
    have HKX:=Lib.hid hx
    clear hx
    go_wp2_with fail
    refine(HPR.out _ HKX.out).mono ?_;rintro e w7 ⟨rfl,hon⟩
    have HF7:=Lib.hid (HF.out w7 hon)
    clear HF hon HKX HPR HLR HLD HBK
    go_wp2_with fail
    refine wp_region_last (l:=[_,_,_,_,_,_,_]) (o:=_) (S:=λwx=>Keeps [] w7 wx) (by kernel_rfl) rfl (by kernel_rfl) (λd _ _ _ _ h=>by cases d<;>exact h) ((Keeps.refl _ _).drew) (by kernel_rfl) (by kernel_rfl) ?_
    repeat (first
     |(refine EachList.cons (.agg Z) (EachIf.load rfl 37 (.tmp 5) rfl _ rfl λwx hx=>(HF7.out wx hx).1) ?_;simp only[Act.put,List.setIfInBounds_toArray,List.set_cons_zero,List.set_cons_succ])
     |(refine EachList.cons (.agg ZL) (EachIf.load rfl 34 (.tmp 10) rfl _ rfl λwx hx=>(HF7.out wx hx).2.1) ?_;simp only[Act.put,List.setIfInBounds_toArray,List.set_cons_zero,List.set_cons_succ])
     |(refine EachList.cons (.int .i64 (q:Int)) (EachIf.call rfl 28 #[.int .i64 i] ?he ?h) ?_;(case he=>(intro wz;go_simp));(case h=>exact λwx hx=>(HI.out wx).mono λe w' he=>⟨he.1,he.2▸hx⟩);simp only[Act.put,List.setIfInBounds_toArray,List.set_cons_zero,List.set_cons_succ])
     |(refine EachList.cons (.agg ZR) (EachIf.call rfl 76 #[.agg Z,.agg ZL,.int .i64 li] ?he ?h) ?_;(case he=>(intro wz;go_simp));(case h=>exact λwx hx=>(HF7.out wx hx).2.2.1.mono λe w' he=>⟨he.1,hx.trans' he.2⟩);simp only[Act.put,List.setIfInBounds_toArray,List.set_cons_zero,List.set_cons_succ])
     |(refine EachList.cons ?_ (EachIf.val rfl ?h) ?_;(case h=>(intro wx hx;clear hx;go_simp;rfl));simp only[Act.put,List.setIfInBounds_toArray,List.set_cons_zero,List.set_cons_succ]))
    refine EachList.done λwx hx=> ?_
    have HKX:=Lib.hid hx
    clear hx
    go_wp2_with fail
    refine(HF7.out _ HKX.out).2.2.2.mono ?_;rintro e w' ⟨rfl,hon⟩
    go_wp2_with fail
    go_ret
    exact⟨rfl,hon.out⟩
   ·obtain⟨hli,hlp⟩:=HLO.out hc
    have HFW:=Lib.hid (HF.out 0 (by rw[hli];rfl) wr (by rw[hlp,List.append_nil];exact HP.out))
    have hge:¬(k:Int)<((needN n:Nat):Int):=by omega
    clear HF HP hs2 HBr HEr HRr HAr HLI HLO hli hlp HX
    generalize (u64s (inoRow n (laidL n own) 0)).toArray=ZR at *
    generalize (zs (laidL n own)).toArray=ZL at *
    go_wp2_with fail
    refine wp_region_last (l:=[_,_,_,_,_,_,_]) (o:=_) (S:=λwx=>Keeps [] wr wx) (by kernel_rfl) rfl (by kernel_rfl) (λd _ _ _ _ h=>by cases d<;>exact h) ((Keeps.refl _ _).drew) (by kernel_rfl) (by kernel_rfl) ?_
    repeat (first
     |(refine EachList.cons (.agg Z) (EachIf.load rfl 37 (.tmp 5) rfl _ rfl λwx hx=>(HFW.out wx hx).1) ?_;simp only[Act.put,List.setIfInBounds_toArray,List.set_cons_zero,List.set_cons_succ])
     |(refine EachList.cons (.agg ZL) (EachIf.load rfl 34 (.tmp 10) rfl _ rfl λwx hx=>(HFW.out wx hx).2.1) ?_;simp only[Act.put,List.setIfInBounds_toArray,List.set_cons_zero,List.set_cons_succ])
     |(refine EachList.cons (.int .i64 (q:Int)) (EachIf.call rfl 28 #[.int .i64 i] ?he ?h) ?_;(case he=>(intro wz;go_simp));(case h=>exact λwx hx=>(HI.out wx).mono λe w' he=>⟨he.1,he.2▸hx⟩);simp only[Act.put,List.setIfInBounds_toArray,List.set_cons_zero,List.set_cons_succ])
     |(refine EachList.cons (.agg ZR) (EachIf.call rfl 76 #[.agg Z,.agg ZL,.int .i64 0] ?he ?h) ?_;(case he=>(intro wz;go_simp));(case h=>exact λwx hx=>(HFW.out wx hx).2.2.1.mono λe w' he=>⟨he.1,hx.trans' he.2⟩);simp only[Act.put,List.setIfInBounds_toArray,List.set_cons_zero,List.set_cons_succ])
     |(refine EachList.cons ?_ (EachIf.val rfl ?h) ?_;(case h=>(intro wx hx;clear hx;go_simp;rfl));simp only[Act.put,List.setIfInBounds_toArray,List.set_cons_zero,List.set_cons_succ]))
    refine EachList.done λwx hx=> ?_
    have HKX:=Lib.hid hx
    clear hx
    go_wp2_with fail
    refine(HFW.out _ HKX.out).2.2.2.mono ?_;rintro e w' ⟨rfl,hon⟩
    go_wp2_with fail
    go_ret
    exact⟨rfl,hon.out⟩
  |succ gg=>
   have hkc:k<cnt:=by omega
   have hlt:(k:Int)<(cnt:Int):=by omega
   have hk0:(0:Int)≤(k:Int):=by omega
   have hk13:(k:Int)<13:=by omega
   have hl256:=H256.out k
   have HLC:Hid (∀wx,Keeps [] wr wx→(loadVar 3 ⟨lb,k,none⟩).run Tryz.prog wx= .ok (.int .i64 ((laidL n own).getD k 0)) wx):=λwx hk'=>load_one (off:=k) Tryz.underlying3 (HAr.keep hk' (by simp)) (by rw[List.getElem?_toArray,zs_get (by rw[HLL.out];omega)])
   have HLV:Hid (∀wx,Keeps [] wr wx→(loadVar 35 ⟨w.heap.size,17,none⟩).run Tryz.prog wx= .ok v wx):=λwx hk'=>load_sl (off:=17) Tryz.underlying35 (HBr.keep hk' (by simp)) hZ17
   have HBK:Hid (∀wx,Calls Tryz.prog 80 #[.int .i64 ((laidL n own).getD k 0)] wx λe w'=>e= .returned (.int .i64 ((1080+8*((laidL n own).getD k 0).toNat:Nat):Int))∧wx=w'):=λwx=>by
    have :=txBlock_at ((laidL n own).getD k 0) wx
    rwa[blockN,if_neg (by omega),show 1080+(laidL n own).getD k 0*8=((1080+8*((laidL n own).getD k 0).toNat:Nat):Int) by omega] at this
   have HER:Hid (∀wx,Keeps [] wr wx→Calls Tryz.prog 81 #[v,.int .i64 (k:Int)] wx λe w'=>e= .returned (.agg (u64s (entRow n.E k)).toArray)∧Keeps [] wx w'):=λwx hk'=>entryRow_at (HEr.keep hk' (by simp)) HEO.out k (HEL.out k hkc)
   have HPR:Hid (∀wx,Keeps [] wr wx→Calls Tryz.prog 79 #[.pointer (some ⟨b,0,none⟩),.int .i64 ((1080+8*((laidL n own).getD k 0).toNat:Nat):Int),.agg (u64s (entRow n.E k)).toArray] wx λe w'=>e= .returned (.tuple #[])∧Hid (Onto w6 b gp1 B (ps++(tps++entPs n.E (laidL n own) (k+1))) w')):=λwx hk'=>by
    have h1:=putRow_at (hs2.keep hk' (by simp) (by simp)) (by simp only[List.length_append,entPs_len,HTL6];omega) (1080+8*((laidL n own).getD k 0).toNat) (by omega) (entRow n.E k) (entTo_len _ _ _)
    refine h1.mono ?_
    rintro e w' ⟨he,h2⟩
    refine⟨he,?_⟩
    rw[List.append_assoc,List.append_assoc,←entPs_succ] at h2
    exact Onto.trans hgp2 hk2 (Onto.mono hk' (by omega) h2)
   clear HP hs2 HBr HEr HRr HAr HX HF HLI HLO hl256
   generalize ((1080+8*((laidL n own).getD k 0).toNat:Nat):Int)=bk at *
   generalize (laidL n own).getD k 0=x at *
   generalize (u64s (entRow n.E k)).toArray=RW at *
   go_wp2_with fail
   refine wp_region_last (l:=[_,_,_,_,_,_,_,_,_]) (o:=_) (S:=λwx=>Keeps [] wr wx) (by kernel_rfl) rfl (by kernel_rfl) (λd _ _ _ _ h=>by cases d<;>exact h) ((Keeps.refl _ _).drew) (by kernel_rfl) (by kernel_rfl) ?_
   repeat (first
    |(refine EachList.cons (.int .i64 x) (EachIf.load rfl 3 (.tmp 51) rfl _ rfl λwx hx=>HLC.out wx hx) ?_;simp only[Act.put,List.setIfInBounds_toArray,List.set_cons_zero,List.set_cons_succ])
    |(refine EachList.cons v (EachIf.load rfl 35 (.tmp 54) rfl _ rfl λwx hx=>HLV.out wx hx) ?_;simp only[Act.put,List.setIfInBounds_toArray,List.set_cons_zero,List.set_cons_succ])
    |(refine EachList.cons (.int .i64 bk) (EachIf.call rfl 80 #[.int .i64 x] ?he ?h) ?_;(case he=>(intro wz;go_simp));(case h=>exact λwx hx=>(HBK.out wx).mono λe w' he=>⟨he.1,he.2▸hx⟩);simp only[Act.put,List.setIfInBounds_toArray,List.set_cons_zero,List.set_cons_succ])
    |(refine EachList.cons (.agg RW) (EachIf.call rfl 81 #[v,.int .i64 (k:Int)] ?he ?h) ?_;(case he=>(intro wz;go_simp));(case h=>exact λwx hx=>(HER.out wx hx).mono λe w' he=>⟨he.1,hx.trans' he.2⟩);simp only[Act.put,List.setIfInBounds_toArray,List.set_cons_zero,List.set_cons_succ])
    |(refine EachList.cons ?_ (EachIf.val rfl ?h) ?_;(case h=>(intro wx hx;clear hx;go_simp;rfl));simp only[Act.put,List.setIfInBounds_toArray,List.set_cons_zero,List.set_cons_succ]))
   refine EachList.done λwx hx=> ?_
   have HKX:=Lib.hid hx
   clear hx
   go_wp2_with fail
   refine(HPR.out _ HKX.out).mono ?_;rintro e w' ⟨rfl,hon⟩
   go_wp2_with fail
   go_roundg gg
   case measure=>omega
   case rel=>exact⟨k+1,by omega,by go_num,hon.out⟩
def Lay2P (i:Int) (n:Ino):Prop:=(0≤i∧i<32)∧n.F=2∧RightP n
instance (i:Int) (n:Ino):Decidable (Lay2P i n):=by unfold Lay2P;infer_instance
set_option maxRecDepth 100000 in
set_option maxHeartbeats 4000000 in
theorem lay2_arg {w:World} {p:Value} (i:Int) (n:Ino) (v:Value) (g:Nat) (hB:n.B.length=13) (hE:EReads w v g n.E) (hN:∀k,k<n.E.length→(enm n.E k).size≤9223372036854775807) (hno:¬Lay2P i n):
  Calls Tryz.prog 62 #[p,.int .i64 i,.agg (inoC n v)] w λe w'=>e= .returned (.int .i64 1)∧Keeps [] w w':=by
 have HRT:Hid (∀wx,Keeps [] w wx→Calls Tryz.prog 39 #[.agg (inoC n v)] wx λe w'=>e= .returned (.bool (decide (RightP n)))∧Keeps [] wx w'):=λwx hk=>right_at n v g hB wx (hE.keep hk (by simp)) hN
 have hat:=inoAt v hB
 have hb0:=Blk.new w (inoC n v) 37
 have HL:=Lib.hid (load_ino hb0 hB)
 have HI:=Lib.hid (txInode_at i)
 generalize inoC n v=Z at *
 have c0:(w.alloc (.cells Z 37)).cell? ⟨w.heap.size,0,none⟩=some (.int .i64 n.F):=by rw[hb0.cell];exact hat.f0
 have HK:Hid (Keeps [] w (w.alloc (.cells Z 37))):=(Keeps.refl [] w).alloc _
 have HNO:=Lib.hid hno
 clear hb0 hat hE hN hB hno
 by_cases hi:i<0∨32≤i
 ·have hin:inodeN i= -1:=by unfold inodeN;rw[if_pos hi]
  rw[hin] at HI
  clear hin
  go_enter Tryz.func62,Tryz.ntmps62
  go_wp2_with fail
  refine(HI.out _).mono ?_;rintro e w' ⟨rfl,rfl⟩
  go_wp2_with fail
  go_ret
  exact⟨rfl,HK.out⟩
 ·have hin:inodeN i=((824+8*i.toNat:Nat):Int):=by unfold inodeN;rw[if_neg hi];omega
  rw[hin] at HI
  have hp0:(0:Int)≤((824+8*i.toNat:Nat):Int):=by omega
  generalize ((824+8*i.toNat:Nat):Int)=q at *
  clear hin
  by_cases hF:n.F=2
  ·have HQ:Hid (decide (RightP n)=false):=decide_eq_false λh=>HNO.out ⟨by omega,hF,h⟩
   rw[hF] at c0
   rw[HQ.out] at HRT
   go_enter Tryz.func62,Tryz.ntmps62
   go_wp2_with fail
   refine(HI.out _).mono ?_;rintro e w' ⟨rfl,rfl⟩
   go_wp2_with((with_reducible show wpList _ _ _ (⟨_,.load 37 (.tmp 5),_,_,_,_⟩::_) _ _);refine wpList_load_want (by simp[Region.wanted,yielded,hp0]) 37 (.tmp 5) rfl _ rfl _ HL.out ?_)
   refine(HRT.out _ HK.out).mono ?_;rintro e w1 ⟨rfl,hk1⟩
   have HK1:=Lib.hid (HK.out.trans' hk1)
   clear hk1
   go_wp2_with fail
   go_ret
   exact⟨rfl,HK1.out⟩
  ·have hF':(n.F != 2)=true:=bne_iff_ne.2 hF
   generalize n.F=f at *
   go_enter Tryz.func62,Tryz.ntmps62
   go_wp2_with fail
   refine(HI.out _).mono ?_;rintro e w' ⟨rfl,rfl⟩
   go_wp2_with fail
   go_ret
   exact⟨rfl,HK.out⟩
set_option maxRecDepth 100000 in
set_option maxHeartbeats 4000000 in
theorem lay2_space {w:World} {b gp:Nat} {B:List Int} {ps:List (Int×Int)} (h:ShAt w b gp B ps) (h64:In64 (putAll B ps)) (i:Int) (n:Ino) (v:Value) (g:Nat) (hB:n.B.length=13) (hE:EReads w v g n.E) (hN:∀k,k<n.E.length→(enm n.E k).size≤9223372036854775807)
  (hok:Lay2P i n) (hfew:(freeL (putAll B ps)).length<needF n):
  Calls Tryz.prog 62 #[.pointer (some ⟨b,0,none⟩),.int .i64 i,.agg (inoC n v)] w λe w'=>e= .returned (.int .i64 7)∧Keeps [] w w':=by
 have HRT:Hid (∀wx,Keeps [] w wx→Calls Tryz.prog 39 #[.agg (inoC n v)] wx λe w'=>e= .returned (.bool true)∧Keeps [] wx w'):=λwx hk=>by
  have :=right_at n v g hB wx (hE.keep hk (by simp)) hN
  rwa[decide_eq_true hok.2.2] at this
 have hl24:=(blocks_le hok.2.2).1
 have HNEED:Hid (∀wx,Keeps [] w wx→Calls Tryz.prog 84 #[.agg (inoC n v)] wx λe w'=>e= .returned (.int .i64 ((needF n:Nat):Int))∧Keeps [] wx w'):=λwx hk=>by
  have :=need2_at n v g hB wx (hE.keep hk (by simp)) (by omega) hN
  rwa[if_pos hok.2.2] at this
 have HTK:Hid (∀wx,Keeps [] w wx→Calls Tryz.prog 77 #[.pointer (some ⟨b,0,none⟩),.int .i64 ((needF n:Nat):Int)] wx λe w'=>e= .returned (.tuple #[.slice none 0 0,.int .i64 7])∧wx=w'):=λwx hk=>
  paTake_less (h.keep hk (by simp) (by simp)) h64 (needF n) hfew
 have hat:=inoAt v hB
 have hb0:=Blk.new w (inoC n v) 37
 have HL:Hid (∀wx,Keeps [] (w.alloc (.cells (inoC n v) 37)) wx→(loadVar 37 ⟨w.heap.size,0,none⟩).run Tryz.prog wx= .ok (.agg (inoC n v)) wx):=λwx hk=>load_ino (hb0.keep hk (by simp)) hB
 have HI:=Lib.hid (txInode_at i)
 generalize inoC n v=Z at *
 have c0:(w.alloc (.cells Z 37)).cell? ⟨w.heap.size,0,none⟩=some (.int .i64 2):=by rw[hb0.cell,←hok.2.1];exact hat.f0
 have HK:Hid (Keeps [] w (w.alloc (.cells Z 37))):=(Keeps.refl [] w).alloc _
 have hin:inodeN i=((824+8*i.toNat:Nat):Int):=by unfold inodeN;rw[if_neg (by have :=hok.1;omega)];have :=hok.1;omega
 rw[hin] at HI
 have hp0:(0:Int)≤((824+8*i.toNat:Nat):Int):=by omega
 generalize ((824+8*i.toNat:Nat):Int)=q at *
 clear hb0 hat hE hN hB hin hok h h64 hfew
 have HL0:=Lib.hid (HL.out _ (Keeps.refl [] _))
 generalize ((needF n:Nat):Int)=nn at *
 go_enter Tryz.func62,Tryz.ntmps62
 go_wp2_with fail
 refine(HI.out _).mono ?_;rintro e w' ⟨rfl,rfl⟩
 go_wp2_with((with_reducible show wpList _ _ _ (⟨_,.load 37 (.tmp 5),_,_,_,_⟩::_) _ _);refine wpList_load_want (by simp[Region.wanted,yielded,hp0]) 37 (.tmp 5) rfl _ rfl _ HL0.out ?_)
 refine(HRT.out _ HK.out).mono ?_;rintro e w1 ⟨rfl,hk1⟩
 have HK1:=Lib.hid (HK.out.trans' hk1)
 have HL1:=Lib.hid (HL.out _ hk1)
 clear hk1
 go_wp2_with((with_reducible show wpList _ _ _ (⟨_,.load 37 (.tmp 5),_,_,_,_⟩::_) _ _);refine wpList_load_any rfl 37 (.tmp 5) rfl _ rfl _ HL1.out ?_)
 refine(HNEED.out _ HK1.out).mono ?_;rintro e w2 ⟨rfl,hk2⟩
 have HK2:=Lib.hid (HK1.out.trans' hk2)
 clear hk2
 go_wp2_with fail
 refine(HTK.out _ HK2.out).mono ?_;rintro e w3 ⟨rfl,rfl⟩
 go_wp2_with fail
 go_ret
 exact⟨rfl,HK2.out⟩
def blkPs (Ls:List (List Int)) (own:List Nat) (k:Nat):List (Int×Int):=(List.range k).flatMap λj=>rowPs (1080+8*own.getD j 0) (Ls.getD j []) 8
theorem blkPs_succ (Ls:List (List Int)) (own:List Nat) (k:Nat):blkPs Ls own (k+1)=blkPs Ls own k++rowPs (1080+8*own.getD k 0) (Ls.getD k []) 8:=by
 unfold blkPs
 rw[List.range_succ,List.flatMap_append]
 simp
theorem blkPs_len (Ls:List (List Int)) (own:List Nat) (k:Nat):(blkPs Ls own k).length=8*k:=by
 induction k with
 |zero=>rfl
 |succ k ih=>rw[blkPs_succ,List.length_append,ih,rowPs_len];omega
def lay2Ps (X:List Int) (i:Nat) (n:Ino) (own:List Nat):List (Int×Int):=takePs X own++(blkPs (blocksF n own) own own.length++rowPs (824+8*i) (rowF n own) 8)
theorem needF_le {n:Ino} (hR:RightP n):needF n≤32:=by
 rcases hR.2.2 with ⟨-,hf⟩|⟨-,hd⟩
 ·rw[need_file hf]
  split<;>omega
 ·rw[need_dir hd]
  have h24:=hd.1
  have e0:=sprE_len n.E 0
  have e1:=sprE_len n.E 1
  have e2:=sprE_len n.E 2
  have e3:=sprE_len n.E 3
  simp only[fstN,dN]
  omega
set_option maxRecDepth 100000 in
set_option maxHeartbeats 8000000 in
theorem lay2_ok {w:World} {b gp:Nat} {B:List Int} {ps:List (Int×Int)} (h:ShAt w b gp B ps) (h64:In64 (putAll B ps)) (hT:TabAt w) (hgp:gp<w.heap.size) (hps:ps.length≤800000) (i:Int) (n:Ino) (v:Value) (g:Nat) (hB:n.B.length=13) (hE:EReads w v g n.E)
  (hN:∀k,k<n.E.length→(enm n.E k).size≤9223372036854775807) (hok:Lay2P i n) (hgg:n.E.length≠0→g≠b∧g≠gp) (hn:needF n≤(freeL (putAll B ps)).length):
  Calls Tryz.prog 62 #[.pointer (some ⟨b,0,none⟩),.int .i64 i,.agg (inoC n v)] w λe w'=>e= .returned (.int .i64 0)∧Onto w b gp B (ps++lay2Ps (putAll B ps) i.toNat n ((freeL (putAll B ps)).take (needF n))) w':=by
 have HRT:Hid (∀wx,Keeps [] w wx→Calls Tryz.prog 39 #[.agg (inoC n v)] wx λe w'=>e= .returned (.bool true)∧Keeps [] wx w'):=λwx hk=>by
  have :=right_at n v g hB wx (hE.keep hk (by simp)) hN
  rwa[decide_eq_true hok.2.2] at this
 have hbl:=blocks_le hok.2.2
 have HNEED:Hid (∀wx,Keeps [] w wx→Calls Tryz.prog 84 #[.agg (inoC n v)] wx λe w'=>e= .returned (.int .i64 ((needF n:Nat):Int))∧Keeps [] wx w'):=λwx hk=>by
  have :=need2_at n v g hB wx (hE.keep hk (by simp)) (by omega) hN
  rwa[if_pos hok.2.2] at this
 have hfl:=freeL_len (putAll B ps)
 have HTK:Hid (∀wx,Keeps [] w wx→Calls Tryz.prog 77 #[.pointer (some ⟨b,0,none⟩),.int .i64 ((needF n:Nat):Int)] wx (TakePost wx b gp B ps ((freeL (putAll B ps)).take (needF n)))):=λwx hk=>
  paTake_ok (h.keep hk (by simp) (by simp)) h64 (hT.keep hk) (Nat.lt_of_lt_of_le hgp hk.size) (by omega) (needF n) hn
 have HIN:Hid (∀c∈(freeL (putAll B ps)).take (needF n),c≠0∧c<256):=λc hc=>by
  have :=freeTo_mem.1 (List.mem_of_mem_take hc)
  exact⟨this.2.1,this.1⟩
 have hlen:((freeL (putAll B ps)).take (needF n)).length=needF n:=by rw[List.length_take,Nat.min_eq_left hn]
 have hn32:=needF_le hok.2.2
 have hL32:((freeL (putAll B ps)).take (needF n)).length≤32:=by omega
 have hat:=inoAt v hB
 have hb0:=Blk.new w (inoC n v) 37
 have hbl0:=h.raw.lt
 have HI:=Lib.hid (txInode_at i)
 have HR:=Lib.hid hok.2.2
 have HB:=Lib.hid hB
 have HLB:Hid (∀wx,Blk wx w.heap.size (inoC n v) 37→(loadVar 37 ⟨w.heap.size,0,none⟩).run Tryz.prog wx= .ok (.agg (inoC n v)) wx):=λwx hb=>load_ino hb hB
 have HLAY:Hid (lay2Ps (putAll B ps) i.toNat n ((freeL (putAll B ps)).take (needF n))=takePs (putAll B ps) ((freeL (putAll B ps)).take (needF n))++(blkPs (blocksF n ((freeL (putAll B ps)).take (needF n))) ((freeL (putAll B ps)).take (needF n)) ((freeL (putAll B ps)).take (needF n)).length++rowPs (824+8*i.toNat) (rowF n ((freeL (putAll B ps)).take (needF n))) 8)):=rfl
 have HTL:Hid ((takePs (putAll B ps) ((freeL (putAll B ps)).take (needF n))).length=9*needF n):=by
  show _=_
  rw[takePs_len _ _ HIN.out,hlen]
 generalize hol:(freeL (putAll B ps)).take (needF n)=own at *
 have HLA:Hid (∀wx v' go vo,EReads wx v g n.E→Reads wx vo go (i64s own)→v'=v→Calls Tryz.prog 86 #[.agg (inoC n v'),vo] wx (LaidPost wx (rowF n own) (blocksF n own))):=λwx v' go vo he ho hv=>by
  subst hv
  exact laid_at n v' g hB hok.2.2 he vo go own ho hlen λc hc=>(HIN.out c hc).2
 have hblen:=blocksF_len hok.2.2 hlen
 have HB8:Hid (∀k,k<own.length→((blocksF n own).getD k []).length=8):=λk hk=>blocksF_len8 (by omega)
 have hrl:=rowF_len n own
 generalize lay2Ps (putAll B ps) i.toNat n own=lps at *
 generalize htps:takePs (putAll B ps) own=tps at *
 have HTPS:=Lib.hid htps
 clear htps
 have hgI:inodeN i=((824+8*i.toNat:Nat):Int):=by unfold inodeN;rw[if_neg (by have :=hok.1;omega)];have :=hok.1;omega
 rw[hgI] at HI
 have hi32:i.toNat<32:=by have :=hok.1;omega
 have c0:(w.alloc (.cells (inoC n v) 37)).cell? ⟨w.heap.size,0,none⟩=some (.int .i64 2):=by rw[hb0.cell,←hok.2.1];exact hat.f0
 generalize hRW:rowF n own=RW at *
 generalize hBW:blocksF n own=BW at *
 have HLV:Hid (∀wx go vo,EReads wx v g n.E→Reads wx vo go (i64s own)→Calls Tryz.prog 86 #[.agg (inoC n v),vo] wx (LaidPost wx RW BW)):=λwx go vo he ho=>HLA.out wx v go vo he ho rfl
 generalize hZ:inoC n v=Z at *
 have HK:Hid (Keeps [] w (w.alloc (.cells Z 37))):=(Keeps.refl [] w).alloc _
 have HB0:=Lib.hid hb0
 have HE:=Lib.hid hE
 have HS:=Lib.hid h
 have HPS:=Lib.hid hps
 have HL0:=Lib.hid (HLB.out _ hb0)
 generalize hq:824+8*i.toNat=q at *
 have hq3:q+8≤3128:=by omega
 clear hq hi32 hRW hBW hZ HLA
 have hp0:(0:Int)≤(q:Int):=by omega
 have HLEN:=Lib.hid hlen
 clear hb0 hat hE hN hB hgI h h64 hT hfl hn hol hps hlen hok
 have hzv:=zero_r8
 generalize hz8:(u64s (List.replicate 8 0)).toArray=Z8 at *
 have HZ8:=Lib.hid hz8
 clear hz8
 go_enter Tryz.func62,Tryz.ntmps62
 go_wp2_with fail
 refine(HI.out _).mono ?_;rintro e w' ⟨rfl,rfl⟩
 go_wp2_with((with_reducible show wpList _ _ _ (⟨_,.load 37 (.tmp 5),_,_,_,_⟩::_) _ _);refine wpList_load_want (by simp[Region.wanted,yielded,hp0]) 37 (.tmp 5) rfl _ rfl _ HL0.out ?_)
 refine(HRT.out _ HK.out).mono ?_;rintro e w1 ⟨rfl,hk1⟩
 have HK1:=Lib.hid (HK.out.trans' hk1)
 have HB1:=Lib.hid (HB0.out.keep hk1 (by simp))
 have HL1:=Lib.hid (HLB.out _ HB1.out)
 clear hk1 HL0 HB0 HK
 go_wp2_with((with_reducible show wpList _ _ _ (⟨_,.load 37 (.tmp 5),_,_,_,_⟩::_) _ _);refine wpList_load_any rfl 37 (.tmp 5) rfl _ rfl _ HL1.out ?_)
 refine(HNEED.out _ HK1.out).mono ?_;rintro e w2 ⟨rfl,hk2⟩
 have HK2:=Lib.hid (HK1.out.trans' hk2)
 have HB2:=Lib.hid (HB1.out.keep hk2 (by simp))
 clear hk2 HK1 HB1 HL1 HNEED HRT
 go_wp2_with fail
 refine(HTK.out _ HK2.out).mono ?_;rintro e w3 ⟨vo,go,rfl,hro,hgo1,hgo2,gp1,hgp1,hne1,hs3,hk3⟩
 rw[HTPS.out] at hs3
 have hz2:=HK2.out.size
 have hb2:=HB2.out.lt
 have HB3:=Lib.hid (HB2.out.keep hk3 (by simp only[List.mem_cons,List.not_mem_nil,or_false];omega))
 have HE3:Hid (EReads w3 v g n.E):=(HE.out.keep HK2.out (by simp)).keep hk3 (λhne=>by have :=hgg hne;simp only[List.mem_cons,List.not_mem_nil,or_false];omega)
 have HK3:Hid (Keeps [b,gp] w w3):=(HK2.out.mono (by simp)).trans' hk3
 have HS3:=Lib.hid hs3
 have HRO:=Lib.hid hro
 have HL3:=Lib.hid (HLB.out _ HB3.out)
 have hz3:=hk3.size
 obtain⟨ao,co,rfl,hoc,hom,HOC⟩:=ints_cellR hro
 clear HTK HK2 HB2 HE HS hk3 hs3 hro
 go_wp2_with((with_reducible show wpList _ _ _ (⟨_,.load 37 (.tmp 5),_,_,_,_⟩::_) _ _);refine wpList_load_any rfl 37 (.tmp 5) rfl _ rfl _ HL3.out ?_)
 refine(HLV.out _ go _ HE3.out HRO.out).mono ?_;rintro e w4 ⟨vb,gb,rfl,hb,hgb,hk4⟩
 obtain⟨w5,hS1,hb9,hk5⟩:=store_whole (P:= Tryz.prog) (ty:= 74) (cs:=u64s RW) (by rw[u64s_len,hrl];exact size_r8) (Blk.new w4 Z8 74) (by rw[←HZ8.out];simp[u64s_len,hrl]) (u64s_one _)
 have hz4:=hk4.size
 have hk45:Keeps [] w4 w5:=((Keeps.refl [] w4).alloc (.cells Z8 74)).trans hk5 (by intro x hx;rw[List.mem_singleton] at hx;omega)
 have hk35:Keeps [] w3 w5:=hk4.trans' hk45
 have HS1:=Lib.hid hS1
 have HB9:=Lib.hid hb9
 have HBW:Hid (BReads w5 vb gb BW):=hb.keep hk45 (by simp)
 have HS5:=Lib.hid (HS3.out.keep hk35 (by simp) (by simp))
 have HK5:Hid (Keeps [b,gp] w w5):=HK3.out.trans' (hk35.mono (by simp))
 have HGB:Hid (own.length≠0→gb≠b∧gb≠gp1∧gb≠w4.heap.size):=λh0=>by
  obtain⟨a,cap,q1,q2,q3,q4⟩:=hb
  have :=(q4 (by omega)).1
  omega
 have hgo3:go<w3.heap.size:=hgo2
 have HC5:Hid (∀k,k<own.length→∀wx,Keeps [b,gp1] w5 wx→go<w3.heap.size∧∃off,ao=some ⟨go,off,none⟩∧wx.cell? ⟨go,off+k,none⟩=some (.int .i64 ((own.getD k 0:Nat):Int))):=λk hk wx hkx=>by
  obtain⟨h1,off,h2,h3⟩:=HOC.out k hk
  refine⟨h1,off,h2,?_⟩
  have e1:wx.heap[go]? =w5.heap[go]? :=hkx.block go (Nat.lt_of_lt_of_le h1 hk35.size) (by simp only[List.mem_cons,List.not_mem_nil,or_false];omega)
  have e2:w5.heap[go]? =w3.heap[go]? :=hk35.block go h1 (by simp)
  exact(World.cell?_of_block (w:=w3) (w':=wx) (a:=⟨go,off+k,none⟩) (e1.trans e2)).trans h3
 have hb5:w4.heap.size<w5.heap.size:=hb9.lt
 have hz5:=hk35.size
 have hgp5:gp1<w3.heap.size:=by
  rcases hgp1 with h|h
  ·omega
  ·omega
 have HON0:Hid (Onto w5 b gp1 B (ps++(tps++blkPs BW own 0)) w5):=by
  refine Onto.refl ?_
  have :=HS5.out
  simpa[blkPs] using this
 clear hS1 hb9 hk5 hk45 hk35 hk4 hb HL3 HS3 HE3 HB3 HRO HK3 HLV HOC
 generalize hg9:w4.heap.size=g9 at *
 go_wp2_with((with_reducible show wpList _ _ _ (⟨_,.store 74 (.tmp 9) (.tmp 40),_,_,_,_⟩::_) _ _);refine wpList_store_any rfl 74 (.tmp 9) (.tmp 40) rfl _ rfl _ rfl _ HS1.out ?_)
 go_loopg [44] own.length (λgh s44 wx=>∃k:Nat,k+gh=own.length∧s44= .int .i64 (k:Int)∧Hid (Onto w5 b gp1 B (ps++(tps++blkPs BW own k)) wx))
 case atStart=>exact⟨0,by omega,rfl,HON0.out⟩
 case round=>
  clear HON0
  obtain⟨k,hk,rfl,HP⟩:=hrel
  obtain⟨gp2,hgp2,hs2,hk2⟩:=HP.out
  have HLR:Hid (∀wx,Keeps [] wr wx→(loadVar 74 ⟨g9,0,none⟩).run Tryz.prog wx= .ok (.agg (u64s RW).toArray) wx):=λwx hkx=>load_r8 ((HB9.out.keep hk2 (by simp only[List.mem_cons,List.not_mem_nil,or_false];omega)).keep hkx (by simp)) hrl
  have hTL:=HTL.out
  have hPS:=HPS.out
  have hzr:=hk2.size
  cases gk with
  |zero=>
   obtain rfl:k=own.length:=by omega
   have HIQ:Hid (∀wx,Calls Tryz.prog 28 #[.int .i64 i] wx λe w'=>e= .returned (.int .i64 ((q:Nat):Int))∧wx=w'):=λwx=>HI.out wx
   have HPR:Hid (∀wx,Keeps [] wr wx→Calls Tryz.prog 79 #[.pointer (some ⟨b,0,none⟩),.int .i64 ((q:Nat):Int),.agg (u64s RW).toArray] wx λe w'=>e= .returned (.tuple #[])∧Hid (Onto w b gp B (ps++lps) w')):=λwx hk'=>by
    have h1:=putRow_at (hs2.keep hk' (by simp) (by simp)) (by simp only[List.length_append,blkPs_len,hTL];omega) q hq3 RW hrl
    refine h1.mono ?_
    rintro e w' ⟨he,h2⟩
    refine⟨he,?_⟩
    rw[List.append_assoc,List.append_assoc,←HLAY.out] at h2
    have h3:=Onto.trans hgp2 hk2 (Onto.mono hk' (by omega) h2)
    refine Onto.trans ?_ HK5.out h3
    rcases hgp1 with h|h
    ·exact .inl h
    ·exact .inr ⟨by omega,by omega⟩
   clear HP hs2 HC5 HLAY
   generalize (u64s RW).toArray=ZW at *
   generalize ((q:Nat):Int)=qi at *
   go_wp2_with fail
   refine wp_region_last (l:=[_,_,_,_]) (o:=_) (S:=λwx=>Keeps [] wr wx) (by kernel_rfl) rfl (by kernel_rfl) (λd _ _ _ _ h=>by cases d<;>exact h) ((Keeps.refl _ _).drew) (by kernel_rfl) (by kernel_rfl) ?_
   repeat (first
    |(refine EachList.cons (.agg ZW) (EachIf.load rfl 74 (.tmp 9) rfl _ rfl λwx hx=>HLR.out wx hx) ?_;simp only[Act.put,List.setIfInBounds_toArray,List.set_cons_zero,List.set_cons_succ])
    |(refine EachList.cons (.int .i64 qi) (EachIf.call rfl 28 #[.int .i64 i] ?he ?h) ?_;(case he=>(intro wz;go_simp));(case h=>exact λwx hx=>(HIQ.out wx).mono λe w' he=>⟨he.1,he.2▸hx⟩);simp only[Act.put,List.setIfInBounds_toArray,List.set_cons_zero,List.set_cons_succ])
    |(refine EachList.cons ?_ (EachIf.val rfl ?h) ?_;(case h=>(intro wx hx;clear hx;go_simp;rfl));simp only[Act.put,List.setIfInBounds_toArray,List.set_cons_zero,List.set_cons_succ]))
   refine EachList.done λwx hx=> ?_
   have HKX:=Lib.hid hx
   clear hx
   go_wp2_with fail
   refine(HPR.out _ HKX.out).mono ?_;rintro e w' ⟨rfl,hon⟩
   go_wp2_with fail
   go_ret
   exact⟨rfl,hon.out⟩
  |succ gg=>
   have hkn:k<own.length:=by omega
   have hlt:(k:Int)<(own.length:Int):=by omega
   have hk0:(0:Int)≤(k:Int):=by omega
   obtain⟨hgo4,off,rfl,c1⟩:=HC5.out k hkn wr hk2
   obtain⟨offb,cap,rfl,hgb2,hld⟩:=breads_load HBW.out (k:=k) (by omega) (HB8.out k hkn)
   have hgb3:=HGB.out (by omega)
   have HLD:Hid (∀wx,Keeps [] wr wx→(loadVar 74 ⟨gb,offb+k*8,none⟩).run Tryz.prog wx= .ok (.agg (u64s (BW.getD k [])).toArray) wx):=λwx hkx=>hld wx ((hkx.block gb (Nat.lt_of_lt_of_le hgb2 hk2.size) (by simp)).trans (hk2.block gb hgb2 (by simp only[List.mem_cons,List.not_mem_nil,or_false];omega)))
   have hx256:own.getD k 0<256:=(HIN.out _ (by rw[List.getD_eq_getElem?_getD,List.getElem?_eq_getElem hkn];exact List.getElem_mem hkn)).2
   have HBK:Hid (∀wx,Calls Tryz.prog 80 #[.int .i64 ((own.getD k 0:Nat):Int)] wx λe w'=>e= .returned (.int .i64 ((1080+8*own.getD k 0:Nat):Int))∧wx=w'):=λwx=>by
    have :=txBlock_at ((own.getD k 0:Nat):Int) wx
    rwa[blockN,if_neg (by omega),show 1080+((own.getD k 0:Nat):Int)*8=((1080+8*own.getD k 0:Nat):Int) by omega] at this
   have HPR:Hid (∀wx,Keeps [] wr wx→Calls Tryz.prog 79 #[.pointer (some ⟨b,0,none⟩),.int .i64 ((1080+8*own.getD k 0:Nat):Int),.agg (u64s (BW.getD k [])).toArray] wx λe w'=>e= .returned (.tuple #[])∧Hid (Onto w5 b gp1 B (ps++(tps++blkPs BW own (k+1))) w')):=λwx hk'=>by
    have h1:=putRow_at (hs2.keep hk' (by simp) (by simp)) (by simp only[List.length_append,blkPs_len,hTL];omega) (1080+8*own.getD k 0) (by omega) (BW.getD k []) (HB8.out k hkn)
    refine h1.mono ?_
    rintro e w' ⟨he,h2⟩
    refine⟨he,?_⟩
    rw[List.append_assoc,List.append_assoc,←blkPs_succ] at h2
    exact Onto.trans hgp2 hk2 (Onto.mono hk' (by omega) h2)
   rw[hblen] at *
   clear HP hs2 HLR hx256 hld hgb2 hgb3 HBW HC5 HLAY
   generalize ((1080+8*own.getD k 0:Nat):Int)=bk at *
   generalize ((own.getD k 0:Nat):Int)=x at *
   generalize (u64s (BW.getD k [])).toArray=RK at *
   go_wp2_with fail
   refine wp_region_last (l:=[_,_,_,_,_,_,_]) (o:=_) (S:=λwx=>Keeps [] wr wx) (by kernel_rfl) rfl (by kernel_rfl) (λd _ _ _ _ h=>by cases d<;>exact h) ((Keeps.refl _ _).drew) (by kernel_rfl) (by kernel_rfl) ?_
   repeat (first
    |(refine EachList.cons (.agg RK) (EachIf.load rfl 74 (.tmp 54) rfl _ rfl λwx hx=>HLD.out wx hx) ?_;simp only[Act.put,List.setIfInBounds_toArray,List.set_cons_zero,List.set_cons_succ])
    |(refine EachList.cons (.int .i64 bk) (EachIf.call rfl 80 #[.int .i64 x] ?he ?h) ?_;(case he=>(intro wz;go_simp));(case h=>exact λwx hx=>(HBK.out wx).mono λe w' he=>⟨he.1,he.2▸hx⟩);simp only[Act.put,List.setIfInBounds_toArray,List.set_cons_zero,List.set_cons_succ])
    |(refine EachList.cons ?_ (EachIf.val rfl ?h) ?_;(case h=>(intro wx hx;clear hx;go_simp;rfl));simp only[Act.put,List.setIfInBounds_toArray,List.set_cons_zero,List.set_cons_succ]))
   refine EachList.done λwx hx=> ?_
   have HKX:=Lib.hid hx
   clear hx
   go_wp2_with fail
   refine(HPR.out _ HKX.out).mono ?_;rintro e w' ⟨rfl,hon⟩
   go_wp2_with fail
   go_roundg gg
   case measure=>omega
   case rel=>exact⟨k+1,by omega,by go_num,hon.out⟩
end Go.Proofs.YtphojondgfjmgaaGreatDoor
