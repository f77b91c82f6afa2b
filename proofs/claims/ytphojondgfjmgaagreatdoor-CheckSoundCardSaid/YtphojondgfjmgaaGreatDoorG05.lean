/-
  Layer 7 (fmt2): Need. Layer 6 (fmt1): entryRow. Layer 6 (fmt1): rowAt, putRow. Layer 6 (fmt1), plain: the entries that words tell. Nothing of the program is named here. Layer 6 (fmt1): numbersOf.
-/
import Derived.Test.YtphojondgfjmgaaGreatDoorG03
import Derived.Test.YtphojondgfjmgaaGreatDoorG04
import Derived.Test.YtphojondgfjmgaaGreatDoorG02
import Derived.Deep.RegionWith
import Derived.IntWalk
import Derived.Test.YtphojondgfjmgaaGreatDoorG01
namespace Go.Proofs.YtphojondgfjmgaaGreatDoor
open Go.RowKit
def needTo (n:Ino):Nat→Nat
 |0=>if 6<(runsL n.B).length then 1 else 0
 |k+1=>needTo n k+((sprE n.E k).length+2)/3
def needF (n:Ino):Nat:=needTo n 4
theorem needTo_le (n:Ino) (h:n.E.length≤10000):∀k,needTo n k≤1+k*4000
 |0=>by unfold needTo;split<;>omega
 |k+1=>by
  unfold needTo
  have :=needTo_le n h k
  have :=sprE_len n.E k
  omega
theorem index_four (S:Nat→Value) {k:Nat} (hk:k<4) (w:World):(Instr.index 150 (.agg (fourC S)) (.int .i64 (k:Int))).run Tryz.prog w= .ok (S k) w:=by
 rcases (show k=0∨k=1∨k=2∨k=3 by omega) with rfl|rfl|rfl|rfl
 all_goals (show Sem.run _ _ _=_;kernel_rfl)
set_option maxRecDepth 100000 in
set_option maxHeartbeats 8000000 in
theorem need2_at (n:Ino) (v:Value) (g:Nat) (hB:n.B.length=13) (w:World) (hE:EReads w v g n.E) (hlen:n.E.length≤10000) (hsz:∀k,k<n.E.length→(enm n.E k).size≤9223372036854775807):
  Calls Tryz.prog 84 #[.agg (inoC n v)] w λe w'=>e= .returned (.int .i64 ((if RightP n then needF n else 0:Nat):Int))∧Keeps [] w w':=by
 have HR:Hid (∀wx,Keeps [] w wx→Calls Tryz.prog 39 #[.agg (inoC n v)] wx λe w'=>e= .returned (.bool (decide (RightP n)))∧Keeps [] wx w'):=λwx hk=>right_at n v g hB wx (hE.keep hk (by simp)) hsz
 have HRUN:=Lib.hid (λwx=>runs_at n.B hB wx)
 have HSP:Hid (∀wx,Keeps [] w wx→Calls Tryz.prog 101 #[v] wx (SpreadPost wx n.E)):=λwx hk=>spread_at (hE.keep hk (by simp)) hlen hsz
 have hb0:=Blk.new w (inoC n v) 37
 have HK0:Hid (Keeps [] w (w.alloc (.cells (inoC n v) 37))):=(Keeps.refl [] w).alloc _
 have HLI:=Lib.hid (load_ino hb0 hB)
 have HLB:Hid (∀wx,Keeps [] (w.alloc (.cells (inoC n v) 37)) wx→(loadVar 34 ⟨w.heap.size,4,none⟩).run Tryz.prog wx= .ok (.agg (zs n.B).toArray) wx):=λwx hk=>load_n13 (off:=4) (hb0.keep hk (by simp)) hB λk hk=>inoC_B _ (by omega)
 have HC17:Hid (∀wx,Keeps [] (w.alloc (.cells (inoC n v) 37)) wx→wx.cell? ⟨w.heap.size,17,none⟩=some v):=λwx hk=>by rw[(hb0.keep hk (by simp)).cell];exact inoC_E _ hB
 have HRL:Hid ((runsL n.B).length≤13):=runsTo_len n.B 13
 have HLE:Hid (∀k,(sprE n.E k).length≤10000):=λk=>Nat.le_trans (sprE_len _ _) hlen
 have HNT:=Lib.hid (λk=>needTo_le n hlen k)
 have HSUC:Hid (∀k,needTo n (k+1)=needTo n k+((sprE n.E k).length+2)/3):=λ_=>rfl
 have HZERO:Hid (needTo n 0=if 6<(runsL n.B).length then 1 else 0):=rfl
 clear hb0 hE hsz hlen
 generalize inoC n v=Z at *
 generalize (zs n.B).toArray=ZB at *
 by_cases hR:RightP n
 ·rw[decide_eq_true hR] at HR
  rw[if_pos hR]
  clear hR
  unfold needF
  generalize runsL n.B=R at *
  go_enter Tryz.func84,Tryz.ntmps84
  go_wp2_with((with_reducible show wpList _ _ _ (⟨_,.load 37 (.tmp 1),_,_,_,_⟩::_) _ _);refine wpList_load_any rfl 37 (.tmp 1) rfl _ rfl _ HLI.out ?_)
  refine(HR.out _ HK0.out).mono ?_;rintro e w1 ⟨rfl,hk1⟩
  have HK1:=Lib.hid hk1
  have HL1:=Lib.hid (HLB.out w1 hk1)
  clear hk1
  go_wp2_with((with_reducible show wpList _ _ _ (⟨_,.load 34 (.tmp 9),_,_,_,_⟩::_) _ _);refine wpList_load_any rfl 34 (.tmp 9) rfl _ rfl _ HL1.out ?_)
  refine(HRUN.out _).mono ?_;rintro e w2 ⟨va,ga,rfl,hra,hga,hka⟩
  obtain⟨aa,ca,rfl,-,-,-⟩:=u64s_cell hra
  have HK2:=Lib.hid (HK1.out.trans' hka)
  have c17:=HC17.out w2 HK2.out
  clear hra hga hka
  generalize hrl:R.length=m at *
  have HZ:=HZERO.out
  clear hrl
  obtain⟨d,hd⟩:∃d,d=needTo n 0:=⟨_,rfl⟩
  rw[←hd] at HZ
  have HD:=Lib.hid hd
  clear hd HZERO
  by_cases h6:6<m
  ·rw[if_pos h6] at HZ
   have h6':(6:Int)<(m:Int):=by omega
   have HDZ:=Lib.hid HZ
   clear HZ
   go_wp2_with fail
   refine(HSP.out _ (HK0.out.trans' HK2.out)).mono ?_;rintro e w3 ⟨S,rfl,hk3,hS⟩
   have HK3:=Lib.hid (HK0.out.trans' (HK2.out.trans' hk3))
   have HSR:Hid (∀k,k<4→∃a c,S k= .slice a (sprE n.E k).length c):=λk hk=>by
    obtain⟨g,⟨a,c,h,-⟩,-⟩:=hS k hk
    exact⟨a,c,h⟩
   have hix:=λk (hk:k<4) wx=>index_four S hk wx
   clear hS hk3 c17
   generalize (Value.agg (fourC S))=ZS at *
   go_wp2_with fail
   clear h6'
   go_loopg [3,19] 4 (λgh s3 s19 wx=>∃k:Nat,k+gh=4∧s19= .int .i64 (k:Int)∧s3= .int .i64 ((needTo n k:Nat):Int)∧wx=w3)
   case atStart=>exact⟨0,by omega,rfl,by rw[←HD.out,HDZ.out];rfl,rfl⟩
   case round=>
    obtain⟨k,hk,rfl,rfl,rfl⟩:=hrel
    cases gk with
    |zero=>
     obtain rfl:k=4:=by omega
     clear hk hix
     go_wp2_with fail
     go_ret
     exact⟨rfl,HK3.out⟩
    |succ gg=>
     have hk4:k<4:=by omega
     have hlt:(k:Int)<4:=by omega
     have hk0:(0:Int)≤(k:Int):=by omega
     have hixk:=hix k hk4 wr
     obtain⟨a,c,hSk⟩:=HSR.out k hk4
     rw[hSk] at hixk
     have hl:=HLE.out k
     have hnt:=HNT.out k
     have HSU:=Lib.hid (HSUC.out k)
     have HPA:=Lib.hid (parts_at (sprE n.E k).length 3 (by omega) (by omega) (by omega))
     generalize (sprE n.E k).length=q at *
     rw[show q+3-1=q+2 by omega] at HPA
     have hqb:(q+2)/3≤4000:=by omega
     generalize (q+2)/3=z at *
     generalize needTo n k=y at *
     clear hix hSk
     go_wp2_with fail
     refine(HPA.out _).mono ?_;rintro e w' ⟨rfl,rfl⟩
     go_wp2_with fail
     go_roundg gg
     case measure=>omega
     case rel=>exact⟨k+1,by omega,by go_num,by rw[HSU.out];go_num,rfl⟩
  ·rw[if_neg h6] at HZ
   have h6':¬(6:Int)<(m:Int):=by omega
   have HDZ:=Lib.hid HZ
   clear HZ
   go_wp2_with fail
   refine(HSP.out _ (HK0.out.trans' HK2.out)).mono ?_;rintro e w3 ⟨S,rfl,hk3,hS⟩
   have HK3:=Lib.hid (HK0.out.trans' (HK2.out.trans' hk3))
   have HSR:Hid (∀k,k<4→∃a c,S k= .slice a (sprE n.E k).length c):=λk hk=>by
    obtain⟨g,⟨a,c,h,-⟩,-⟩:=hS k hk
    exact⟨a,c,h⟩
   have hix:=λk (hk:k<4) wx=>index_four S hk wx
   clear hS hk3 c17
   generalize (Value.agg (fourC S))=ZS at *
   go_wp2_with fail
   clear h6'
   go_loopg [3,19] 4 (λgh s3 s19 wx=>∃k:Nat,k+gh=4∧s19= .int .i64 (k:Int)∧s3= .int .i64 ((needTo n k:Nat):Int)∧wx=w3)
   case atStart=>exact⟨0,by omega,rfl,by rw[←HD.out,HDZ.out];rfl,rfl⟩
   case round=>
    obtain⟨k,hk,rfl,rfl,rfl⟩:=hrel
    cases gk with
    |zero=>
     obtain rfl:k=4:=by omega
     clear hk hix
     go_wp2_with fail
     go_ret
     exact⟨rfl,HK3.out⟩
    |succ gg=>
     have hk4:k<4:=by omega
     have hlt:(k:Int)<4:=by omega
     have hk0:(0:Int)≤(k:Int):=by omega
     have hixk:=hix k hk4 wr
     obtain⟨a,c,hSk⟩:=HSR.out k hk4
     rw[hSk] at hixk
     have hl:=HLE.out k
     have hnt:=HNT.out k
     have HSU:=Lib.hid (HSUC.out k)
     have HPA:=Lib.hid (parts_at (sprE n.E k).length 3 (by omega) (by omega) (by omega))
     generalize (sprE n.E k).length=q at *
     rw[show q+3-1=q+2 by omega] at HPA
     have hqb:(q+2)/3≤4000:=by omega
     generalize (q+2)/3=z at *
     generalize needTo n k=y at *
     clear hix hSk
     go_wp2_with fail
     refine(HPA.out _).mono ?_;rintro e w' ⟨rfl,rfl⟩
     go_wp2_with fail
     go_roundg gg
     case measure=>omega
     case rel=>exact⟨k+1,by omega,by go_num,by rw[HSU.out];go_num,rfl⟩
 ·rw[decide_eq_false hR] at HR
  rw[if_neg hR]
  clear hR
  go_enter Tryz.func84,Tryz.ntmps84
  go_wp2_with((with_reducible show wpList _ _ _ (⟨_,.load 37 (.tmp 1),_,_,_,_⟩::_) _ _);refine wpList_load_any rfl 37 (.tmp 1) rfl _ rfl _ HLI.out ?_)
  refine(HR.out _ HK0.out).mono ?_;rintro e w1 ⟨rfl,hk1⟩
  have HK1:=Lib.hid (HK0.out.trans' hk1)
  clear hk1
  go_wp2_with fail
  go_ret
  exact⟨rfl,HK1.out⟩
def entX (E:List (ByteArray×Int)) (f i:Nat):Int:=if i%2=0 then ((wordV (bl (enm E (f+i/2))):Nat):Int) else eno E (f+i/2)
def entTo (E:List (ByteArray×Int)) (f j:Nat):List Int:=(List.range 8).map λi=>if i<2*j then entX E f i else 0
def entRow (E:List (ByteArray×Int)) (k:Nat):List Int:=entTo E (4*k) (min 4 (E.length-4*k))
theorem entTo_len (E:List (ByteArray×Int)) (f j:Nat):(entTo E f j).length=8:=by simp[entTo]
theorem entTo_get (E:List (ByteArray×Int)) (f j i:Nat) (h:i<8):(entTo E f j).getD i 0=if i<2*j then entX E f i else 0:=by
 rw[entTo,List.getD_eq_getElem?_getD,List.getElem?_map,List.getElem?_range h]
 rfl
theorem size_entry:(Tryz.prog.info? 85).map (·.size)=some 2:=by kernel_rfl
theorem slice_entries (g off n cap f h:Nat) (hf:f<cap) (hfh:f≤h) (hh:h≤cap) (w:World):
  (Instr.sliceAt 35 (.slice (some ⟨g,off,none⟩) n cap) (some (.int .i64 (f:Int))) (some (.int .i64 (h:Int))) none).run Tryz.prog w= .ok (.slice (some ⟨g,off+f*2,none⟩) (h-f) (cap-f)) w:=by
 have hu: Tryz.prog.underlying 35 =some (.slice (Tryz.prog.elem 35)):=by kernel_rfl
 have he: Tryz.prog.elem 35 = 85 :=by kernel_rfl
 have hs:(sizeOf 85).run Tryz.prog w= .ok 2 w:=by kernel_rfl
 rw[run_sliceAt_slice _ _ _ _ _ _ hu,run_slice_lh _ _ _ _ _ hu .i64 .i64 (f:Int) (h:Int) (by omega) (by omega) (by omega),he,hs]
 simp only[Result.andThen_ok,sliced,Int.toNat_natCast]
 rw[if_neg (by omega)]
 simp[add_plain]
theorem slice_all8 (b:Nat) (w:World):(Instr.sliceAt 74 (.pointer (some ⟨b,0,none⟩)) none none none).run Tryz.prog w= .ok (.slice (some ⟨b,0,none⟩) 8 8) w:=by show Sem.run _ _ _=_;kernel_rfl
theorem copy_reads {w:World} {b T o n cap gs:Nat} {v:Value} {dl sl:List Int} (hb:Blk w b (u64s dl).toArray T) (hs:Reads w v gs (u64s sl)) (hm:sl.length≤n) (hfit:o+sl.length≤dl.length):
  ∃r w',(∀ty,(Builtin.copy_ #[32,32] ty #[.slice (some ⟨b,o,none⟩) n cap,v]).run Tryz.prog w= .ok r w')∧Blk w' b (u64s (dl.take o++sl++dl.drop (o+sl.length))).toArray T∧Keeps [b] w w':=by
 obtain⟨a,c,rfl,h1,h2,HC⟩:=u64s_cell hs
 by_cases h0:sl.length=0
 ·obtain rfl:=List.eq_nil_of_length_eq_zero h0
  refine⟨_,w,λty=>run_copy_none (P:= Tryz.prog) w 32 32 ty 29 _ a n cap 0 c Tryz.underlying32 size_u64 (by simp),?_,Keeps.refl _ _⟩
  rw[List.append_nil,List.length_nil,Nat.add_zero,List.take_append_drop]
  exact hb
 ·obtain⟨hg,off,rfl,-⟩:=HC.out 0 (by omega)
  have hl:(u64s sl).length=min sl.length n:=by rw[u64s_len];omega
  refine⟨_,_,λty=>run_copy_row (P:= Tryz.prog) w 32 32 ty 29 b o n cap ⟨gs,off,none⟩ sl.length c (u64s dl).toArray T (u64s sl) Tryz.underlying32 size_u64 hb hl ?_ ?_ ?_,?_,(Keeps.refl _ _).setRow (by simp) _⟩
  ·intro j u hu
   have hj:j<sl.length:=by
    have :=(List.getElem?_eq_some_iff.1 hu).1
    rwa[u64s_len] at this
   obtain⟨-,off',ho',hc⟩:=HC.out j hj
   cases ho'
   rw[u64s_get hj] at hu
   rw[add_plain,hc,←hu]
  ·rw[List.size_toArray,u64s_len,u64s_len];omega
  ·exact λu hu=>u64s_one _ u hu
  ·have e:((u64s dl).toArray.toList.take o++u64s sl++(u64s dl).toArray.toList.drop (o+(u64s sl).length)).toArray=(u64s (dl.take o++sl++dl.drop (o+sl.length))).toArray:=by
    rw[u64s_len]
    simp[u64s,List.map_take,List.map_drop]
   rw[e]
   exact setRow_blk hb
theorem EReads.sub {w:World} {g off n cap:Nat} {E:List (ByteArray×Int)} (h:EReads w (.slice (some ⟨g,off,none⟩) n cap) g E) (hn:n=E.length) (f c:Nat) (hfc:f+c≤n):EReads w (.slice (some ⟨g,off+f*2,none⟩) c (cap-f)) g ((E.drop f).take c):=by
 obtain⟨a,cap',hv,h1,h2,h3⟩:=h
 cases hv
 have hl:((E.drop f).take c).length=c:=by rw[List.length_take,List.length_drop];omega
 refine⟨_,cap-f,by rw[hl],by omega,by omega,λh0=> ?_⟩
 rw[hl] at h0
 obtain⟨hg,off',ho,hc⟩:=h3 (by omega)
 cases ho
 refine⟨hg,_,rfl,λj hj=> ?_⟩
 rw[hl] at hj
 obtain⟨c0,c1⟩:=hc (f+j) (by omega)
 have e:((E.drop f).take c).getD j (ByteArray.empty,0)=E.getD (f+j) (ByteArray.empty,0):=by
  simp[List.getD_eq_getElem?_getD,hj]
 rw[show off+f*2+j*2=off+(f+j)*2 by omega,enm,eno,e]
 exact⟨c0,c1⟩
theorem ent_sub (E:List (ByteArray×Int)) (f c k:Nat) (h:k<c):enm ((E.drop f).take c) k=enm E (f+k)∧eno ((E.drop f).take c) k=eno E (f+k):=by
 have e:((E.drop f).take c).getD k (ByteArray.empty,0)=E.getD (f+k) (ByteArray.empty,0):=by
  simp[List.getD_eq_getElem?_getD,h]
 rw[enm,eno,e]
 exact⟨rfl,rfl⟩
theorem EntOk.sub {E:List (ByteArray×Int)} (h:EntOk E) (f c:Nat) (hfc:f+c≤E.length):EntOk ((E.drop f).take c):=by
 have hl:((E.drop f).take c).length=c:=by rw[List.length_take,List.length_drop];omega
 refine⟨by rw[hl];have :=h.len;omega,λk hk=> ?_,λk hk=> ?_⟩
 ·rw[hl] at hk
  rw[(ent_sub E f c k hk).1]
  exact h.size _ (by omega)
 ·rw[hl] at hk
  rw[(ent_sub E f c k hk).2]
  exact h.ino _ (by omega)
theorem entTo_words (E:List (ByteArray×Int)) (f j:Nat) (hj:j≤4) (h:f+j≤E.length):entTo E f j=wordsE ((E.drop f).take j)++List.replicate (8-2*j) 0:=by
 have hl:((E.drop f).take j).length=j:=by rw[List.length_take,List.length_drop];omega
 refine z_ext (by rw[entTo_len,List.length_append,wordsE_len,hl,List.length_replicate];omega) λi hi=> ?_
 rw[entTo_len] at hi
 rw[entTo_get _ _ _ _ hi]
 by_cases h2:i<2*j
 ·rw[if_pos h2,List.getD_eq_getElem?_getD,List.getElem?_append_left (by rw[wordsE_len,hl];omega),←List.getD_eq_getElem?_getD]
  obtain⟨w0,w1⟩:=wordsE_get ((E.drop f).take j) (i/2) (by omega)
  obtain⟨e0,e1⟩:=ent_sub E f j (i/2) (by omega)
  unfold entX
  by_cases h3:i%2=0
  ·rw[if_pos h3,←e0,←w0,show i/2*2=i by omega]
  ·rw[if_neg h3,←e1,←w1,show i/2*2+1=i by omega]
 ·rw[if_neg h2,List.getD_eq_getElem?_getD,List.getElem?_append_right (by rw[wordsE_len,hl];omega),List.getElem?_replicate]
  split<;>rfl
set_option maxRecDepth 100000 in
set_option maxHeartbeats 4000000 in
theorem entryRow_at {w:World} {v:Value} {g:Nat} {E:List (ByteArray×Int)} (hE:EReads w v g E) (ho:EntOk E) (k:Nat) (hk:4*k<E.length):
  Calls Tryz.prog 81 #[v,.int .i64 (k:Int)] w λe w'=>e= .returned (.agg (u64s (entRow E k)).toArray)∧Keeps [] w w':=by
 obtain⟨a,cap,rfl,hcap,hmax,HEC⟩:=hE.open
 obtain⟨hg,off,rfl,-,-⟩:=HEC.out _ hk
 unfold maxLen at hmax
 have hlen:=ho.len
 obtain⟨c,hc⟩:∃c,c=min 4 (E.length-4*k):=⟨_,rfl⟩
 have hc4:c≤4:=by omega
 unfold entRow
 rw[←hc]
 obtain⟨f,hf⟩:∃f,f=4*k:=⟨_,rfl⟩
 rw[←hf] at hk hc ⊢
 have hkf:(k:Int)*4=(f:Int):=by omega
 have hsl:=λwx=>slice_entries g off E.length cap f (f+c) (by omega) (by omega) (by omega) wx
 rw[show f+c-f=c by omega] at hsl
 have HSL:Hid (∀H:Int,H=(f:Int)+(c:Int)→∀wx,(Instr.sliceAt 35 (.slice (some ⟨g,off,none⟩) E.length cap) (some (.int .i64 (f:Int))) (some (.int .i64 H)) none).run Tryz.prog wx= .ok (.slice (some ⟨g,off+f*2,none⟩) c (cap-f)) wx):=λH hH wx=>by
  have :=hsl wx
  rw[show((f+c:Nat):Int)=H by omega] at this
  exact this
 have hzv:=zero_r8
 obtain⟨H,hH,hHc⟩:∃H:Int,H=(f:Int)+(c:Int)∧((((f:Int)+4≤(E.length:Int))∧H=(f:Int)+4)∨((E.length:Int)<(f:Int)+4∧H=(E.length:Int))):=⟨_,rfl,by omega⟩
 have hs2:=HSL.out H hH
 have hfc:f+c≤E.length:=by omega
 have HSUB:=Lib.hid (hE.sub rfl f c hfc)
 have HOKS:=Lib.hid (ho.sub f c hfc)
 have HTW:=Lib.hid (entTo_words E f c hc4 hfc)
 have HWL:Hid ((wordsE ((E.drop f).take c)).length=2*c):=by
  show _=_
  rw[wordsE_len,List.length_take,List.length_drop]
  omega
 have HTL:=Lib.hid (entTo_len E f c)
 have HENT:Hid (∀wx,Keeps [] w wx→Calls Tryz.prog 97 #[.slice (some ⟨g,off+f*2,none⟩) c (cap-f)] wx (MadeWords wx (wordsE ((E.drop f).take c)))):=λwx hk=>rowEntries_at (HSUB.out.keep hk (by simp)) HOKS.out
 generalize wordsE ((E.drop f).take c)=WE at *
 have hsa:=slice_all8 (w.heap.size+1)
 obtain⟨W0,hW0⟩:∃W0,W0=(w.alloc (.cells (u64s (List.replicate 8 0)).toArray 74)).alloc (.cells (u64s (List.replicate 8 0)).toArray 74):=⟨_,rfl⟩
 have HB1:Hid (Blk W0 (w.heap.size+1) (u64s (List.replicate 8 0)).toArray 74):=by
  have :=Blk.new (w.alloc (.cells (u64s (List.replicate 8 0)).toArray 74)) (u64s (List.replicate 8 0)).toArray 74
  have e:(w.alloc (.cells (u64s (List.replicate 8 0)).toArray 74)).heap.size=w.heap.size+1:=by simp
  rw[e,←hW0] at this
  exact this
 have HB2:Hid (Blk W0 w.heap.size (u64s (List.replicate 8 0)).toArray 74):=by
  rw[hW0]
  exact(Blk.new w _ _).alloc _
 have HK:Hid (Keeps [] w W0):=by
  rw[hW0]
  exact((Keeps.refl _ _).alloc _).alloc _
 have HW0:=Lib.hid hW0
 clear hE ho hsl HSL hf hc hW0 HSUB HOKS hs2
 generalize hz8:(u64s (List.replicate 8 0)).toArray=Z8 at *
 have HB1u:Hid (∀wx,Keeps [] W0 wx→Blk wx (w.heap.size+1) (u64s (List.replicate 8 0)).toArray 74):=λwx hk=>by rw[hz8];exact HB1.out.keep hk (by simp)
 have HZ8:Hid (Z8.size=8):=by rw[←hz8];rfl
 clear hz8 HB1
 generalize E.length=n at *
 rcases hHc with ⟨hH1,rfl⟩|⟨hH1,rfl⟩
 ·obtain rfl:c=4:=by omega
  have hwf:IntKind.i64.wrap ((f:Int)+4)=(f:Int)+4:=IntWalk.i64_in _ (by omega)
  have h1:(0:Int)≤(f:Int)+4:=by omega
  have h2:(f:Int)+4≤(cap:Int):=by omega
  have h3:((f:Int)+4).toNat=f+4:=by omega
  have h4:¬cap=f:=by omega
  clear hH hfc
  go_enter Tryz.func81,Tryz.ntmps81
  go_wp2_with fail
  rw[←HW0.out]
  go_region_with (go_at_call 97;refine(HENT.out _ HK.out.drew).mono ?_;rintro e w1 ⟨v1,g1,rfl,hr1,hg1,hk1⟩;obtain⟨vc,w2,hcp,hb2,hk2⟩:=copy_reads (o:=0) (n:=8) (cap:=8) (HB1u.out _ ((Keeps.refl _ _).drew.trans' hk1)) hr1 (by have :=HWL.out;omega) (by rw[List.length_replicate];have :=HWL.out;omega);(have hcp':=hcp 3);obtain⟨a1,c1,rfl,-,-,-⟩:=u64s_cell hr1)
  have hrow:(List.replicate 8 (0:Int)).take 0++WE++(List.replicate 8 (0:Int)).drop (0+WE.length)=entTo E f 4:=by
   rw[HTW.out,HWL.out,List.take_zero,List.nil_append,Nat.zero_add,List.drop_replicate]
  rw[hrow] at hb2
  have HL:=Lib.hid (load_r8 hb2 HTL.out)
  have hres:Blk w2 w.heap.size Z8 74 :=(HB2.out.drew.keep hk1 (by simp)).keep hk2 (by simp)
  obtain⟨w3,hS,hb4,hk3⟩:=store_whole (P:= Tryz.prog) (ty:= 74) (cs:=u64s (entTo E f 4)) (by rw[u64s_len,HTL.out];exact size_r8) hres (by rw[HZ8.out,u64s_len,HTL.out]) (u64s_one _)
  have HS:=Lib.hid hS
  have HL2:=Lib.hid (load_r8 hb4 HTL.out)
  have HKP:Hid (Keeps [] w w3):=(((HK.out.drew.trans' hk1).trans hk2 (by intro x hx;rw[List.mem_singleton] at hx;omega))).trans hk3 (by intro x hx;rw[List.mem_singleton] at hx;omega)
  clear hrow hb2 hres hS hb4 hk3 hcp hcp' hk1 hk2 hg1 hr1
  go_wp2_with(first|((with_reducible show wpList _ _ _ (⟨_,.load 74 (.tmp 5),_,_,_,_⟩::_) _ _);refine wpList_load_any rfl 74 (.tmp 5) rfl _ rfl _ HL.out ?_)|((with_reducible show wpList _ _ _ (⟨_,.store 74 (.tmp 4) (.tmp 20),_,_,_,_⟩::_) _ _);refine wpList_store_any rfl 74 (.tmp 4) (.tmp 20) rfl _ rfl _ rfl _ HS.out ?_))
  exact bodyPost_ret (results_cell Tryz.results81 rfl HL2.out) rfl ⟨rfl,HKP.out⟩
 ·have hwf:IntKind.i64.wrap ((f:Int)+4)=(f:Int)+4:=IntWalk.i64_in _ (by omega)
  have h2:n≤cap:=by omega
  have h3:f≤n:=by omega
  have h4:¬cap=f:=by omega
  have h5:n-f=c:=by omega
  clear hH hfc
  go_enter Tryz.func81,Tryz.ntmps81
  go_wp2_with fail
  rw[←HW0.out]
  go_region_with (go_at_call 97;refine(HENT.out _ HK.out.drew).mono ?_;rintro e w1 ⟨v1,g1,rfl,hr1,hg1,hk1⟩;obtain⟨vc,w2,hcp,hb2,hk2⟩:=copy_reads (o:=0) (n:=8) (cap:=8) (HB1u.out _ ((Keeps.refl _ _).drew.trans' hk1)) hr1 (by have :=HWL.out;omega) (by rw[List.length_replicate];have :=HWL.out;omega);(have hcp':=hcp 3);obtain⟨a1,c1,rfl,-,-,-⟩:=u64s_cell hr1)
  have hrow:(List.replicate 8 (0:Int)).take 0++WE++(List.replicate 8 (0:Int)).drop (0+WE.length)=entTo E f c:=by
   rw[HTW.out,HWL.out,List.take_zero,List.nil_append,Nat.zero_add,List.drop_replicate]
  rw[hrow] at hb2
  have HL:=Lib.hid (load_r8 hb2 HTL.out)
  have hres:Blk w2 w.heap.size Z8 74 :=(HB2.out.drew.keep hk1 (by simp)).keep hk2 (by simp)
  obtain⟨w3,hS,hb4,hk3⟩:=store_whole (P:= Tryz.prog) (ty:= 74) (cs:=u64s (entTo E f c)) (by rw[u64s_len,HTL.out];exact size_r8) hres (by rw[HZ8.out,u64s_len,HTL.out]) (u64s_one _)
  have HS:=Lib.hid hS
  have HL2:=Lib.hid (load_r8 hb4 HTL.out)
  have HKP:Hid (Keeps [] w w3):=(((HK.out.drew.trans' hk1).trans hk2 (by intro x hx;rw[List.mem_singleton] at hx;omega))).trans hk3 (by intro x hx;rw[List.mem_singleton] at hx;omega)
  clear hrow hb2 hres hS hb4 hk3 hcp hcp' hk1 hk2 hg1 hr1
  go_wp2_with(first|((with_reducible show wpList _ _ _ (⟨_,.load 74 (.tmp 5),_,_,_,_⟩::_) _ _);refine wpList_load_any rfl 74 (.tmp 5) rfl _ rfl _ HL.out ?_)|((with_reducible show wpList _ _ _ (⟨_,.store 74 (.tmp 4) (.tmp 20),_,_,_,_⟩::_) _ _);refine wpList_store_any rfl 74 (.tmp 4) (.tmp 20) rfl _ rfl _ rfl _ HS.out ?_))
  exact bodyPost_ret (results_cell Tryz.results81 rfl HL2.out) rfl ⟨rfl,HKP.out⟩
def rowL (X:List Int) (p:Nat):List Int:=(List.range 8).map λj=>X.getD (p+j) 0
theorem rowL_len (X:List Int) (p:Nat):(rowL X p).length=8:=by simp[rowL]
theorem rowL_get (X:List Int) (p k:Nat) (h:k<8):(rowL X p).getD k 0=X.getD (p+k) 0:=by
 rw[rowL,List.getD_eq_getElem?_getD,List.getElem?_map,List.getElem?_range h]
 rfl
def rowPs (p:Nat) (l:List Int) (k:Nat):List (Int×Int):=(List.range k).map λj=>(((p+j:Nat):Int),l.getD j 0)
theorem rowPs_succ (p:Nat) (l:List Int) (k:Nat):rowPs p l (k+1)=rowPs p l k++[(((p+k:Nat):Int),l.getD k 0)]:=by
 unfold rowPs
 rw[List.range_succ,List.map_append]
 rfl
theorem rowPs_len (p:Nat) (l:List Int) (k:Nat):(rowPs p l k).length=k:=by simp[rowPs]
set_option maxRecDepth 100000 in
set_option maxHeartbeats 4000000 in
theorem rowAt_at {w:World} {b gp:Nat} {B:List Int} {ps:List (Int×Int)} (h:ShAt w b gp B ps) (p:Nat) (hp:p+8≤3128):
  Calls Tryz.prog 27 #[.pointer (some ⟨b,0,none⟩),.int .i64 (p:Int)] w λe w'=>e= .returned (.agg (u64s (rowL (putAll B ps) p)).toArray)∧Keeps [] w w':=by
 have HSH:=Lib.hid h
 have hd8:=rowL_len (putAll B ps) p
 have HGET:Hid (∀(k:Nat) wx,k<8→Keeps [] w wx→Calls Tryz.prog 15 #[.pointer (some ⟨b,0,none⟩),.int .i64 ((p:Int)+(k:Int))] wx λe w'=>e= .returned (.int .u64 ((rowL (putAll B ps) p).getD k 0))∧wx=w'):=λk wx hk hkp=>by
  have :=txGet_at (HSH.out.keep hkp (by simp) (by simp)) ((p:Int)+(k:Int))
  unfold getN at this
  rw[if_pos (by omega),show((p:Int)+(k:Int)).toNat=p+k by omega,←rowL_get _ p k hk] at this
  exact this
 have HZ8:(u64s (List.replicate 8 0)).toArray=(u64s (fillTo 0 (rowL (putAll B ps) p) 0)).toArray:=by rw[fillTo_zero,hd8]
 clear h
 generalize rowL (putAll B ps) p=d at *
 obtain⟨w0,hw0⟩:∃w0,w0=(w.alloc (.cells (u64s (List.replicate 8 0)).toArray 74)).alloc (.cells (u64s (List.replicate 8 0)).toArray 74):=⟨_,rfl⟩
 have HB2:Hid (Blk w0 w.heap.size (u64s (List.replicate 8 0)).toArray 74):=by
  have :=(Blk.new w (u64s (List.replicate 8 0)).toArray 74).alloc (.cells (u64s (List.replicate 8 0)).toArray 74)
  rw[←hw0] at this
  exact this
 have HB3:Hid (Blk w0 (w.heap.size+1) (u64s (fillTo 0 d 0)).toArray 74):=by
  have :=Blk.new (w.alloc (.cells (u64s (List.replicate 8 0)).toArray 74)) (u64s (List.replicate 8 0)).toArray 74
  have e:(w.alloc (.cells (u64s (List.replicate 8 0)).toArray 74)).heap.size=w.heap.size+1:=by simp
  rw[e,←hw0,HZ8] at this
  exact this
 have HK:Hid (Keeps [] w w0):=by
  show Keeps _ _ _
  rw[hw0]
  exact((Keeps.refl [] w).alloc _).alloc _
 have hzv:=zero_r8
 clear HZ8 HSH
 generalize hz8:(u64s (List.replicate 8 0)).toArray=Z8 at *
 go_enter Tryz.func27,Tryz.ntmps27
 go_wp2_with fail
 rw[←hw0]
 go_loopg [7] 8 (λgh s7 wx=>∃k:Nat,k+gh=8∧s7= .int .i64 (k:Int)∧Hid (Blk wx (w.heap.size+1) (u64s (fillTo 0 d k)).toArray 74∧Blk wx w.heap.size Z8 74∧Keeps [] w wx))
 case atStart=>exact⟨0,by omega,rfl,HB3.out,HB2.out,HK.out⟩
 case round=>
  clear HB2 HB3 HK hzv hw0
  obtain⟨k,hk,rfl,HP⟩:=hrel
  cases gk with
  |zero=>
   obtain rfl:k=8:=by omega
   have hb3:=HP.out.1
   rw[show fillTo 0 d 8=d by rw[←hd8];exact fillTo_all 0 d] at hb3
   have HL:=Lib.hid (load_r8 hb3 hd8)
   obtain⟨w2,hS,hb4,hk2⟩:=store_whole (P:= Tryz.prog) (ty:= 74) (cs:=u64s d) (by rw[u64s_len,hd8];exact size_r8) HP.out.2.1 (by rw[←hz8];simp[u64s_len,hd8]) (u64s_one _)
   have HS:=Lib.hid hS
   have HL2:=Lib.hid (load_r8 hb4 hd8)
   have HKP:=Lib.hid (HP.out.2.2.trans hk2 (by simp))
   clear hS hb3 hb4 hk2 HP hk
   go_wp2_with(first|((with_reducible show wpList _ _ _ (⟨_,.load 74 (.tmp 5),_,_,_,_⟩::_) _ _);refine wpList_load_any rfl 74 (.tmp 5) rfl _ rfl _ HL.out ?_)|((with_reducible show wpList _ _ _ (⟨_,.store 74 (.tmp 4) (.tmp 18),_,_,_,_⟩::_) _ _);refine wpList_store_any rfl 74 (.tmp 4) (.tmp 18) rfl _ rfl _ rfl _ HS.out ?_))
   exact bodyPost_ret (results_cell Tryz.results27 rfl HL2.out) rfl ⟨rfl,HKP.out⟩
  |succ gg=>
   have hk8:k<8:=by omega
   have hlt:(k:Int)<8:=by omega
   have hk0:(0:Int)≤(k:Int):=by omega
   have HC:=Lib.hid (HGET.out k wr hk8 HP.out.2.2)
   have hcell:wr.cell? ⟨w.heap.size+1,k,none⟩=some (.int .u64 ((fillTo 0 d k).getD k 0)):=by
    rw[HP.out.1.cell,List.getElem?_toArray,u64s_get (by rw[fillTo_len _ _ _ (by omega)];omega)]
   have hf:wr.frozen? ⟨w.heap.size+1,k,none⟩=false:=HP.out.1.frozen k
   have HB:Hid (Blk (wr.setCell ⟨w.heap.size+1,k,none⟩ (.int .u64 (d.getD k 0))) (w.heap.size+1) (u64s (fillTo 0 d (k+1))).toArray 74):=by
    have :=HP.out.1.set k (.int .u64 (d.getD k 0))
    rw[List.setIfInBounds_toArray,u64s_set,fillTo_succ 0 d k (by omega) (d.getD k 0) (by simp[List.getD_eq_getElem?_getD,show k<d.length by omega])] at this
    exact this
   have HB':Hid (Blk (wr.setCell ⟨w.heap.size+1,k,none⟩ (.int .u64 (d.getD k 0))) w.heap.size Z8 74):=HP.out.2.1.other (by simp) _
   have HKP:=Lib.hid HP.out.2.2
   clear HP
   generalize d.getD k 0=x at *
   generalize (fillTo 0 d k).getD k 0=y at *
   go_wp2_with fail
   refine HC.out.mono ?_;rintro e w' ⟨rfl,rfl⟩
   go_wp2_with fail
   go_roundg gg
   case measure=>omega
   case rel=>exact⟨k+1,by omega,by go_num,HB.out,HB'.out,HKP.out.setCell (by simp) _⟩
set_option maxRecDepth 100000 in
set_option maxHeartbeats 4000000 in
theorem putRow_at {w:World} {b gp:Nat} {B:List Int} {ps:List (Int×Int)} (h:ShAt w b gp B ps) (hn:ps.length≤900000) (p:Nat) (hp:p+8≤3128) (l:List Int) (hl:l.length=8):
  Calls Tryz.prog 79 #[.pointer (some ⟨b,0,none⟩),.int .i64 (p:Int),.agg (u64s l).toArray] w (PutPost w b gp B (ps++rowPs p l 8)):=by
 have HL:Hid ((loadVar 74 ⟨w.heap.size,0,none⟩).run Tryz.prog (w.alloc (.cells (u64s l).toArray 74))= .ok (.agg (u64s l).toArray) (w.alloc (.cells (u64s l).toArray 74))):=load_r8 (Blk.new w _ _) hl
 have HX:Hid (∀k,k<8→(u64s l).toArray[k]? =some (.int .u64 (l.getD k 0))):=λk hk=>by rw[List.getElem?_toArray,u64s_get (by omega)]
 have HK0:Hid (Keeps [b,gp] w (w.alloc (.cells (u64s l).toArray 74))):=(Keeps.refl _ w).alloc _
 have HSH:=Lib.hid (h.keep ((Keeps.refl [] w).alloc (.cells (u64s l).toArray 74)) (by simp) (by simp))
 clear h
 generalize (u64s l).toArray=Z at *
 go_enter Tryz.func79,Tryz.ntmps79
 go_wp2_with((with_reducible show wpList _ _ _ (⟨_,.load 74 (.tmp 5),_,_,_,_⟩::_) _ _);refine wpList_load_any rfl 74 (.tmp 5) rfl _ rfl _ HL.out ?_)
 go_loopg [9] 8 (λgh s9 wx=>∃k:Nat,k+gh=8∧s9= .int .i64 (k:Int)∧Hid (∃gp',(gp'=gp∨(w.heap.size≤gp'∧gp'<wx.heap.size))∧ShAt wx b gp' B (ps++rowPs p l k)∧Keeps [b,gp] w wx))
 case atStart=>exact⟨0,by omega,rfl,gp,.inl rfl,by rw[show rowPs p l 0=[] from rfl,List.append_nil];exact HSH.out,HK0.out⟩
 case round=>
  clear HSH HK0 HL
  obtain⟨k,hk,rfl,HP⟩:=hrel
  obtain⟨gp',hgp,hsh,hkp⟩:=HP.out
  cases gk with
  |zero=>
   obtain rfl:k=8:=by omega
   have HE:Hid (PutPost w b gp B (ps++rowPs p l 8) (.returned (.tuple #[])) wr):=⟨rfl,gp',hgp,hsh,hkp⟩
   clear HP hgp hsh hkp hk
   go_wp2_with fail
   go_end0
   exact HE.out
  |succ gg=>
   have hk8:k<8:=by omega
   have hlt:(k:Int)<8:=by omega
   have hk0:(0:Int)≤(k:Int):=by omega
   have hix:=index_r8 hk8 (HX.out k hk8)
   have hput:putN (ps++rowPs p l k) ((p:Int)+(k:Int)) (l.getD k 0)=ps++rowPs p l (k+1):=by
    rw[putN,if_pos (by rw[inB_iff];omega),rowPs_succ,List.append_assoc,Int.natCast_add]
   have HC:=txPut_at hsh (by rw[List.length_append,rowPs_len];omega) ((p:Int)+(k:Int)) (l.getD k 0)
   rw[hput] at HC
   have HC:=Lib.hid HC
   have HG:=Lib.hid hgp
   have HKP:=Lib.hid hkp
   clear HP hgp hsh hkp hput
   generalize l.getD k 0=x at *
   go_wp2_with fail
   refine HC.out.mono ?_;rintro e w2 ⟨rfl,gp2,hg2,hs2,hk2⟩
   have HR:Hid (∃gp',(gp'=gp∨(w.heap.size≤gp'∧gp'<w2.heap.size))∧ShAt w2 b gp' B (ps++rowPs p l (k+1))∧Keeps [b,gp] w w2):=by
    have hsz:=HKP.out.size
    have hsz2:=hk2.size
    refine⟨gp2,?_,hs2,HKP.out.trans hk2 λx hx=> ?_⟩
    ·rcases HG.out with h|h<;>rcases hg2 with h2|h2<;>omega
    ·simp only[List.mem_cons,List.not_mem_nil,or_false] at hx ⊢
     rcases HG.out with h|h<;>omega
   clear hg2 hs2 hk2
   go_wp2_with fail
   go_roundg gg
   case measure=>omega
   case rel=>exact⟨k+1,by omega,by go_num,HR.out⟩
def entAt (l:List Int) (e:Nat):Nat:=1080+8*(l.getD (e/4) 0).toNat+2*(e%4)
def entW (X l:List Int) (e:Nat):Nat:=(X.getD (entAt l e) 0).toNat
def entI (X l:List Int) (e:Nat):Int:=X.getD (entAt l e+1) 0
def entsE (X l:List Int) (m:Nat):List (ByteArray×Int):=(List.range m).map λe=>(strN ((nameN (entW X l e)).getD []),entI X l e)
theorem entsE_len (X l:List Int) (m:Nat):(entsE X l m).length=m:=by simp[entsE]
theorem entsE_get (X l:List Int) (m e:Nat) (h:e<m):enm (entsE X l m) e=strN ((nameN (entW X l e)).getD [])∧eno (entsE X l m) e=entI X l e:=by
 have :(entsE X l m).getD e (ByteArray.empty,0)=(strN ((nameN (entW X l e)).getD []),entI X l e):=by
  rw[entsE,List.getD_eq_getElem?_getD,List.getElem?_map,List.getElem?_range h]
  rfl
 rw[enm,eno,this]
 exact⟨rfl,rfl⟩
theorem take_ent (E:List (ByteArray×Int)) (n e:Nat) (h:e<n):enm (E.take n) e=enm E e∧eno (E.take n) e=eno E e:=by
 have :(E.take n).getD e (ByteArray.empty,0)=E.getD e (ByteArray.empty,0):=by simp[List.getD_eq_getElem?_getD,h]
 rw[enm,eno,this]
 exact⟨rfl,rfl⟩
theorem entRow_take (E:List (ByteArray×Int)) (k c:Nat) (hc:c=min 4 (E.length-4*k)) (hk:4*k<E.length):entRow (E.take (4*k+c)) k=entRow E k:=by
 unfold entRow
 rw[List.length_take,show min 4 (min (4*k+c) E.length-4*k)=c by omega,←hc]
 refine z_ext (by rw[entTo_len,entTo_len]) λi hi=> ?_
 rw[entTo_len] at hi
 rw[entTo_get _ _ _ _ hi,entTo_get _ _ _ _ hi]
 by_cases h:i<2*c
 ·rw[if_pos h,if_pos h]
  obtain⟨h1,h2⟩:=take_ent E (4*k+c) (4*k+i/2) (by omega)
  rw[entX,entX,h1,h2]
 ·rw[if_neg h,if_neg h]
def BlkOk (X l:List Int) (m k:Nat):Prop:=
 l.getD k 0≠0∧(∀j,j<min 4 (m-4*k)→(nameN (entW X l (4*k+j))).isSome=true∧entI X l (4*k+j)<32)∧entRow (entsE X l m) k=rowL X (1080+8*(l.getD k 0).toNat)
def EntsOk (X l:List Int) (m:Nat):Prop:=m≤24∧l=uptoL l (blocksN m)∧∀k,k<blocksN m→BlkOk X l m k
theorem ent_place (l:List Int) (k j:Nat) (hj:j<4):entAt l (4*k+j)=1080+8*(l.getD k 0).toNat+2*j:=by
 rw[entAt,show(4*k+j)/4=k by omega,show(4*k+j)%4=j by omega]
theorem nameN_some {W:Nat} {l:List Nat} (h:nameN W=some l):l.length≤7∧(∀c∈l,c<256)∧goodN l=true∧wordN l=W:=by
 unfold nameN at h
 split at h
 ·rename_i hc
  cases h
  exact⟨by rw[List.length_take];omega,λc hc'=>byts_lt W c (List.mem_of_mem_take hc'),hc.2.1,hc.2.2⟩
 ·cases h
theorem name_size (W:Nat):(strN ((nameN W).getD [])).size≤7:=by
 rw[strN_size]
 cases h:nameN W with
 |none=>simp
 |some l=>exact(nameN_some h).1
theorem copy_words {w:World} {b T o n cap gs Ts so m mc:Nat} {dl sl:List Int} (hb:Blk w b (u64s dl).toArray T) (hs:Blk w gs (u64s sl).toArray Ts) (hm:m≤n) (hfit:o+m≤dl.length) (hsl:so+m≤sl.length):
  ∃v w',(∀ty,(Builtin.copy_ #[32,32] ty #[.slice (some ⟨b,o,none⟩) n cap,.slice (some ⟨gs,so,none⟩) m mc]).run Tryz.prog w= .ok v w')∧Blk w' b (u64s (dl.take o++(sl.drop so).take m++dl.drop (o+m))).toArray T∧Keeps [b] w w':=by
 have hl:(u64s ((sl.drop so).take m)).length=min m n:=by rw[u64s_len,List.length_take,List.length_drop];omega
 refine⟨_,_,λty=>run_copy_row (P:= Tryz.prog) w 32 32 ty 29 b o n cap ⟨gs,so,none⟩ m mc (u64s dl).toArray T (u64s ((sl.drop so).take m)) Tryz.underlying32 size_u64 hb hl ?_ ?_ ?_,?_,(Keeps.refl _ _).setRow (by simp) _⟩
 ·intro j u hu
  have hj:j<m:=by
   have :=(List.getElem?_eq_some_iff.1 hu).1
   rw[hl] at this
   omega
  rw[u64s_get (by rw[List.length_take,List.length_drop];omega)] at hu
  rw[add_plain,hs.cell,List.getElem?_toArray,u64s_get (by omega),←hu]
  simp[List.getD_eq_getElem?_getD,hj]
 ·rw[hl,List.size_toArray,u64s_len];omega
 ·exact λu hu=>u64s_one _ u hu
 ·have e:((u64s dl).toArray.toList.take o++u64s ((sl.drop so).take m)++(u64s dl).toArray.toList.drop (o+(u64s ((sl.drop so).take m)).length)).toArray=(u64s (dl.take o++(sl.drop so).take m++dl.drop (o+m))).toArray:=by
   rw[hl,Nat.min_eq_left hm]
   simp[u64s,List.map_take,List.map_drop]
  rw[e]
  exact setRow_blk hb
theorem slice_all13 (b:Nat) (w:World):(Instr.sliceAt 137 (.pointer (some ⟨b,0,none⟩)) none none none).run Tryz.prog w= .ok (.slice (some ⟨b,0,none⟩) 13 13) w:=by show Sem.run _ _ _=_;kernel_rfl
theorem slice_five13 (b:Nat) (w:World):(Instr.sliceAt 137 (.pointer (some ⟨b,0,none⟩)) (some (.int .i64 5)) none none).run Tryz.prog w= .ok (.slice (some ⟨b,5,none⟩) 8 8) w:=by show Sem.run _ _ _=_;kernel_rfl
theorem slice_mid8 (b:Nat) (w:World):(Instr.sliceAt 74 (.pointer (some ⟨b,0,none⟩)) (some (.int .i64 2)) (some (.int .i64 7)) none).run Tryz.prog w= .ok (.slice (some ⟨b,2,none⟩) 5 6) w:=by show Sem.run _ _ _=_;kernel_rfl
def numAll (X r:List Int):List Int:=(r.drop 2).take 5++(if r.getD 7 0=0 then List.replicate 8 0 else rowL X (1080+8*(r.getD 7 0).toNat))
def NumOk (X r:List Int):Prop:=r.getD 7 0<256∧(∀k,k<13→(numAll X r).getD k 0<256)∧(r.getD 7 0=0∨(numAll X r).drop 5≠List.replicate 8 0)
instance (X r:List Int):Decidable (NumOk X r):=by unfold NumOk;infer_instance
theorem numAll_len {X r:List Int} (hr:r.length=8):(numAll X r).length=13:=by
 unfold numAll
 split
 ·simp[hr]
 ·simp[hr,rowL_len]
theorem second_cells (f row:List Int) (hf:f.length=5) (hr:row.length=8):(f++List.replicate 8 (0:Int)).take 5++(row.drop 0).take 8++(f++List.replicate 8 (0:Int)).drop (5+8)=f++row:=by
 rw[List.take_left' hf,List.drop_zero,List.take_of_length_le (by omega),List.drop_of_length_le (by simp[hf]),List.append_nil]
def NumPost (w:World) (X r:List Int) (e:Ending) (w':World):Prop:=
 ∃la li ok,e= .returned (.tuple #[.agg (zs la).toArray,.int .i64 li,.bool ok])∧(ok=true→NumOk X r∧la=numAll X r∧li=r.getD 7 0)∧(ok=false→¬NumOk X r)∧la.length=13∧Keeps [] w w'
set_option maxRecDepth 100000 in
set_option maxHeartbeats 4000000 in
theorem numbersOf_at {w:World} {b gp:Nat} {B:List Int} {ps:List (Int×Int)} (h:ShAt w b gp B ps) (h64:In64 (putAll B ps)) (r:List Int) (hr:r.length=8) (hr64:In64 r):
  Calls Tryz.prog 73 #[.pointer (some ⟨b,0,none⟩),.agg (u64s r).toArray] w (NumPost w (putAll B ps) r):=by
 have HS:=Lib.hid h
 have H64:=Lib.hid h64
 have HR64:=Lib.hid hr64
 have hzn:=zero_n13
 have hzr:=zero_r13
 -- the world behind the three variables
 have hb0:=((Blk.new w (u64s r).toArray 74).alloc (.cells (zs (List.replicate 13 0)).toArray 34)).alloc (.cells (u64s (List.replicate 13 0)).toArray 137)
 have hb1:=(Blk.new (w.alloc (.cells (u64s r).toArray 74)) (zs (List.replicate 13 0)).toArray 34).alloc (.cells (u64s (List.replicate 13 0)).toArray 137)
 have hb2:=Blk.new ((w.alloc (.cells (u64s r).toArray 74)).alloc (.cells (zs (List.replicate 13 0)).toArray 34)) (u64s (List.replicate 13 0)).toArray 137
 rw[show(w.alloc (.cells (u64s r).toArray 74)).heap.size=w.heap.size+1 by simp] at hb1
 rw[show((w.alloc (.cells (u64s r).toArray 74)).alloc (.cells (zs (List.replicate 13 0)).toArray 34)).heap.size=w.heap.size+1+1 by simp] at hb2
 obtain⟨v1,w1,hcp,hbc,hkc⟩:=copy_words (o:=0) (n:=13) (cap:=13) (so:=2) (m:=5) (mc:=6) hb2.drew hb0.drew (by omega) (by simp) (by omega)
 have hk1:Keeps [] w w1:=(((((Keeps.refl [] w).alloc _).alloc _).alloc _).drew).trans hkc (by intro x hx;rw[List.mem_singleton] at hx;omega)
 have hb01:=hb0.drew.keep hkc (by rw[List.mem_singleton];omega)
 have hb11:=hb1.drew.keep hkc (by rw[List.mem_singleton];omega)
 have hfirst:(List.replicate 13 (0:Int)).take 0++(r.drop 2).take 5++(List.replicate 13 (0:Int)).drop (0+5)=(r.drop 2).take 5++List.replicate 8 0:=by simp
 rw[hfirst] at hbc
 have HCP:=Lib.hid hcp
 have HBC:=Lib.hid hbc
 have HB0:=Lib.hid hb01
 have HB1:=Lib.hid hb11
 have HK1:=Lib.hid hk1
 have hs13:=slice_all13 (w.heap.size+1+1)
 have hs8:=slice_mid8 w.heap.size
 have c7:w1.cell? ⟨w.heap.size,7,none⟩=some (.int .u64 (r.getD 7 0)):=by rw[hb01.cell,List.getElem?_toArray,u64s_get (by omega)]
 have HALL:Hid (numAll (putAll B ps) r=(r.drop 2).take 5++(if r.getD 7 0=0 then List.replicate 8 0 else rowL (putAll B ps) (1080+8*(r.getD 7 0).toNat))):=rfl
 have HAL:=Lib.hid (numAll_len (X:=putAll B ps) hr)
 have HNO:Hid (NumOk (putAll B ps) r↔r.getD 7 0<256∧(∀k,k<13→(numAll (putAll B ps) r).getD k 0<256)∧(r.getD 7 0=0∨(numAll (putAll B ps) r).drop 5≠List.replicate 8 0)):=Iff.rfl
 have HA64:Hid (In64 (numAll (putAll B ps) r)):=by
  intro i
  have e:numAll (putAll B ps) r=(r.drop 2).take 5++(if r.getD 7 0=0 then List.replicate 8 0 else rowL (putAll B ps) (1080+8*(r.getD 7 0).toNat)):=rfl
  by_cases hi:i<5
  ·have :(numAll (putAll B ps) r).getD i 0=r.getD (2+i) 0:=by
    rw[e]
    simp only[List.getD_eq_getElem?_getD]
    rw[List.getElem?_append_left (by simp[hr];omega),List.getElem?_take,if_pos hi,List.getElem?_drop]
   rw[this]
   exact hr64 _
  ·have h2:(numAll (putAll B ps) r).getD i 0=(if r.getD 7 0=0 then List.replicate 8 0 else rowL (putAll B ps) (1080+8*(r.getD 7 0).toNat)).getD (i-5) 0:=by
    rw[e]
    simp only[List.getD_eq_getElem?_getD]
    rw[List.getElem?_append_right (by simp[hr];omega)]
    simp[hr]
   rw[h2]
   split
   ·rw[List.getD_eq_getElem?_getD,List.getElem?_replicate]
    split<;>simp
   ·by_cases h8:i-5<8
    ·rw[rowL_get _ _ _ h8]
     exact h64 _
    ·rw[List.getD_eq_getElem?_getD,List.getElem?_eq_none (by rw[rowL_len];omega)]
     simp
 have hli:=hr64 7
 clear hb0 hb1 hb2 hcp hbc hkc hk1 hb01 hb11 h h64 hr64 hfirst
 generalize hzl:r.getD 7 0=li at *
 have HZL:=Lib.hid hzl
 clear hzl
 generalize (u64s r).toArray=Z at *
 generalize hzz:(zs (List.replicate 13 0)).toArray=ZN at *
 have HZZ:=Lib.hid hzz
 clear hzz
 generalize (u64s (List.replicate 13 0)).toArray=ZR at *
 have HSZ:Hid (∀wx,Blk wx (w.heap.size+1) ZN 34→∃w',(storeVar 34 ⟨w.heap.size+1,0,none⟩ (.agg ZN)).run Tryz.prog wx= .ok () w'∧(loadVar 34 ⟨w.heap.size+1,0,none⟩).run Tryz.prog w'= .ok (.agg ZN) w'∧Keeps [w.heap.size+1] wx w'):=λwx hb=>by
  have hz:=HZZ.out
  obtain⟨w',h1,h2,h3⟩:=store_whole (P:= Tryz.prog) (ty:= 34) (cs:=zs (List.replicate 13 0)) (by rw[zs_len];exact size_n13) hb (by rw[←hz];simp) (zs_one _)
  have h4:=load_n13 (l:=List.replicate 13 0) (off:=0) h2 (by simp) (λk hk=>by rw[Nat.zero_add,List.getElem?_toArray,zs_get (by simpa using hk)])
  rw[hz] at h1 h4
  exact⟨w',h1,h4,h3⟩
 by_cases hbig:256≤li
 ·have HF:Hid (¬NumOk (putAll B ps) r):=λh=>by have :=(HNO.out.1 h).1;omega
  obtain⟨w2,hst,hld,hk2⟩:=HSZ.out w1 HB1.out
  have HST:=Lib.hid hst
  have HLD:=Lib.hid hld
  have HK2:=Lib.hid (HK1.out.trans hk2 (by simp))
  clear hst hld hk2 HALL HNO HA64
  go_enter Tryz.func73,Tryz.ntmps73
  go_wp2_with fail
  refine wp_region_last (l:=[_,_]) (o:=_) (S:=λwx=>wx=(((w.alloc (.cells Z 74)).alloc (.cells ZN 34)).alloc (.cells ZR 137)).drew) (by kernel_rfl) rfl (by kernel_rfl) (λd _ _ _ _ h=>by cases d<;>exact h) rfl (by kernel_rfl) (by kernel_rfl) ?_
  repeat (refine EachList.cons ?_ (EachIf.val rfl ?h) ?_;(case h=>(intro wx hx;go_simp;rfl));simp only[Act.put,List.setIfInBounds_toArray,List.set_cons_zero,List.set_cons_succ])
  refine EachList.done λwx hx=> ?_
  subst hx
  refine wpList_copy_any rfl (.tmp 13) (.tmp 14) 32 32 rfl _ _ rfl rfl (HCP.out _) ?_
  go_wp2_with((with_reducible show wpList _ _ _ (⟨_,.store 34 (.tmp 4) (.tmp 20),_,_,_,_⟩::_) _ _);refine wpList_store_any rfl 34 (.tmp 4) (.tmp 20) rfl _ rfl _ rfl _ HST.out ?_)
  refine bodyPost_ret (results_cell3 Tryz.results73 rfl HLD.out rfl rfl) rfl ⟨List.replicate 13 0,0,false,?_,λh=>(by cases h),λ_=>HF.out,by simp,HK2.out⟩
  rw[HZZ.out]
  rfl
 ·have hwli:wrap64 li=li:=by unfold wrap64;omega
  have hzr8:=zero_r8
  have HWLI:Hid (IntKind.i64.wrap li=li):=IntWalk.i64_in _ (by omega)
  by_cases hl0:li=0
  ·have HBA:Hid (Blk w1 (w.heap.size+1+1) (u64s (numAll (putAll B ps) r)).toArray 137):=by
    have e:=HALL.out
    rw[if_pos hl0] at e
    show Blk _ _ _ _
    rw[e]
    exact HBC.out
   have HLE:Hid (li=0∨(numAll (putAll B ps) r).drop 5≠List.replicate 8 0↔True):=⟨λ_=>trivial,λ_=> .inl hl0⟩
   have HBZ:=HB1
   have HKA:=HK1
   have e0:(li==0)=true:=beq_iff_eq.2 hl0
   have e1:(li != 0)=false:=by rw[bne,e0];rfl
   go_enter Tryz.func73,Tryz.ntmps73
   go_wp2_with fail
   refine wp_region_last (l:=[_,_]) (o:=_) (S:=λwx=>wx=(((w.alloc (.cells Z 74)).alloc (.cells ZN 34)).alloc (.cells ZR 137)).drew) (by kernel_rfl) rfl (by kernel_rfl) (λd _ _ _ _ h=>by cases d<;>exact h) rfl (by kernel_rfl) (by kernel_rfl) ?_
   repeat (refine EachList.cons ?_ (EachIf.val rfl ?h) ?_;(case h=>(intro wx hx;go_simp;rfl));simp only[Act.put,List.setIfInBounds_toArray,List.set_cons_zero,List.set_cons_succ])
   refine EachList.done λwx hx=> ?_
   subst hx
   refine wpList_copy_any rfl (.tmp 13) (.tmp 14) 32 32 rfl _ _ rfl rfl (HCP.out _) ?_
   clear HALL
   generalize w1=wA at *
   have HBL0:=Lib.hid (Blk.new wA ZN 34)
   have HL93:=Lib.hid (load_r13 (HBA.out.alloc (.cells ZN 34)) HAL.out)
   have HU:Hid (∀k,k<13→(u64s (numAll (putAll B ps) r)).toArray[k]? =some (.int .u64 ((numAll (putAll B ps) r).getD k 0))):=λk hk=>by rw[List.getElem?_toArray,u64s_get (by rw[HAL.out];exact hk)]
   have HWA:Hid (w.heap.size+1+1<wA.heap.size):=HBA.out.lt
   clear HBA
   generalize hal:numAll (putAll B ps) r=al at *
   have HALE:=Lib.hid hal
   clear hal
   generalize (u64s al).toArray=UA at *
   go_wp2_with((with_reducible show wpList _ _ _ (⟨_,.load 137 (.tmp 7),_,_,_,_⟩::_) _ _);refine wpList_load_any rfl 137 (.tmp 7) rfl _ rfl _ HL93.out ?_)
   clear hzr HL93
   go_loopg [32] 13 (λgh s32 wx=>∃k:Nat,k+gh=13∧s32= .int .i64 (k:Int)∧Hid (Blk wx wA.heap.size (zs (fillTo 0 al k)).toArray 34∧Blk wx (w.heap.size+1) ZN 34∧(∀i,i<k→al.getD i 0<256)∧Keeps [] w wx))
   case atStart=>
    refine⟨0,by omega,rfl,?_,HBZ.out.alloc _,by simp,HKA.out.alloc _⟩
    rw[fillTo_zero,HAL.out,HZZ.out]
    exact HBL0.out
   case round=>
    clear HBZ HKA HBL0
    obtain⟨k,hk,rfl,HP⟩:=hrel
    obtain⟨hb1,hb2,hpre,hkp⟩:=HP.out
    cases gk with
    |zero=>
     obtain rfl:k=13:=by omega
     rw[show fillTo 0 al 13=al by rw[←HAL.out];exact fillTo_all 0 al] at hb1
     have hnA:wA.heap.size∉[w.heap.size+1]:=by have :=HWA.out;rw[List.mem_singleton];omega
     have HLB:=Lib.hid (λ(wx:World) (hk:Keeps [w.heap.size+1] wr wx)=>load_n13 (off:=0) (hb1.keep hk hnA) HAL.out (λk hk=>by rw[Nat.zero_add,List.getElem?_toArray,zs_get (by rw[HAL.out];exact hk)]))
     have HSB:Hid (∀wx,Blk wx (w.heap.size+1) ZN 34→∃w',(storeVar 34 ⟨w.heap.size+1,0,none⟩ (.agg (zs al).toArray)).run Tryz.prog wx= .ok () w'∧Blk w' (w.heap.size+1) (zs al).toArray 34∧Keeps [w.heap.size+1] wx w'):=λwx hb=>by
      have hz:=HZZ.out
      exact store_whole (P:= Tryz.prog) (ty:= 34) (cs:=zs al) (by rw[zs_len,HAL.out];exact size_n13) hb (by rw[←hz,zs_len,HAL.out];simp[zs_len]) (zs_one _)
     have HLF:Hid (∀wx,Blk wx (w.heap.size+1) (zs al).toArray 34→(loadVar 34 ⟨w.heap.size+1,0,none⟩).run Tryz.prog wx= .ok (.agg (zs al).toArray) wx):=λwx hb=>load_n13 (off:=0) hb HAL.out (λk hk=>by rw[Nat.zero_add,List.getElem?_toArray,zs_get (by rw[HAL.out];exact hk)])
     have HKP:=Lib.hid hkp
     have HBN:=Lib.hid hb2
     have hwn1:w.heap.size≤w.heap.size+1:=by omega
     have HF:Hid (NumOk (putAll B ps) r):=HNO.out.2 ⟨by omega,hpre,.inl hl0⟩
     clear HP hb1 hb2 hpre hkp hk HNO HBC HB0 HB1 HK1 hnA
     generalize hza:(zs al).toArray=ZA at *
     have HZA:=Lib.hid hza
     clear hza
     go_wp2_with fail
     refine wp_region_store (l:=[_,_,_,_,_,_,_,_,_,_,_]) (f:=_) (mid:=[_]) (o:=_) (tl:=[]) (S:=λb wx=>Keeps [w.heap.size+1] wr wx∧Blk wx (w.heap.size+1) (cond b ZA ZN) 34) (by kernel_rfl) rfl (by kernel_rfl) (λd _ _ _ _ h=>by cases d<;>exact h) ⟨(Keeps.refl _ _).drew,HBN.out.drew⟩ (by kernel_rfl) (by kernel_rfl) ?_
     repeat (first
      |(refine EachListB.cons (.agg ZA) (λb=>EachIf.load rfl 34 (.tmp 10) rfl _ rfl λwx hx=>HLB.out wx hx.1) ?_;simp only[Act.put,List.setIfInBounds_toArray,List.set_cons_zero,List.set_cons_succ])
      |(refine EachListB.cons undef (λb=>EachIf.off rfl) ?_;simp only[Act.put,List.setIfInBounds_toArray,List.set_cons_zero,List.set_cons_succ])
      |(refine EachListB.cons ?_ (λb=>EachIf.val rfl ?h) ?_;(case h=>(intro wx hx;clear hx;go_simp;rfl));simp only[Act.put,List.setIfInBounds_toArray,List.set_cons_zero,List.set_cons_succ]))
     refine EachListB.done ⟨undef,Each2.store rfl 34 (.tmp 4) (.tmp 44) rfl _ rfl _ rfl (λwx hx=> ?_),?_⟩
     ·obtain⟨w',h1,h2,h3⟩:=HSB.out wx hx.2
      exact⟨w',h1,hx.1.trans' h3,h2⟩
     refine EachList.cons ?_ (EachIf.val rfl ?h) ?_
     case h=>intro wx hx;clear hx;go_simp;rfl
     simp only[Act.put,List.setIfInBounds_toArray,List.set_cons_zero,List.set_cons_succ]
     refine EachList.done λwx hx=> ?_
     have HLD6:=Lib.hid (HLF.out wx hx.2)
     have HK6:=Lib.hid (HKP.out.trans hx.1 (by intro x hx;rw[List.mem_singleton] at hx;omega))
     clear hx
     go_wp2_with fail
     refine bodyPost_ret (results_cell3 Tryz.results73 rfl HLD6.out rfl rfl) rfl ⟨al,0,true,?_,λ_=>⟨HF.out,HALE.out.symm,by rw[HZL.out];exact hl0.symm⟩,λh=>(by cases h),HAL.out,HK6.out⟩
     rw[HZA.out]
     rfl
    |succ gg=>
     have hk13:k<13:=by omega
     have hlt:(k:Int)<13:=by omega
     have hk0:(0:Int)≤(k:Int):=by omega
     have hix:=index_r13 hk13 (HU.out k hk13)
     have hx0:=HA64.out k
     by_cases hbx:256≤al.getD k 0
     ·have HF:Hid (¬NumOk (putAll B ps) r):=λh=>by have :=(HNO.out.1 h).2.1 k hk13;omega
      obtain⟨w5,hst5,hld5,hk5⟩:=HSZ.out wr hb2
      have HST5:=Lib.hid hst5
      have HLD5:=Lib.hid hld5
      have HK5:=Lib.hid (hkp.trans hk5 (by simp))
      clear hst5 hld5 hk5 HP hb1 hb2 hpre hkp hk
      generalize al.getD k 0=x at *
      go_wp2_with((with_reducible show wpList _ _ _ (⟨_,.store 34 (.tmp 4) (.tmp 38),_,_,_,_⟩::_) _ _);refine wpList_store_any rfl 34 (.tmp 4) (.tmp 38) rfl _ rfl _ rfl _ HST5.out ?_)
      refine bodyPost_ret (results_cell3 Tryz.results73 rfl HLD5.out rfl rfl) rfl ⟨List.replicate 13 0,0,false,?_,λh=>(by cases h),λ_=>HF.out,by simp,HK5.out⟩
      rw[HZZ.out]
      rfl
     ·have hwx:wrap64 (al.getD k 0)=al.getD k 0:=by unfold wrap64;omega
      have hcell:wr.cell? ⟨wA.heap.size,k,none⟩=some (.int .i64 ((fillTo 0 al k).getD k 0)):=by
       rw[hb1.cell,List.getElem?_toArray,zs_get (by rw[fillTo_len _ _ _ (by rw[HAL.out];omega),HAL.out];exact hk13)]
      have hfz:wr.frozen? ⟨wA.heap.size,k,none⟩=false:=hb1.frozen k
      have HR:Hid (Blk (wr.setCell ⟨wA.heap.size,k,none⟩ (.int .i64 (al.getD k 0))) wA.heap.size (zs (fillTo 0 al (k+1))).toArray 34∧Blk (wr.setCell ⟨wA.heap.size,k,none⟩ (.int .i64 (al.getD k 0))) (w.heap.size+1) ZN 34∧(∀i,i<k+1→al.getD i 0<256)∧Keeps [] w (wr.setCell ⟨wA.heap.size,k,none⟩ (.int .i64 (al.getD k 0)))):=by
       have hlA:=HWA.out
       refine⟨?_,hb2.other (by show w.heap.size+1≠wA.heap.size;omega) _,λi hi=> ?_,hkp.setCell (.inr (by show w.heap.size≤wA.heap.size;omega)) _⟩
       ·have :=hb1.set k (.int .i64 (al.getD k 0))
        rw[List.setIfInBounds_toArray,zs_set,fillTo_succ 0 al k (by rw[HAL.out];exact hk13) (al.getD k 0) (by simp[List.getD_eq_getElem?_getD,show k<al.length by rw[HAL.out];exact hk13])] at this
        exact this
       ·by_cases e:i=k
        ·subst e;omega
        ·exact hpre i (by omega)
      clear HP hb1 hb2 hpre hkp
      generalize al.getD k 0=x at *
      generalize (fillTo 0 al k).getD k 0=y at *
      go_wp2_with fail
      go_roundg gg
      case measure=>omega
      case rel=>exact⟨k+1,by omega,by go_num,HR.out⟩
  ·have e0:(li==0)=false:=beq_eq_false_iff_ne.2 hl0
   have e1:(li != 0)=true:=bne_iff_ne.2 hl0
   obtain⟨q,hq⟩:∃q:Nat,li=(q:Int):=⟨li.toNat,by omega⟩
   have HBLK:=Lib.hid (txBlock_at li w1)
   have hblk:blockN li=((1080+8*q:Nat):Int):=by unfold blockN;rw[if_neg (by omega)];omega
   rw[hblk] at HBLK
   have HROW:Hid (∀wx,Keeps [] w wx→Calls Tryz.prog 27 #[.pointer (some ⟨b,0,none⟩),.int .i64 ((1080+8*q:Nat):Int)] wx λe w'=>e= .returned (.agg (u64s (rowL (putAll B ps) (1080+8*q))).toArray)∧Keeps [] wx w'):=λwx hk=>rowAt_at (HS.out.keep hk (by simp) (by simp)) (1080+8*q) (by omega)
   have HALL2:Hid (numAll (putAll B ps) r=(r.drop 2).take 5++rowL (putAll B ps) (1080+8*q)):=by
    have e:=HALL.out
    rw[if_neg hl0,hq,Int.toNat_natCast] at e
    exact e
   have HRL:=Lib.hid (rowL_len (putAll B ps) (1080+8*q))
   have hs5:=slice_five13 (w.heap.size+1+1)
   have hs88:=slice_all8
   clear HALL hblk hq
   generalize rowL (putAll B ps) (1080+8*q)=row at *
   generalize ((1080+8*q:Nat):Int)=p at *
   generalize hz8:(u64s (List.replicate 8 0)).toArray=Z8 at *
   go_enter Tryz.func73,Tryz.ntmps73
   go_wp2_with fail
   refine wp_region_last (l:=[_,_]) (o:=_) (S:=λwx=>wx=(((w.alloc (.cells Z 74)).alloc (.cells ZN 34)).alloc (.cells ZR 137)).drew) (by kernel_rfl) rfl (by kernel_rfl) (λd _ _ _ _ h=>by cases d<;>exact h) rfl (by kernel_rfl) (by kernel_rfl) ?_
   repeat (refine EachList.cons ?_ (EachIf.val rfl ?h) ?_;(case h=>(intro wx hx;go_simp;rfl));simp only[Act.put,List.setIfInBounds_toArray,List.set_cons_zero,List.set_cons_succ])
   refine EachList.done λwx hx=> ?_
   subst hx
   refine wpList_copy_any rfl (.tmp 13) (.tmp 14) 32 32 rfl _ _ rfl rfl (HCP.out _) ?_
   go_wp2_with fail
   refine HBLK.out.mono ?_;rintro e w' ⟨rfl,rfl⟩
   go_wp2_with fail
   refine(HROW.out _ HK1.out).mono ?_;rintro e w2 ⟨rfl,hk2⟩
   obtain⟨w3,hst,hb9,hk3⟩:=store_whole (P:= Tryz.prog) (ty:= 74) (cs:=u64s row) (by rw[u64s_len,HRL.out];exact size_r8) (Blk.new w2 Z8 74) (by rw[←hz8];simp[u64s_len,HRL.out]) (u64s_one _)
   have hlt2:w.heap.size+1+1<w2.heap.size:=Nat.lt_of_lt_of_le HBC.out.lt hk2.size
   have hkA:Keeps [] w (w3.drew):=((((HK1.out.trans' hk2).alloc (.cells Z8 74)).trans hk3 (by intro x hx;rw[List.mem_singleton] at hx;have :=HK1.out.size;have :=hk2.size;omega))).drew
   have hbA:=((HBC.out.keep hk2 (by simp)).alloc (.cells Z8 74)).keep hk3 (by rw[List.mem_singleton];omega)
   have hbZ:=((HB1.out.keep hk2 (by simp)).alloc (.cells Z8 74)).keep hk3 (by rw[List.mem_singleton];omega)
   obtain⟨v4,wA,hcp2,hbA2,hkA2⟩:=copy_words (o:=5) (n:=8) (cap:=8) (so:=0) (m:=8) (mc:=8) hbA.drew hb9.drew (by omega) (by simp[hr]) (by have :=HRL.out;omega)
   have hsecond:((r.drop 2).take 5++List.replicate 8 (0:Int)).take 5++(row.drop 0).take 8++((r.drop 2).take 5++List.replicate 8 (0:Int)).drop (5+8)=numAll (putAll B ps) r:=by
    rw[HALL2.out]
    exact second_cells _ _ (by simp[hr]) HRL.out
   rw[hsecond] at hbA2
   have HBA:=Lib.hid hbA2
   have HBZ:=Lib.hid (hbZ.drew.keep hkA2 (by rw[List.mem_singleton];omega))
   have HKA:=Lib.hid (hkA.trans hkA2 (by intro x hx;rw[List.mem_singleton] at hx;omega))
   have HST:=Lib.hid hst
   have HCP2:=Lib.hid hcp2
   clear hst hb9 hk3 hlt2 hkA hbA hbZ hcp2 hbA2 hkA2 hsecond hk2
   go_wp2_with((with_reducible show wpList _ _ _ (⟨_,.store 74 (.tmp 9) (.tmp 27),_,_,_,_⟩::_) _ _);refine wpList_store_any rfl 74 (.tmp 9) (.tmp 27) rfl _ rfl _ rfl _ HST.out ?_)
   refine wp_region_last (l:=[_,_]) (o:=_) (S:=λwx=>wx=w3.drew) (by kernel_rfl) rfl (by kernel_rfl) (λd _ _ _ _ h=>by cases d<;>exact h) rfl (by kernel_rfl) (by kernel_rfl) ?_
   repeat (refine EachList.cons ?_ (EachIf.val rfl ?h) ?_;(case h=>(intro wx hx;go_simp;rfl));simp only[Act.put,List.setIfInBounds_toArray,List.set_cons_zero,List.set_cons_succ])
   refine EachList.done λwx hx=> ?_
   subst hx
   refine wpList_copy_any rfl (.tmp 28) (.tmp 29) 32 32 rfl _ _ rfl rfl (HCP2.out _) ?_
   have HBL0:=Lib.hid (Blk.new wA ZN 34)
   have HL93:=Lib.hid (load_r13 (HBA.out.alloc (.cells ZN 34)) HAL.out)
   have HU:Hid (∀k,k<13→(u64s (numAll (putAll B ps) r)).toArray[k]? =some (.int .u64 ((numAll (putAll B ps) r).getD k 0))):=λk hk=>by rw[List.getElem?_toArray,u64s_get (by rw[HAL.out];exact hk)]
   have HWA:Hid (w.heap.size+1+1<wA.heap.size):=HBA.out.lt
   clear HBA
   generalize hal:numAll (putAll B ps) r=al at *
   have HALE:=Lib.hid hal
   clear hal
   generalize (u64s al).toArray=UA at *
   go_wp2_with((with_reducible show wpList _ _ _ (⟨_,.load 137 (.tmp 7),_,_,_,_⟩::_) _ _);refine wpList_load_any rfl 137 (.tmp 7) rfl _ rfl _ HL93.out ?_)
   clear hzr HL93
   go_loopg [32] 13 (λgh s32 wx=>∃k:Nat,k+gh=13∧s32= .int .i64 (k:Int)∧Hid (Blk wx wA.heap.size (zs (fillTo 0 al k)).toArray 34∧Blk wx (w.heap.size+1) ZN 34∧(∀i,i<k→al.getD i 0<256)∧Keeps [] w wx))
   case atStart=>
    refine⟨0,by omega,rfl,?_,HBZ.out.alloc _,by simp,HKA.out.alloc _⟩
    rw[fillTo_zero,HAL.out,HZZ.out]
    exact HBL0.out
   case round=>
    clear HBZ HKA HBL0
    obtain⟨k,hk,rfl,HP⟩:=hrel
    obtain⟨hb1,hb2,hpre,hkp⟩:=HP.out
    cases gk with
    |zero=>
     obtain rfl:k=13:=by omega
     rw[show fillTo 0 al 13=al by rw[←HAL.out];exact fillTo_all 0 al] at hb1
     have hnA:wA.heap.size∉[w.heap.size+1]:=by have :=HWA.out;rw[List.mem_singleton];omega
     have HLB:=Lib.hid (λ(wx:World) (hk:Keeps [w.heap.size+1] wr wx)=>load_n13 (off:=0) (hb1.keep hk hnA) HAL.out (λk hk=>by rw[Nat.zero_add,List.getElem?_toArray,zs_get (by rw[HAL.out];exact hk)]))
     have HSB:Hid (∀wx,Blk wx (w.heap.size+1) ZN 34→∃w',(storeVar 34 ⟨w.heap.size+1,0,none⟩ (.agg (zs al).toArray)).run Tryz.prog wx= .ok () w'∧Blk w' (w.heap.size+1) (zs al).toArray 34∧Keeps [w.heap.size+1] wx w'):=λwx hb=>by
      have hz:=HZZ.out
      exact store_whole (P:= Tryz.prog) (ty:= 34) (cs:=zs al) (by rw[zs_len,HAL.out];exact size_n13) hb (by rw[←hz,zs_len,HAL.out];simp[zs_len]) (zs_one _)
     have HLF:Hid (∀wx,Blk wx (w.heap.size+1) (zs al).toArray 34→(loadVar 34 ⟨w.heap.size+1,0,none⟩).run Tryz.prog wx= .ok (.agg (zs al).toArray) wx):=λwx hb=>load_n13 (off:=0) hb HAL.out (λk hk=>by rw[Nat.zero_add,List.getElem?_toArray,zs_get (by rw[HAL.out];exact hk)])
     have HKP:=Lib.hid hkp
     have HBN:=Lib.hid hb2
     have hwn1:w.heap.size≤w.heap.size+1:=by omega
     have HRE:=Lib.hid (rest_at al HAL.out)
     have HEQ8:=Lib.hid (λwx=>eq_n8 (a:=al.drop 5) (b:=List.replicate 8 0) (by simp[HAL.out]) rfl wx)
     have hg8:=guard_n8
     have hz8v:=zero_n8
     obtain⟨t,ht⟩:∃t,decide (al.drop 5=List.replicate 8 0)=t:=⟨_,rfl⟩
     have HF:Hid (NumOk (putAll B ps) r↔t=false):=by
      show _↔_
      rw[HNO.out,←ht,decide_eq_false_iff_not]
      exact⟨λh=>h.2.2.resolve_left hl0,λh=>⟨by omega,hpre,.inr h⟩⟩
     rw[ht] at HEQ8
     have heq8:=HEQ8.out
     generalize (zs (al.drop 5)).toArray=ZD at *
     generalize (zs (List.replicate 8 0)).toArray=ZE at *
     clear ht HEQ8
     clear HP hb1 hb2 hpre hkp hk HNO HBC HB0 HB1 HK1 hnA
     generalize hza:(zs al).toArray=ZA at *
     have HZA:=Lib.hid hza
     clear hza
     go_wp2_with fail
     refine wp_region_store (l:=[_,_,_,_,_,_,_,_,_,_,_]) (f:=_) (mid:=[_]) (o:=_) (tl:=[]) (S:=λb wx=>Keeps [w.heap.size+1] wr wx∧Blk wx (w.heap.size+1) (cond b ZA ZN) 34) (by kernel_rfl) rfl (by kernel_rfl) (λd _ _ _ _ h=>by cases d<;>exact h) ⟨(Keeps.refl _ _).drew,HBN.out.drew⟩ (by kernel_rfl) (by kernel_rfl) ?_
     repeat (first
      |(refine EachListB.cons (.agg ZA) (λb=>EachIf.load rfl 34 (.tmp 10) rfl _ rfl λwx hx=>HLB.out wx hx.1) ?_;simp only[Act.put,List.setIfInBounds_toArray,List.set_cons_zero,List.set_cons_succ])
      |(refine EachListB.cons (.agg ZD) (λb=>EachIf.call rfl 91 #[.agg ZA] ?he ?h) ?_;(case he=>(intro wz;go_simp));(case h=>exact λwx hx=>(HRE.out wx).mono λe w' he=>⟨he.1,hx.1.trans he.2 (by simp),hx.2.keep he.2 (by simp)⟩);simp only[Act.put,List.setIfInBounds_toArray,List.set_cons_zero,List.set_cons_succ])
      |(refine EachListB.cons undef (λb=>EachIf.off rfl) ?_;simp only[Act.put,List.setIfInBounds_toArray,List.set_cons_zero,List.set_cons_succ])
      |(refine EachListB.cons ?_ (λb=>EachIf.val rfl ?h) ?_;(case h=>(intro wx hx;clear hx;go_simp;rfl));simp only[Act.put,List.setIfInBounds_toArray,List.set_cons_zero,List.set_cons_succ]))
     refine EachListB.done ⟨undef,Each2.store rfl 34 (.tmp 4) (.tmp 44) rfl _ rfl _ rfl (λwx hx=> ?_),?_⟩
     ·obtain⟨w',h1,h2,h3⟩:=HSB.out wx hx.2
      exact⟨w',h1,hx.1.trans' h3,h2⟩
     refine EachList.cons ?_ (EachIf.val rfl ?h) ?_
     case h=>intro wx hx;clear hx;go_simp;rfl
     simp only[Act.put,List.setIfInBounds_toArray,List.set_cons_zero,List.set_cons_succ]
     refine EachList.done λwx hx=> ?_
     have HLD6:=Lib.hid (HLF.out wx hx.2)
     have HK6:=Lib.hid (HKP.out.trans hx.1 (by intro x hx;rw[List.mem_singleton] at hx;omega))
     clear hx
     go_wp2_with fail
     refine bodyPost_ret (results_cell3 Tryz.results73 rfl HLD6.out rfl rfl) rfl ⟨al,li,!t,?_,λh=>⟨HF.out.2 (by simpa using h),HALE.out.symm,HZL.out.symm⟩,λh hn=> ?_,HAL.out,HK6.out⟩
     ·rw[HZA.out]
      show Ending.returned (.tuple #[.agg ZA,.int .i64 (IntKind.i64.wrap li),.bool !t])=_
      rw[HWLI.out]
     ·have :=HF.out.1 hn
      rw[this] at h
      cases h
    |succ gg=>
     have hk13:k<13:=by omega
     have hlt:(k:Int)<13:=by omega
     have hk0:(0:Int)≤(k:Int):=by omega
     have hix:=index_r13 hk13 (HU.out k hk13)
     have hx0:=HA64.out k
     by_cases hbx:256≤al.getD k 0
     ·have HF:Hid (¬NumOk (putAll B ps) r):=λh=>by have :=(HNO.out.1 h).2.1 k hk13;omega
      obtain⟨w5,hst5,hld5,hk5⟩:=HSZ.out wr hb2
      have HST5:=Lib.hid hst5
      have HLD5:=Lib.hid hld5
      have HK5:=Lib.hid (hkp.trans hk5 (by simp))
      clear hst5 hld5 hk5 HP hb1 hb2 hpre hkp hk
      generalize al.getD k 0=x at *
      go_wp2_with((with_reducible show wpList _ _ _ (⟨_,.store 34 (.tmp 4) (.tmp 38),_,_,_,_⟩::_) _ _);refine wpList_store_any rfl 34 (.tmp 4) (.tmp 38) rfl _ rfl _ rfl _ HST5.out ?_)
      refine bodyPost_ret (results_cell3 Tryz.results73 rfl HLD5.out rfl rfl) rfl ⟨List.replicate 13 0,0,false,?_,λh=>(by cases h),λ_=>HF.out,by simp,HK5.out⟩
      rw[HZZ.out]
      rfl
     ·have hwx:wrap64 (al.getD k 0)=al.getD k 0:=by unfold wrap64;omega
      have hcell:wr.cell? ⟨wA.heap.size,k,none⟩=some (.int .i64 ((fillTo 0 al k).getD k 0)):=by
       rw[hb1.cell,List.getElem?_toArray,zs_get (by rw[fillTo_len _ _ _ (by rw[HAL.out];omega),HAL.out];exact hk13)]
      have hfz:wr.frozen? ⟨wA.heap.size,k,none⟩=false:=hb1.frozen k
      have HR:Hid (Blk (wr.setCell ⟨wA.heap.size,k,none⟩ (.int .i64 (al.getD k 0))) wA.heap.size (zs (fillTo 0 al (k+1))).toArray 34∧Blk (wr.setCell ⟨wA.heap.size,k,none⟩ (.int .i64 (al.getD k 0))) (w.heap.size+1) ZN 34∧(∀i,i<k+1→al.getD i 0<256)∧Keeps [] w (wr.setCell ⟨wA.heap.size,k,none⟩ (.int .i64 (al.getD k 0)))):=by
       have hlA:=HWA.out
       refine⟨?_,hb2.other (by show w.heap.size+1≠wA.heap.size;omega) _,λi hi=> ?_,hkp.setCell (.inr (by show w.heap.size≤wA.heap.size;omega)) _⟩
       ·have :=hb1.set k (.int .i64 (al.getD k 0))
        rw[List.setIfInBounds_toArray,zs_set,fillTo_succ 0 al k (by rw[HAL.out];exact hk13) (al.getD k 0) (by simp[List.getD_eq_getElem?_getD,show k<al.length by rw[HAL.out];exact hk13])] at this
        exact this
       ·by_cases e:i=k
        ·subst e;omega
        ·exact hpre i (by omega)
      clear HP hb1 hb2 hpre hkp
      generalize al.getD k 0=x at *
      generalize (fillTo 0 al k).getD k 0=y at *
      go_wp2_with fail
      go_roundg gg
      case measure=>omega
      case rel=>exact⟨k+1,by omega,by go_num,HR.out⟩
end Go.Proofs.YtphojondgfjmgaaGreatDoor
