/-
  Layer 6 (fmt1): row.Head, inodeRow. Package row: Entries. The words of entries. Layer 2 (pack): Name; the reference's Word and Byte. Package row: EntriesOf. Layer 2 (pack): Sum, the reference's Sum, Bucket. Layer 7 (fmt2): spread. Layer 6 (fmt1): rightDir. Layer 6 (fmt1): Right.
-/
import Derived.Test.YtphojondgfjmgaaGreatDoorG03
import Derived.Test.YtphojondgfjmgaaGreatDoorG00
import Derived.Laws.AppendOwn
import Derived.Test.YtphojondgfjmgaaGreatDoorG02
import Derived.Deep.RegionLaw
import Derived.Deep.AppendLies
import Derived.Deep.QuietTactic
import Derived.Deep.RegionHeld
namespace Go.Proofs.YtphojondgfjmgaaGreatDoor
open Go.RowKit
def tagW (n:Ino):Int:=n.F+256*n.K+65536*n.L
structure TagOk (n:Ino):Prop where
 f:0≤n.F∧n.F<256
 k:0≤n.K∧n.K<256
 l:0≤n.L∧n.L<65536
 s:0≤n.S∧n.S<9223372036854775808
def inoRow (n:Ino) (l:List Int) (list:Int):List Int:=tagW n::n.S::(l.take 5++[list])
theorem tag_or (f k m:Nat) (hf:f<256) (hk:k<256) (hm:m<65536):bits .or .u64 (f:Int) ((k:Int)*256)=((f+k*256:Nat):Int)∧bits .or .u64 ((f+k*256:Nat):Int) ((m:Int)*65536)=((f+k*256+m*65536:Nat):Int):=by
 constructor
 ·rw[show(k:Int)*256=((k*256:Nat):Int) by omega,u64_or_nat _ _ (by omega) (by omega),Nat.or_comm,nat_join 8 _ _ (by exact Nat.mul_mod_left _ _) hf,Nat.add_comm]
 ·rw[show(m:Int)*65536=((m*65536:Nat):Int) by omega,u64_or_nat _ _ (by omega) (by omega),Nat.or_comm,nat_join 16 _ _ (by exact Nat.mul_mod_left _ _) (show f+k*256<65536 by omega),Nat.add_comm]
def irowTo (t s:Int) (l:List Int) (k:Nat):List Int:=t::s::(fillTo 0 l k++[0])
theorem irowTo_len {t s:Int} {l:List Int} (hl:l.length=5) {k:Nat} (hk:k≤5):(irowTo t s l k).length=8:=by simp[irowTo,fillTo_len,hl,hk]
theorem irowTo_succ {t s:Int} {l:List Int} (hl:l.length=5) {k:Nat} (hk:k<5):(irowTo t s l k).set (2+k) (l.getD k 0)=irowTo t s l (k+1):=by
 rw[irowTo,show 2+k=k+1+1 by omega,List.set_cons_succ,List.set_cons_succ,List.set_append_left _ _ (by rw[fillTo_len _ _ _ (by omega)];omega),fillTo_succ 0 l k (by omega) (l.getD k 0) (by simp[List.getD_eq_getElem?_getD,show k<l.length by omega])]
 rfl
theorem irowTo_last {t s:Int} {l:List Int} (hl:l.length=5) (x:Int):(irowTo t s l 5).set 7 x=t::s::(l++[x]):=by
 rw[irowTo,show fillTo 0 l 5=l by rw[←hl];exact fillTo_all 0 l,List.set_cons_succ,List.set_cons_succ,List.set_append_right _ _ (by omega),hl]
 rfl
def headL (n:Ino):List Int:=tagW n::n.S::List.replicate 6 0
theorem headL_len (n:Ino):(headL n).length=8:=by simp[headL]
set_option maxRecDepth 100000 in
set_option maxHeartbeats 4000000 in
theorem head_at (n:Ino) (v:Value) (hB:n.B.length=13) (ht:TagOk n) (w:World):
  Calls Tryz.prog 93 #[.agg (inoC n v)] w λe w'=>e= .returned (.agg (u64s (headL n)).toArray)∧Keeps [] w w':=by
 have hat:=inoAt v hB
 generalize inoC n v=Z at *
 have hzv:=zero_r8
 have hb1:Blk (w.alloc (.cells Z 37)) w.heap.size Z 37 :=Blk.new _ _ _
 have c0:∀o2 o3,(((w.alloc (.cells Z 37)).alloc o2).alloc o3).cell? ⟨w.heap.size,0,none⟩=some (.int .i64 n.F):=λo2 o3=>by rw[((hb1.alloc o2).alloc o3).cell];exact hat.f0
 have c1:∀o2 o3,(((w.alloc (.cells Z 37)).alloc o2).alloc o3).cell? ⟨w.heap.size,1,none⟩=some (.int .i64 n.K):=λo2 o3=>by rw[((hb1.alloc o2).alloc o3).cell];exact hat.f1
 have c2:∀o2 o3,(((w.alloc (.cells Z 37)).alloc o2).alloc o3).cell? ⟨w.heap.size,2,none⟩=some (.int .i64 n.L):=λo2 o3=>by rw[((hb1.alloc o2).alloc o3).cell];exact hat.f2
 have c3:∀o2 o3,(((w.alloc (.cells Z 37)).alloc o2).alloc o3).cell? ⟨w.heap.size,3,none⟩=some (.int .i64 n.S):=λo2 o3=>by rw[((hb1.alloc o2).alloc o3).cell];exact hat.f3
 obtain⟨tf,tk,tl,ts⟩:=ht
 obtain⟨f,hf⟩:∃f:Nat,n.F=(f:Int):=⟨n.F.toNat,by omega⟩
 obtain⟨k,hk⟩:∃k:Nat,n.K=(k:Int):=⟨n.K.toNat,by omega⟩
 obtain⟨m,hm⟩:∃m:Nat,n.L=(m:Int):=⟨n.L.toNat,by omega⟩
 obtain⟨s,hs⟩:∃s:Nat,n.S=(s:Int):=⟨n.S.toNat,by omega⟩
 rw[hf] at c0 tf
 rw[hk] at c1 tk
 rw[hm] at c2 tl
 rw[hs] at c3 ts
 obtain⟨q1,q2⟩:=tag_or f k m (by omega) (by omega) (by omega)
 have HTAG:Hid (((f+k*256+m*65536:Nat):Int)=tagW n):=by
  show _=_
  rw[tagW,hf,hk,hm]
  omega
 generalize f+k*256+m*65536=t at *
 generalize f+k*256=t1 at *
 have HROW:Hid (headL n=(t:Int)::(s:Int)::List.replicate 6 0):=by
  show _=_
  rw[headL,←HTAG.out,hs]
 clear hf hk hm hs HTAG hat hB
 rw[HROW.out]
 have hd8:((t:Int)::(s:Int)::List.replicate 6 0).length=8:=by simp
 have hnew:Blk (((w.alloc (.cells Z 37)).alloc (.cells (u64s (List.replicate 8 0)).toArray 74)).alloc (.cells (((u64s (List.replicate 8 0)).set 0 (.int .u64 (t:Int))).set 1 (.int .u64 (s:Int))).toArray 74)) (w.heap.size+1+1) (u64s ((t:Int)::(s:Int)::List.replicate 6 0)).toArray 74 :=by
  have :=Blk.new ((w.alloc (.cells Z 37)).alloc (.cells (u64s (List.replicate 8 0)).toArray 74)) (((u64s (List.replicate 8 0)).set 0 (.int .u64 (t:Int))).set 1 (.int .u64 (s:Int))).toArray 74
  have e:((w.alloc (.cells Z 37)).alloc (.cells (u64s (List.replicate 8 0)).toArray 74)).heap.size=w.heap.size+1+1:=by simp
  rw[e] at this
  exact this
 have hres:Blk (((w.alloc (.cells Z 37)).alloc (.cells (u64s (List.replicate 8 0)).toArray 74)).alloc (.cells (((u64s (List.replicate 8 0)).set 0 (.int .u64 (t:Int))).set 1 (.int .u64 (s:Int))).toArray 74)) (w.heap.size+1) (u64s (List.replicate 8 0)).toArray 74 :=by
  have :=(Blk.new (w.alloc (.cells Z 37)) (u64s (List.replicate 8 0)).toArray 74).alloc (.cells (((u64s (List.replicate 8 0)).set 0 (.int .u64 (t:Int))).set 1 (.int .u64 (s:Int))).toArray 74)
  have e:(w.alloc (.cells Z 37)).heap.size=w.heap.size+1:=by simp
  rw[e] at this
  exact this
 have HL:=Lib.hid (load_r8 hnew hd8)
 obtain⟨w2,hS,hb4,hk2⟩:=store_whole (P:= Tryz.prog) (ty:= 74) (cs:=u64s ((t:Int)::(s:Int)::List.replicate 6 0)) (by rw[u64s_len,hd8];exact size_r8) hres (by simp[u64s_len]) (u64s_one _)
 have HS:=Lib.hid hS
 have HL2:=Lib.hid (load_r8 hb4 hd8)
 have HKP:Hid (Keeps [] w w2):=((((Keeps.refl _ _).alloc _).alloc _).alloc _).trans hk2 (by simp)
 clear hnew hres hS hb4 hk2 hb1
 go_enter Tryz.func93,Tryz.ntmps93
 go_wp2_with(first|((with_reducible show wpList _ _ _ (⟨_,.load 74 (.tmp 3),_,_,_,_⟩::_) _ _);refine wpList_load_any rfl 74 (.tmp 3) rfl _ rfl _ HL.out ?_)|((with_reducible show wpList _ _ _ (⟨_,.store 74 (.tmp 2) (.tmp 22),_,_,_,_⟩::_) _ _);refine wpList_store_any rfl 74 (.tmp 2) (.tmp 22) rfl _ rfl _ rfl _ HS.out ?_))
 exact bodyPost_ret (results_cell Tryz.results93 rfl HL2.out) rfl ⟨rfl,HKP.out⟩
set_option maxRecDepth 100000 in
set_option maxHeartbeats 4000000 in
theorem inodeRow_at (n:Ino) (v:Value) (hB:n.B.length=13) (ht:TagOk n) (l:List Int) (hl:l.length=13) (hn:Nats l) (list:Int) (h0:0≤list∧list<9223372036854775808) (w:World):
  Calls Tryz.prog 76 #[.agg (inoC n v),.agg (zs l).toArray,.int .i64 list] w λe w'=>e= .returned (.agg (u64s (inoRow n l list)).toArray)∧Keeps [] w w':=by
 have HH:=Lib.hid (head_at n v hB ht)
 have hzv:=zero_r8
 have HLI:=Lib.hid (load_ino (((Blk.new w (inoC n v) 37).alloc (.cells (zs l).toArray 34)).alloc (.cells (u64s (List.replicate 8 0)).toArray 74)) hB)
 have hB2:Blk (((w.alloc (.cells (inoC n v) 37)).alloc (.cells (zs l).toArray 34)).alloc (.cells (u64s (List.replicate 8 0)).toArray 74)) (w.heap.size+1) (zs l).toArray 34 :=by
  have :=(Blk.new (w.alloc (.cells (inoC n v) 37)) (zs l).toArray 34).alloc (.cells (u64s (List.replicate 8 0)).toArray 74)
  have e:(w.alloc (.cells (inoC n v) 37)).heap.size=w.heap.size+1:=by simp
  rw[e] at this
  exact this
 have hB3:Blk (((w.alloc (.cells (inoC n v) 37)).alloc (.cells (zs l).toArray 34)).alloc (.cells (u64s (List.replicate 8 0)).toArray 74)) (w.heap.size+1+1) (u64s (List.replicate 8 0)).toArray 74 :=by
  have :=Blk.new ((w.alloc (.cells (inoC n v) 37)).alloc (.cells (zs l).toArray 34)) (u64s (List.replicate 8 0)).toArray 74
  have e:((w.alloc (.cells (inoC n v) 37)).alloc (.cells (zs l).toArray 34)).heap.size=w.heap.size+1+1:=by simp
  rw[e] at this
  exact this
 have HK0:Hid (Keeps [] w (((w.alloc (.cells (inoC n v) 37)).alloc (.cells (zs l).toArray 34)).alloc (.cells (u64s (List.replicate 8 0)).toArray 74))):=(((Keeps.refl _ _).alloc _).alloc _).alloc _
 have HB2:=Lib.hid hB2
 have HB3:=Lib.hid hB3
 clear hB2 hB3
 have hl5:(l.take 5).length=5:=by simp[hl]
 obtain⟨t,hT⟩:∃t,t=tagW n:=⟨_,rfl⟩
 obtain⟨s,hS0⟩:∃s,s=n.S:=⟨_,rfl⟩
 have HHL:Hid (headL n=irowTo t s (l.take 5) 0):=by
  show _=_
  rw[headL,irowTo,fillTo_zero,hl5,hT,hS0]
  rfl
 have HROW:Hid (inoRow n l list=t::s::(l.take 5++[list])):=by
  show _=_
  rw[inoRow,hT,hS0]
 have HNL:Hid (∀i,i<5→(0≤(l.take 5).getD i 0∧(l.take 5).getD i 0<9223372036854775808)∧l.getD i 0=(l.take 5).getD i 0):=λi hi=>by
  have e:(l.take 5).getD i 0=l.getD i 0:=by simp[List.getD_eq_getElem?_getD,hi]
  rw[e]
  exact⟨hn i,rfl⟩
 have HZL:Hid (∀i,i<13→(zs l).toArray[i]? =some (.int .i64 (l.getD i 0))):=λi hi=>by rw[List.getElem?_toArray,zs_get (by omega)]
 have hwl:=wrap_nat64 h0.1 h0.2
 clear hn hB ht hT hS0
 rw[HROW.out]
 generalize inoC n v=Z at *
 generalize (zs l).toArray=ZL at *
 go_enter Tryz.func76,Tryz.ntmps76
 go_wp2_with((with_reducible show wpList _ _ _ (⟨_,.load 37 (.tmp 3),_,_,_,_⟩::_) _ _);refine wpList_load_any rfl 37 (.tmp 3) rfl _ rfl _ HLI.out ?_)
 refine(HH.out _).mono ?_;rintro e w1 ⟨rfl,hk1⟩
 rw[HHL.out]
 obtain⟨w2,hst,hb7,hk2⟩:=store_whole (P:= Tryz.prog) (ty:= 74) (cs:=u64s (irowTo t s (l.take 5) 0)) (by rw[u64s_len,irowTo_len hl5 (by omega)];exact size_r8) (Blk.new w1 (u64s (List.replicate 8 0)).toArray 74) (by simp[u64s_len,irowTo_len hl5]) (u64s_one _)
 have hw1:w.heap.size+1+1<w1.heap.size:=Nat.lt_of_lt_of_le HB3.out.lt hk1.size
 have hk12:Keeps [] (((w.alloc (.cells Z 37)).alloc (.cells ZL 34)).alloc (.cells (u64s (List.replicate 8 0)).toArray 74)) w2:=(hk1.alloc (.cells (u64s (List.replicate 8 0)).toArray 74)).trans hk2 (by intro x hx;rw[List.mem_singleton] at hx;have :=hk1.size;omega)
 have HB22:=Lib.hid (HB2.out.keep hk12 (by simp))
 have HB32:=Lib.hid (HB3.out.keep hk12 (by simp))
 have HKW:=Lib.hid (HK0.out.trans' hk12)
 have HST:=Lib.hid hst
 have HB7:=Lib.hid hb7
 clear hst hb7 hk2 hk12 hk1 HLI HH HB2 HB3 HK0
 generalize hg:w1.heap.size=g at *
 go_wp2_with((with_reducible show wpList _ _ _ (⟨_,.store 74 (.tmp 7) (.tmp 10),_,_,_,_⟩::_) _ _);refine wpList_store_any rfl 74 (.tmp 7) (.tmp 10) rfl _ rfl _ rfl _ HST.out ?_)
 go_loopg [11] 5 (λgh s11 wx=>∃i:Nat,i+gh=5∧s11= .int .i64 (i:Int)∧Hid (Blk wx g (u64s (irowTo t s (l.take 5) i)).toArray 74∧Blk wx (w.heap.size+1+1) (u64s (List.replicate 8 0)).toArray 74∧Blk wx (w.heap.size+1) ZL 34∧Keeps [] w wx))
 case atStart=>exact⟨0,by omega,rfl,HB7.out,HB32.out,HB22.out,HKW.out⟩
 case round=>
  clear hzv HB7 HB32 HB22 HKW
  obtain⟨i,hi,rfl,HP⟩:=hrel
  obtain⟨hb1,hb2,hb3,hkp⟩:=HP.out
  cases gk with
  |zero=>
   obtain rfl:i=5:=by omega
   have hcell:wr.cell? ⟨g,7,none⟩=some (.int .u64 ((irowTo t s (l.take 5) 5).getD 7 0)):=by
    rw[hb1.cell,List.getElem?_toArray,u64s_get (by rw[irowTo_len hl5 (by omega)];omega)]
   have hfz:wr.frozen? ⟨g,7,none⟩=false:=hb1.frozen 7
   have hbs:=hb1.set 7 (.int .u64 list)
   rw[List.setIfInBounds_toArray,u64s_set,irowTo_last hl5] at hbs
   have hd8:(t::s::(l.take 5++[list])).length=8:=by simp[hl5]
   have HL:=Lib.hid (load_r8 hbs hd8)
   obtain⟨w4,hS,hb4,hk4⟩:=store_whole (P:= Tryz.prog) (ty:= 74) (cs:=u64s (t::s::(l.take 5++[list]))) (by rw[u64s_len,hd8];exact size_r8) (hb2.other (a:=⟨g,7,none⟩) (by show w.heap.size+1+1≠g;omega) (.int .u64 list)) (by simp[u64s_len,hd8]) (u64s_one _)
   have HS:=Lib.hid hS
   have HL2:=Lib.hid (load_r8 hb4 hd8)
   have HKP:=Lib.hid ((hkp.setCell (p:=⟨g,7,none⟩) (.inr (by show w.heap.size≤g;omega)) (.int .u64 list)).trans hk4 (by intro x hx;rw[List.mem_singleton] at hx;omega))
   clear hS hb4 hk4 HP hi hbs hb1 hb2 hb3 hkp
   generalize (irowTo t s (l.take 5) 5).getD 7 0=y at *
   go_wp2_with(first|((with_reducible show wpList _ _ _ (⟨_,.load 74 (.tmp 7),_,_,_,_⟩::_) _ _);refine wpList_load_any rfl 74 (.tmp 7) rfl _ rfl _ HL.out ?_)|((with_reducible show wpList _ _ _ (⟨_,.store 74 (.tmp 6) (.tmp 25),_,_,_,_⟩::_) _ _);refine wpList_store_any rfl 74 (.tmp 6) (.tmp 25) rfl _ rfl _ rfl _ HS.out ?_))
   exact bodyPost_ret (results_cell Tryz.results76 rfl HL2.out) rfl ⟨rfl,HKP.out⟩
  |succ gg=>
   have hi5:i<5:=by omega
   have hlt:(i:Int)<5:=by omega
   have hi0:(0:Int)≤(i:Int):=by omega
   obtain⟨hnn,hge⟩:=HNL.out i hi5
   have hcl:wr.cell? ⟨w.heap.size+1,i,none⟩=some (.int .i64 ((l.take 5).getD i 0)):=by
    rw[hb3.cell,HZL.out i (by omega),hge]
   have hw:=wrap_nat64 hnn.1 hnn.2
   have hcell:wr.cell? ⟨g,2+i,none⟩=some (.int .u64 ((irowTo t s (l.take 5) i).getD (2+i) 0)):=by
    rw[hb1.cell,List.getElem?_toArray,u64s_get (by rw[irowTo_len hl5 (by omega)];omega)]
   have hfz:wr.frozen? ⟨g,2+i,none⟩=false:=hb1.frozen _
   have HR:Hid (Blk (wr.setCell ⟨g,2+i,none⟩ (.int .u64 ((l.take 5).getD i 0))) g (u64s (irowTo t s (l.take 5) (i+1))).toArray 74∧Blk (wr.setCell ⟨g,2+i,none⟩ (.int .u64 ((l.take 5).getD i 0))) (w.heap.size+1+1) (u64s (List.replicate 8 0)).toArray 74∧Blk (wr.setCell ⟨g,2+i,none⟩ (.int .u64 ((l.take 5).getD i 0))) (w.heap.size+1) ZL 34∧Keeps [] w (wr.setCell ⟨g,2+i,none⟩ (.int .u64 ((l.take 5).getD i 0)))):=by
    refine⟨?_,hb2.other (by show w.heap.size+1+1≠g;omega) _,hb3.other (by show w.heap.size+1≠g;omega) _,hkp.setCell (.inr (by show w.heap.size≤g;omega)) _⟩
    have :=hb1.set (2+i) (.int .u64 ((l.take 5).getD i 0))
    rw[List.setIfInBounds_toArray,u64s_set,irowTo_succ hl5 hi5] at this
    exact this
   clear HP hb1 hb2 hb3 hkp hge
   generalize (l.take 5).getD i 0=x at *
   generalize (irowTo t s (l.take 5) i).getD (2+i) 0=y at *
   go_wp2_with fail
   go_roundg gg
   case measure=>omega
   case rel=>exact⟨i+1,by omega,by go_num,HR.out⟩
def wordsE (E:List (ByteArray×Int)):List Int:=E.flatMap λp=>[((wordV (bl p.1):Nat):Int),p.2]
theorem wordsE_len (E:List (ByteArray×Int)):(wordsE E).length=E.length*2:=by
 induction E with
 |nil=>rfl
 |cons p E ih=>simp[wordsE] at ih ⊢;omega
theorem wordsE_append (E F:List (ByteArray×Int)):wordsE (E++F)=wordsE E++wordsE F:=by simp[wordsE]
theorem wordsE_get (E:List (ByteArray×Int)):∀k,k<E.length→(wordsE E).getD (k*2) 0=((wordV (bl (enm E k)):Nat):Int)∧(wordsE E).getD (k*2+1) 0=eno E k:=by
 induction E with
 |nil=>intro k h;simp at h
 |cons p E ih=>
  intro k h
  have hc:wordsE (p::E)=((wordV (bl p.1):Nat):Int)::p.2::wordsE E:=rfl
  cases k with
  |zero=>rw[hc];exact⟨rfl,rfl⟩
  |succ k=>
   have :=ih k (by simpa using h)
   rw[hc,show(k+1)*2=k*2+1+1 by omega,enm_cons,eno_cons]
   exact this
theorem take_snocE (E:List (ByteArray×Int)) (n:Nat) (h:n<E.length):E.take (n+1)=E.take n++[(enm E n,eno E n)]:=by
 rw[List.take_succ_eq_append_getElem h]
 have :E.getD n (ByteArray.empty,0)=E[n]:=by simp[List.getD_eq_getElem?_getD,h]
 rw[enm,eno,this]
theorem wordsE_take_succ (E:List (ByteArray×Int)) (j:Nat) (h:j<E.length):wordsE (E.take (j+1))=wordsE (E.take j)++[((wordV (bl (enm E j)):Nat):Int),eno E j]:=by
 rw[take_snocE E j h,wordsE_append]
 rfl
structure EntOk (E:List (ByteArray×Int)):Prop where
 len:E.length≤10000
 size:∀k,k<E.length→(enm E k).size≤9223372036854775807
 ino:∀k,k<E.length→0≤eno E k∧eno E k<9223372036854775808
set_option maxRecDepth 100000 in
set_option maxHeartbeats 8000000 in
theorem rowEntries_at {w:World} {v:Value} {g:Nat} {E:List (ByteArray×Int)} (hE:EReads w v g E) (ho:EntOk E):
  Calls Tryz.prog 97 #[v] w (MadeWords w (wordsE E)):=by
 obtain⟨a,cap,rfl,hcap,hmax,HEC⟩:=hE.open
 unfold maxLen at hmax
 obtain⟨i0,hi,hz0,hz1,hz2⟩:=info_parts Tryz.info_u64
 have hlen:=ho.len
 have hmk:=make_u64 (2*E.length) (by omega) (2*(E.length:Int)) (by omega) 0 (.inl rfl) w
 rw[show((0:Nat):Int)=0 from rfl] at hmk
 have HS0:Hid ((w.alloc (.cells (madeCells #[.int .u64 0] (2*E.length)) 29)).ownsRow w.heap.size 29 1 (.slice (some ⟨w.heap.size,0,none⟩) 0 (2*E.length)) 0 (u64s (wordsE (E.take 0)))):=
  ⟨rfl,.inr ⟨w.heap.size,2*E.length,madeCells #[.int .u64 0] (2*E.length),rfl,Nat.le_refl _,Blk.new _ _ _,by omega,by unfold maxLen;omega,by simp[madeCells],by simp[wordsE,u64s]⟩⟩
 have HK0:Hid (Keeps [] w (w.alloc (.cells (madeCells #[.int .u64 0] (2*E.length)) 29))):=(Keeps.refl _ _).alloc _
 have HW:Hid (∀j,j<E.length→∀wx,Calls Tryz.prog 109 #[.string (enm E j)] wx λe w'=>e= .returned (.tuple #[.int .u64 (wordV (bl (enm E j)):Nat),.bool (goodN (bl (enm E j)))])∧Keeps [] wx w'):=λj hj wx=>
  word_at _ (ho.size _ hj) wx
 have HIN:Hid (∀j,j<E.length→0≤eno E j∧eno E j<9223372036854775808):=λj hj=>ho.ino _ hj
 have HTS:Hid (∀j,j<E.length→u64s (wordsE (E.take (j+1)))=u64s (wordsE (E.take j))++[.int .u64 ((wordV (bl (enm E j)):Nat):Int),.int .u64 (eno E j)]):=λj hj=>by
  rw[wordsE_take_succ E j hj,u64s_append]
  rfl
 have HALL:Hid (E.take E.length=E):=List.take_length
 have HWL:Hid ((wordsE E).length=E.length*2):=wordsE_len E
 clear hE ho
 generalize hn:E.length=n at *
 clear hn
 generalize (madeCells #[.int .u64 0] (2*n))=MC at *
 go_enter Tryz.func97,Tryz.ntmps97
 go_wp2_with fail
 clear hmk
 go_loopg [3,14] n (λgh s3 s14 wx=>∃j:Nat,j+gh=n∧s14= .int .i64 (j:Int)∧Hid (wx.ownsRow w.heap.size 29 1 s3 (2*j) (u64s (wordsE (E.take j)))∧Keeps [] w wx))
 case atStart=>exact⟨0,by omega,rfl,HS0.out,HK0.out⟩
 case round=>
  clear HS0 HK0
  obtain⟨j,hj,rfl,HP⟩:=hrel
  cases gk with
  |zero=>
   obtain rfl:j=n:=by omega
   have HM:Hid (MadeWords w (wordsE E) (.returned u3) wr):=by
    obtain⟨hown,hk⟩:=HP.out
    rw[HALL.out] at hown
    obtain⟨gg,hoo,hg⟩:=Owns.of_row hown
    by_cases h0:2*j=0
    ·exact⟨u3,w.heap.size,rfl,hoo.reads.anyG (by
      have :(wordsE E).length=0:=by rw[HWL.out];omega
      rw[List.eq_nil_of_length_eq_zero this];rfl) _,Nat.le_refl _,hk⟩
    ·exact⟨u3,gg,rfl,hoo.reads,(hg h0).1,hk⟩
   clear HP hj
   go_wp2_with fail
   go_ret
   exact HM.out
  |succ gk=>
   have hjn:j<n:=by omega
   have hlt:(j:Int)<(n:Int):=by omega
   have hj0:(0:Int)≤(j:Int):=by omega
   obtain⟨hgl,off,rfl,e0,e1⟩:=HEC.out j hjn
   have HOW:=Lib.hid HP.out.1
   have HKP:=Lib.hid HP.out.2
   have hkp:=HP.out.2
   have c0:=(World.cell?_of_block (w:=w) (a:=⟨g,off+j*2,none⟩) (hkp.block g hgl (by simp))).trans e0
   have c1:=(World.cell?_of_block (w:=w) (a:=⟨g,off+j*2+1,none⟩) (hkp.block g hgl (by simp))).trans e1
   have HWC:=Lib.hid (HW.out j hjn)
   obtain⟨n0,n1⟩:=HIN.out j hjn
   have hw:=wrap_nat64 n0 n1
   have HSU:=Lib.hid (HTS.out j hjn)
   have hwrs:=hkp.size
   clear e0 e1 HP hkp
   generalize enm E j=nm at *
   generalize eno E j=ino at *
   obtain⟨a3,cap3,rfl,q1,q2⟩:=ownsRow_val HOW.out
   generalize hT:u64s (wordsE (E.take j))=T at *
   have HT:=Lib.hid hT
   clear hT
   go_wp2_with fail
   refine(HWC.out _).mono ?_;rintro e w1 ⟨rfl,hk1⟩
   have hbx:=(Blk.new wr #[.string nm,.int .i64 ino] 85).keep hk1 (by simp)
   have HO1:=Lib.hid (ownsRow_keep (ownsRow_keep HOW.out ((Keeps.refl [] wr).alloc (.cells #[.string nm,.int .i64 ino] 85)) (by simp)) hk1 (by simp))
   have d1:w1.cell? ⟨wr.heap.size,1,none⟩=some (.int .i64 ino):=by rw[hbx.cell];rfl
   have HK1:=Lib.hid ((HKP.out.alloc (.cells #[.string nm,.int .i64 ino] 85)).trans' hk1)
   have hws1:w.heap.size≤w1.heap.size:=HK1.out.size
   clear hk1 hbx
   generalize wordV (bl nm)=wv at *
   have hlb:2*j≤20000:=by omega
   go_wp2_with(at_builtin;refine wpList_append_own _ rfl _ _ 32 rfl w.heap.size 29 i0 (.int .u64 0) 1 8 Tryz.underlying32 hi hz0 hz1 hz2 rfl (by decide) (.slice a3 (2*j) cap3) (2*j) _ rfl (HO1.out.alloc _) ⟨w1.heap.size,0,none⟩ 2 2 [.int .u64 (wv:Int),.int .u64 ino] rfl rfl ?c1 ?c2 (by unfold maxLen;omega) (by omega) (by simp;omega) ?_)
   case c1=>exact new_cells _ [_,_] _ _ rfl
   case c2=>simp[Value.oneCell']
   intro v' w2 hown1 hgrow _
   have HO2:=Lib.hid hown1
   have HK2:=Lib.hid ((HK1.out.alloc _).grown hgrow (ownsRow_block HO1.out))
   clear hown1 hgrow
   go_wp2_with fail
   go_roundg gk
   case measure=>omega
   case rel=>
    refine⟨j+1,by omega,by go_num,?_,HK2.out⟩
    have :=HO2.out
    rw[show 2*(j+1)=2*j+2 by omega,HSU.out]
    exact this
structure NameMid (W:Nat) (w1 w2:World):Prop where
 st:(storeVar 133 ⟨w1.heap.size,0,none⟩ (.agg (u8s (byts W)).toArray)).run Tryz.prog (w1.alloc (.cells (u8s (List.replicate 8 0)).toArray 133))= .ok () w2
 c7:w2.cell? ⟨w1.heap.size,7,none⟩=some (.int .u8 (byt W 7:Nat))
 conv:byt W 7≤7→(convert 172 9 (.slice (some ⟨w1.heap.size,0,none⟩) (byt W 7) 8)).run Tryz.prog w2= .ok (.string (strN ((byts W).take (byt W 7)))) w2
 keeps:Keeps [] w1 w2
theorem nameMid (W:Nat) (w1:World):∃w2,NameMid W w1 w2:=by
 obtain⟨w2,hs,hb,hk⟩:=store_bytes (l:=List.replicate 8 0) (by simp) (byts_len W) (Blk.new w1 (u8s (List.replicate 8 0)).toArray 133)
 have hc:∀j,j<8→w2.cell? ⟨w1.heap.size,j,none⟩=some (.int .u8 (byt W j:Nat)):=λj hj=>by
  rw[hb.cell,←byts_get W j hj]
  simpa using u8s_get (l:=byts W) (j:=j) (by rw[byts_len];omega)
 refine⟨w2,hs,hc 7 (by omega),λh7=> ?_,((Keeps.refl [] w1).alloc _).trans hk (by simp)⟩
 have hl:(((byts W).take (byt W 7)).map UInt8.ofNat).length=byt W 7:=by simp[byts_len];omega
 have :=run_convert_bytes_back (P:= Tryz.prog) w2 172 9 5 ⟨w1.heap.size,0,none⟩ 8 (((byts W).take (byt W 7)).map UInt8.ofNat) Tryz.underlying172 Tryz.underlying5 Tryz.underlying9 λj hj=>by
  rw[hl] at hj
  have hadd:(⟨w1.heap.size,0,none⟩:Addr).add j=⟨w1.heap.size,j,none⟩:=by unfold Addr.add;split<;>simp_all
  rw[hadd,hc j (by omega)]
  have hb:=byt_lt W j
  simp[byts,Nat.mod_eq_of_lt hb]
 rw[hl] at this
 exact this
theorem slice_bytes (b n:Nat) (hn:n≤7) (w:World):(Instr.sliceAt 133 (.pointer (some ⟨b,0,none⟩)) none (some (.int .i64 (n:Int))) none).run Tryz.prog w= .ok (.slice (some ⟨b,0,none⟩) n 8) w:=by
 have hc:n=0∨n=1∨n=2∨n=3∨n=4∨n=5∨n=6∨n=7:=by omega
 rcases hc with rfl|rfl|rfl|rfl|rfl|rfl|rfl|rfl<;>(show Sem.run _ _ _=_;kernel_rfl)
set_option maxHeartbeats 1000000 in
theorem name_at (W:Nat) (w:World):
  Calls Tryz.prog 105 #[.int .u64 (W:Int)] w λe w'=>e= .returned (.tuple #[.string (strN ((nameN W).getD [])),.bool (nameN W).isSome])∧Keeps [] w w':=by
 have HB:=Lib.hid (bytes_at W w)
 have hlt:=byt_lt W 7
 go_enter Tryz.func105,Tryz.ntmps105
 go_wp2_with fail
 refine HB.out.mono ?_
 rintro e w1 ⟨rfl,hk1⟩
 obtain⟨w2,hm⟩:=nameMid W w1
 have c7:=hm.c7
 have HM:=Lib.hid hm
 have HK:=Lib.hid (hk1.trans hm.keeps (by simp))
 clear hm hk1 HB
 by_cases h7:byt W 7≤7
 ·have hcv:=HM.out.conv h7
  have hwl:∀c∈(byts W).take (byt W 7),c<256:=take_lt (byts_lt W) _
  have HW:=word_at (strN ((byts W).take (byt W 7))) (by rw[strN_size];simp[byts_len];omega) w2
  rw[bl_strN hwl] at HW
  unfold wordV at HW
  have HN:Hid (nameN W=if goodN ((byts W).take (byt W 7))=true∧wordN ((byts W).take (byt W 7))=W then some ((byts W).take (byt W 7)) else none):=by
   show nameN W=_
   unfold nameN
   simp only[h7,true_and]
  generalize (byts W).take (byt W 7)=l at *
  clear hwl
  generalize byt W 7=n at *
  have HW:=Lib.hid HW
  have hsl:=λwz=>slice_bytes w1.heap.size n h7 wz
  have h7d:decide (7<(n:Int))=false:=by simp;omega
  cases hg:goodN l
  ·rw[hg,if_neg (by simp)] at HW
   rw[hg,if_neg (by simp)] at HN
   clear hg
   go_wp2_with(first|((with_reducible show wpList _ _ _ (⟨_,.store 133 (.tmp 4) (.tmp 10),_,_,_,_⟩::_) _ _);refine wpList_store_any rfl 133 (.tmp 4) (.tmp 10) rfl _ rfl _ rfl _ HM.out.st ?_)|(go_at_call 109;refine HW.out.mono ?_;rintro e w3 ⟨rfl,hk3⟩;have HK3:=Lib.hid hk3;clear hk3))
   go_ret2
   exact⟨by rw[HN.out];rfl,HK.out.trans HK3.out (by simp)⟩
  ·rw[hg,if_pos rfl] at HW
   rw[hg] at HN
   clear hg
   by_cases hw:wordN l=W
   ·rw[if_pos ⟨rfl,hw⟩] at HN
    rw[hw] at HW
    clear hw
    go_wp2_with(first|((with_reducible show wpList _ _ _ (⟨_,.store 133 (.tmp 4) (.tmp 10),_,_,_,_⟩::_) _ _);refine wpList_store_any rfl 133 (.tmp 4) (.tmp 10) rfl _ rfl _ rfl _ HM.out.st ?_)|(go_at_call 109;refine HW.out.mono ?_;rintro e w3 ⟨rfl,hk3⟩;have HK3:=Lib.hid hk3;clear hk3))
    go_ret2
    exact⟨by rw[HN.out];rfl,HK.out.trans HK3.out (by simp)⟩
   ·rw[if_neg (λh=>hw h.2)] at HN
    have e1:((wordN l:Int) != (W:Int))=true:=by simp;omega
    clear hw
    go_wp2_with(first|((with_reducible show wpList _ _ _ (⟨_,.store 133 (.tmp 4) (.tmp 10),_,_,_,_⟩::_) _ _);refine wpList_store_any rfl 133 (.tmp 4) (.tmp 10) rfl _ rfl _ rfl _ HM.out.st ?_)|(go_at_call 109;refine HW.out.mono ?_;rintro e w3 ⟨rfl,hk3⟩;have HK3:=Lib.hid hk3;clear hk3))
    go_ret2
    exact⟨by rw[HN.out];rfl,HK.out.trans HK3.out (by simp)⟩
 ·have HN:Hid (nameN W=none):=by
   show nameN W=none
   unfold nameN
   rw[if_neg (λh=>h7 h.1)]
  generalize byt W 7=n at *
  go_wp2_with(first|((with_reducible show wpList _ _ _ (⟨_,.store 133 (.tmp 4) (.tmp 10),_,_,_,_⟩::_) _ _);refine wpList_store_any rfl 133 (.tmp 4) (.tmp 10) rfl _ rfl _ rfl _ HM.out.st ?_))
  go_ret2
  exact⟨by rw[HN.out];rfl,HK.out⟩
def entsL (L:List Int) (n:Nat):List (ByteArray×Int):=(List.range n).map λk=>(strN ((nameN (L.getD (k*2) 0).toNat).getD []),L.getD (k*2+1) 0)
def EntsLOk (L:List Int) (n:Nat):Prop:=∀k,k<n→(nameN (L.getD (k*2) 0).toNat).isSome=true∧L.getD (k*2+1) 0<32
theorem entsL_len (L:List Int) (n:Nat):(entsL L n).length=n:=by simp[entsL]
theorem entsL_get (L:List Int) (n e:Nat) (h:e<n):enm (entsL L n) e=strN ((nameN (L.getD (e*2) 0).toNat).getD [])∧eno (entsL L n) e=L.getD (e*2+1) 0:=by
 have :(entsL L n).getD e (ByteArray.empty,0)=(strN ((nameN (L.getD (e*2) 0).toNat).getD []),L.getD (e*2+1) 0):=by
  rw[entsL,List.getD_eq_getElem?_getD,List.getElem?_map,List.getElem?_range h]
  rfl
 rw[enm,eno,this]
 exact⟨rfl,rfl⟩
theorem entsL_getElem (L:List Int) (n e:Nat) (h:e<n):(entsL L n)[e]'(by rw[entsL_len];exact h)=(strN ((nameN (L.getD (e*2) 0).toNat).getD []),L.getD (e*2+1) 0):=by simp[entsL]
theorem Tryz.info_entry:(Tryz.prog.info? 85).map (λi=>(i.zero,i.size,i.bytes))=some (some (.agg #[.string ⟨#[]⟩,.int .i64 0]),2,24):=by kernel_rfl
theorem make_ents (n:Nat) (hn:n≤100000) (m:Int) (hm:m=(n:Int)) (w:World):(Instr.makeSlice 35 (.int .i64 m) (.int .i64 m)).run Tryz.prog w=
  .ok (.slice (some ⟨w.heap.size,0,none⟩) n n) (w.alloc (.cells (madeCells #[.string ⟨#[]⟩,.int .i64 0] (n*2)) 85)):=by
 subst hm
 obtain⟨i0,hi,hz0,hz1,hz2⟩:=info_parts Tryz.info_entry
 have :=run_make (P:= Tryz.prog) w 35 85 i0 _ Tryz.underlying35 hi hz0 .i64 .i64 (n:Int) (n:Int) (by omega) (by omega) (by rw[hz2];omega) (by omega)
 rw[hz1,Int.toNat_natCast] at this
 exact this
theorem made_ecells (n:Nat):(madeCells #[Value.string ⟨#[]⟩,Value.int .i64 0] (n*2)).toList=ecells (List.replicate n (ByteArray.empty,0)):=by
 apply List.ext_getElem?
 intro j
 simp only[madeCells,Array.toList_map,Array.toList_range,List.getElem?_map]
 by_cases hj:j<n*2
 ·rw[List.getElem?_range hj]
  have hp:=ecells_get (List.replicate n (ByteArray.empty,(0:Int))) (j/2) (by simp;omega)
  have e0:enm (List.replicate n (ByteArray.empty,(0:Int))) (j/2)=ByteArray.empty:=by
   simp[enm,List.getD_eq_getElem?_getD,List.getElem?_replicate];split<;>rfl
  have e1:eno (List.replicate n (ByteArray.empty,(0:Int))) (j/2)=0:=by
   simp[eno,List.getD_eq_getElem?_getD,List.getElem?_replicate];split<;>rfl
  rw[e0,e1] at hp
  rcases (show j%2=0∨j%2=1 by omega) with h|h
  ·rw[show j/2*2=j by omega] at hp
   rw[hp.1]
   simp[h]
   rfl
  ·rw[show j/2*2+1=j by omega] at hp
   rw[hp.2]
   simp[h]
 ·rw[List.getElem?_eq_none (by simpa using hj),List.getElem?_eq_none (by rw[ecells_len,List.length_replicate];omega)];rfl
theorem owns_ents (w:World) (n:Nat) (hn:n≤100000):Owns (w.alloc (.cells (madeCells #[.string ⟨#[]⟩,.int .i64 0] (n*2)) 85)) (.slice (some ⟨w.heap.size,0,none⟩) n n) w.heap.size 85 2 n (ecells (List.replicate n (ByteArray.empty,0))):=by
 have hs:(madeCells #[Value.string ⟨#[]⟩,Value.int .i64 0] (n*2)).size=n*2:=by rw[←Array.length_toList,made_ecells,ecells_len,List.length_replicate]
 refine⟨by rw[ecells_len,List.length_replicate],_,n,rfl,Nat.le_refl _,by unfold maxLen;omega,λ_=>⟨rfl,_,Blk.new _ _ _,hs,?_⟩⟩
 rw[made_ecells,List.take_of_length_le (by rw[ecells_len,List.length_replicate];omega)]
theorem ecells_set (l:List (ByteArray×Int)) (a:ByteArray) (x:Int):∀k,((ecells l).set (k*2) (.string a)).set (k*2+1) (.int .i64 x)=ecells (l.set k (a,x)):=by
 induction l with
 |nil=>intro k;rfl
 |cons p l ih=>
  intro k
  have hc:∀(p:ByteArray×Int) l,ecells (p::l)= .string p.1:: .int .i64 p.2::ecells l:=λ_ _=>rfl
  cases k with
  |zero=>rfl
  |succ k=>rw[hc,List.set_cons_succ,hc,←ih k,show(k+1)*2=k*2+1+1 by omega];rfl
theorem Owns.ent {w:World} {v:Value} {g T n:Nat} {l:List (ByteArray×Int)} (h:Owns w v g T 2 n (ecells l)) (k:Nat) (a:ByteArray) (x:Int):
  Owns ((w.setCell ⟨g,k*2,none⟩ (.string a)).setCell ⟨g,k*2+1,none⟩ (.int .i64 x)) v g T 2 n (ecells (l.set k (a,x))):=by
 have :=(h.set (k*2) (.string a)).set (k*2+1) (.int .i64 x)
 rw[ecells_set] at this
 exact this
def EntsLPost (w:World) (L:List Int) (n:Nat) (e:Ending) (w':World):Prop:=
 (∃g,e= .returned (.tuple #[.slice (some ⟨g,0,none⟩) n n,.bool true])∧Owns w' (.slice (some ⟨g,0,none⟩) n n) g 85 2 n (ecells (entsL L n))∧w.heap.size≤g∧EntsLOk L n∧Keeps [] w w')∨
 (e= .returned (.tuple #[.slice none 0 0,.bool false])∧¬EntsLOk L n∧Keeps [] w w')
set_option maxRecDepth 100000 in
set_option maxHeartbeats 8000000 in
theorem rowEntriesOf_at {w:World} {v:Value} {g:Nat} {L:List Int} (h:Reads w v g (u64s L)) (hL:L.length≤1000) (n:Nat) (hn:n=L.length/2) (h64:∀k,0≤L.getD k 0∧L.getD k 0<18446744073709551616):
  Calls Tryz.prog 92 #[v] w (EntsLPost w L n):=by
 obtain⟨a,cap,rfl,h1,h2,HC⟩:=u64s_cell h
 have H:=Lib.hid h
 have hq:((L.length:Int)).tdiv 2=(n:Int):=by rw[hn,Int.ofNat_tdiv];rfl
 have hmk:=make_ents n (by omega) (n:Int) rfl w
 have HO0:Hid (Owns (w.alloc (.cells (madeCells #[.string ⟨#[]⟩,.int .i64 0] (n*2)) 85)) (.slice (some ⟨w.heap.size,0,none⟩) n n) w.heap.size 85 2 n (ecells (fillTo (ByteArray.empty,0) (entsL L n) 0))):=by
  have :=owns_ents w n (by omega)
  rw[fillTo_zero,entsL_len]
  exact this
 have HK0:Hid (Keeps [] w (w.alloc (.cells (madeCells #[.string ⟨#[]⟩,.int .i64 0] (n*2)) 85))):=(Keeps.refl _ _).alloc _
 have HL2:Hid (2*n≤L.length):=by show _≤_;omega
 have hn5:n≤500:=by omega
 have H64:=Lib.hid h64
 generalize hm:L.length=m at *
 clear h h64 hn hL hm
 generalize madeCells #[Value.string ⟨#[]⟩,Value.int .i64 0] (n*2)=MC at *
 go_enter Tryz.func92,Tryz.ntmps92
 go_wp2_with fail
 clear hmk
 go_loopg [15] n (λgh s15 wx=>∃k:Nat,k+gh=n∧s15= .int .i64 (k:Int)∧Hid (Owns wx (.slice (some ⟨w.heap.size,0,none⟩) n n) w.heap.size 85 2 n (ecells (fillTo (ByteArray.empty,0) (entsL L n) k))∧(∀j,j<k→(nameN (L.getD (j*2) 0).toNat).isSome=true∧L.getD (j*2+1) 0<32)∧Keeps [] w wx))
 case atStart=>exact⟨0,by omega,rfl,HO0.out,λj hj=>by omega,HK0.out⟩
 case round=>
  clear HO0 HK0
  obtain⟨k,hk,rfl,HP⟩:=hrel
  cases gk with
  |zero=>
   obtain rfl:k=n:=by omega
   have HM:Hid (EntsLPost w L k (.returned (.tuple #[.slice (some ⟨w.heap.size,0,none⟩) k k,.bool true])) wr):=by
    obtain⟨ho,hj,hkp⟩:=HP.out
    have e:=fillTo_all (ByteArray.empty,(0:Int)) (entsL L k)
    rw[entsL_len] at e
    rw[e] at ho
    exact .inl ⟨_,rfl,ho,Nat.le_refl _,hj,hkp⟩
   clear HP hk
   go_wp2_with fail
   go_ret2
   exact HM.out
  |succ gk=>
   have hkn:k<n:=by omega
   have hlt:(k:Int)<(n:Int):=by omega
   have hk0:(0:Int)≤(k:Int):=by omega
   obtain⟨ho,hpre,hkp⟩:=HP.out
   have HPRE:=Lib.hid hpre
   have HKP:=Lib.hid hkp
   have HOW:=Lib.hid ho
   obtain⟨hgl,off,rfl,c0⟩:=HC.out (2*k) (by have :=HL2.out;omega)
   obtain⟨-,off',ho',c1⟩:=HC.out (2*k+1) (by have :=HL2.out;omega)
   cases ho'
   have d0:=(World.cell?_of_block (w:=w) (a:=⟨g,off+2*k,none⟩) (hkp.block g hgl (by simp))).trans c0
   have HD1:Hid (∀wx,Keeps [] wr wx→wx.cell? ⟨g,off+(2*k+1),none⟩=some (.int .u64 (L.getD (k*2+1) 0))):=λwx hk2=>by
    have :=(World.cell?_of_block (w:=w) (a:=⟨g,off+(2*k+1),none⟩) ((hkp.trans' hk2).block g hgl (by simp))).trans c1
    rw[this,Nat.mul_comm 2 k]
   have hW:=H64.out (2*k)
   have hI:=H64.out (k*2+1)
   obtain⟨W,hWe⟩:∃W:Nat,L.getD (2*k) 0=(W:Int):=⟨(L.getD (2*k) 0).toNat,by omega⟩
   rw[hWe] at d0
   have HW:Hid ((L.getD (k*2) 0).toNat=W):=by show _=_;rw[Nat.mul_comm k 2,hWe];omega
   have HNM:=Lib.hid (name_at W wr)
   have hkm:2*(k:Int)+1<(m:Int):=by have :=HL2.out;omega
   have hk2:2*(k:Int)<(m:Int):=by have :=HL2.out;omega
   have HEL:=Lib.hid (entsL_getElem L n k hkn)
   rw[HW.out] at HEL
   have hIlt:=hI.2
   have hI0:=hI.1
   clear c0 c1 hW hI HP ho hpre hkp hWe
   generalize hino:L.getD (k*2+1) 0=ino at *
   have HINO:=Lib.hid hino
   clear hino
   generalize hok:(nameN W).isSome=okb at *
   have HOKB:=Lib.hid hok
   clear hok
   generalize strN ((nameN W).getD [])=nm at *
   have HNO:Hid (¬(okb=true∧ino<32)→¬EntsLOk L n):=λh hh=>by
    have :=hh k hkn
    rw[HW.out,HOKB.out,HINO.out] at this
    exact h this
   cases okb
   ·have HN:Hid (¬EntsLOk L n):=HNO.out (by simp)
    go_wp2_with fail
    refine HNM.out.mono ?_;rintro e w6 ⟨rfl,hk6⟩
    have d1:=HD1.out w6 hk6
    have HKX:=Lib.hid (HKP.out.trans' hk6)
    clear hk6
    go_wp2_with fail
    go_ret2
    exact .inr ⟨rfl,HN.out,HKX.out⟩
   ·by_cases hi32:32≤ino
    ·have HN:Hid (¬EntsLOk L n):=HNO.out λh=>by have :=h.2;omega
     go_wp2_with fail
     refine HNM.out.mono ?_;rintro e w6 ⟨rfl,hk6⟩
     have d1:=HD1.out w6 hk6
     have HKX:=Lib.hid (HKP.out.trans' hk6)
     clear hk6
     go_wp2_with fail
     go_ret2
     exact .inr ⟨rfl,HN.out,HKX.out⟩
    ·have hwi:wrap64 ino=ino:=by unfold wrap64;omega
     have hlen:(fillTo (ByteArray.empty,(0:Int)) (entsL L n) k).length=n:=by rw[fillTo_len _ _ _ (by rw[entsL_len];omega),entsL_len]
     go_wp2_with fail
     refine HNM.out.mono ?_;rintro e w6 ⟨rfl,hk6⟩
     have d1:=HD1.out w6 hk6
     have HK6:=Lib.hid (HKP.out.trans' hk6)
     have HO6:=HOW.out.keepIf hk6 (λ_=>by simp)
     obtain⟨-,-,hc,hf⟩:=HO6.cell (by omega)
     have e0:=(hc (k*2) (by omega)).trans (ecells_get (fillTo (ByteArray.empty,0) (entsL L n) k) k (by rw[hlen];exact hkn)).1
     have e1:=(hc (k*2+1) (by omega)).trans (ecells_get (fillTo (ByteArray.empty,0) (entsL L n) k) k (by rw[hlen];exact hkn)).2
     have f0:=hf (k*2)
     have f1:=hf (k*2+1)
     have HE:=Lib.hid (fillTo_succ (ByteArray.empty,(0:Int)) (entsL L n) k (by rw[entsL_len];exact hkn) (nm,ino) HEL.out)
     have HP:=Lib.hid (HO6.ent k nm ino)
     have HPR:Hid (∀j,j<k+1→(nameN (L.getD (j*2) 0).toNat).isSome=true∧L.getD (j*2+1) 0<32):=λj hj=>by
      by_cases e:j=k
      ·subst e
       rw[HW.out,HOKB.out,HINO.out]
       exact⟨rfl,by omega⟩
      ·exact HPRE.out j (by omega)
     clear hk6 HO6 hc hf hlen HNO
     generalize enm (fillTo (ByteArray.empty,(0:Int)) (entsL L n) k) k=o1 at *
     generalize eno (fillTo (ByteArray.empty,(0:Int)) (entsL L n) k) k=o2 at *
     go_wp2_with fail
     go_roundg gk
     case measure=>omega
     case rel=>
      refine⟨k+1,by omega,by go_num,?_,HPR.out,(HK6.out.setCell (.inr (Nat.le_refl _)) _).setCell (.inr (Nat.le_refl _)) _⟩
      rw[←HE.out]
      exact HP.out
def w64s (l:List Nat):List Value:=l.map λn:Nat=>Value.int .u64 (n:Int)
theorem w64s_len (l:List Nat):(w64s l).length=l.length:=by simp[w64s]
theorem w64s_get {l:List Nat} {j:Nat} (h:j<l.length):(w64s l)[j]? =some (.int .u64 (l.getD j 0:Nat)):=by simp[w64s,h]
theorem foldl_take_succ {β:Type} (f:β→Nat→β) (l:List Nat) (h:β) (k:Nat) (hk:k<l.length):(l.take (k+1)).foldl f h=f ((l.take k).foldl f h) (l.getD k 0):=by
 rw[List.take_succ_eq_append_getElem hk,List.foldl_append]
 simp[List.getD_eq_getElem?_getD,hk]
theorem fnv_u32 {h c:Nat} (hh:h<4294967296) (hc:c<256):bits .xor .u32 (h:Int) (c:Int)*16777619%4294967296=((fnv h c:Nat):Int):=by
 rw[u32_xor_nat h c hh (by omega),fnv]
 rfl
set_option maxHeartbeats 2000000 in
theorem sum_at {w:World} {v:Value} {gb:Nat} {xs:List Nat} (h:Reads w v gb (w64s xs)):
  Calls Tryz.prog 125 #[v] w λe w'=>e= .returned (.int .u32 (sumN xs:Nat))∧Keeps [] w w':=by
 obtain⟨a,cap,rfl,h1,h2,h3⟩:=h
 rw[w64s_len] at *
 unfold maxLen at h2
 have H3:Hid (∀k,k<xs.length→gb<w.heap.size∧∃off,a=some ⟨gb,off,none⟩∧w.cell? ⟨gb,off+k,none⟩=some (.int .u64 (xs.getD k 0:Nat))):=λk hk=>by
  obtain⟨hg,off,ho,hc⟩:=h3 (by intro e;have :=congrArg List.length e;rw[w64s_len,List.length_nil] at this;omega)
  exact⟨hg,off,ho,(hc k hk).trans (w64s_get hk)⟩
 clear h3
 go_enter Tryz.func125,Tryz.ntmps125
 go_wp2_with fail
 go_loopg [3,10] xs.length (λg s3 s10 wx=>∃k:Nat,k+g=xs.length∧s10= .int .i64 (k:Int)∧s3= .int .u32 (((xs.take k).foldl sumW 2166136261:Nat):Int)∧Hid (Keeps [] w wx))
 case atStart=>exact⟨0,by omega,rfl,rfl,Keeps.refl _ _⟩
 case round=>
  obtain⟨k,hk,rfl,rfl,HK⟩:=hrel
  cases gk with
  |zero=>
   obtain rfl:k=xs.length:=by omega
   have hlt:¬(xs.length:Int)<(xs.length:Int):=by omega
   rw[List.take_of_length_le (Nat.le_refl _)]
   go_wp2_with fail
   go_ret
   exact⟨rfl,HK.out⟩
  |succ g=>
   have hlt:(k:Int)<(xs.length:Int):=by omega
   obtain⟨hg,off,rfl,hc⟩:=H3.out k (by omega)
   have hcr:wr.cell? ⟨gb,off+k,none⟩=some (.int .u64 (xs.getD k 0:Nat)):=by
    rw[World.cell?_of_block (w:=w) (HK.out.block gb hg (by simp))]
    exact hc
   have hh:=foldl_sumW_lt (xs.take k) 2166136261 (by decide)
   have HT:=Lib.hid (foldl_take_succ sumW xs 2166136261 k (by omega))
   generalize (xs.take k).foldl sumW 2166136261=h at *
   generalize xs.getD k 0=x at *
   have HB:=Lib.hid (bytes_at x wr)
   clear hc
   go_wp2_with(go_at_call 89;refine HB.out.mono ?_;rintro e w2 ⟨rfl,hk2⟩;have HK2:=Lib.hid (HK.out.trans hk2 (by simp));clear hk2)
   obtain⟨wo,rfl⟩:∃wo:World,wo=wr:=⟨_,rfl⟩
   clear hcr
   go_loopg [3,16] 8 (λg2 s3 s16 wx=>∃k2:Nat,k2+g2=8∧s16= .int .i64 (k2:Int)∧s3= .int .u32 ((((byts x).take k2).foldl fnv h:Nat):Int)∧wx=w2)
   case atStart=>exact⟨0,by omega,rfl,rfl,rfl⟩
   case round=>
    obtain⟨k2,hk2,rfl,rfl,rfl⟩:=hrel
    cases gk with
    |zero=>
     obtain rfl:k2=8:=by omega
     rw[List.take_of_length_le (by rw[byts_len];omega)]
     go_wp2_with fail
     go_roundg g
     case measure=>omega
     case rel=>exact⟨k+1,by omega,by go_num,by rw[HT.out];rfl,HK2.out⟩
    |succ g2=>
     have hlt2:(k2:Int)<8:=by omega
     have hix:=index_bytes (byts x) (byts_len x) k2 (by omega)
     have HT2:=Lib.hid (foldl_take_succ fnv (byts x) h k2 (by rw[byts_len];omega))
     have hh2:=foldl_fnv_lt ((byts x).take k2) h hh
     have hc2:(byts x).getD k2 0<256:=by rw[byts_get x k2 (by omega)];exact byt_lt _ _
     generalize ((byts x).take k2).foldl fnv h=h' at *
     generalize (byts x).getD k2 0=c at *
     have HF:=Lib.hid (fnv_u32 hh2 hc2)
     go_wp2_with fail
     go_roundg g2
     case measure=>omega
     case rel=>
      refine⟨k2+1,by omega,by go_num,?_,rfl⟩
      rw[HT2.out,HF.out]
def bucketN (l:List Nat):Nat:=if goodN l=true then sumN [wordN l]%4 else 0
set_option maxHeartbeats 2000000 in
theorem bucket_at (s:ByteArray) (hs:s.size≤9223372036854775807) (w:World):Calls Tryz.prog 118 #[.string s] w λe w'=>e= .returned (.int .i64 (bucketN (bl s):Nat))∧Keeps [] w w':=by
 have HW:=word_at s hs w
 unfold wordV at HW
 unfold bucketN
 have HW:=Lib.hid HW
 cases hg:goodN (bl s)
 ·rw[hg,if_neg (by simp)] at HW
  rw[if_neg (by simp)]
  clear hg
  go_enter Tryz.func118,Tryz.ntmps118
  go_wp2_with(go_at_call 109;refine HW.out.mono ?_;rintro e w1 ⟨rfl,hk1⟩;have HK1:=Lib.hid hk1;clear hk1)
  go_ret
  exact⟨rfl,HK1.out⟩
 ·rw[hg,if_pos rfl] at HW
  rw[if_pos rfl]
  clear hg
  generalize wordN (bl s)=W at *
  have hq:=sumN_lt [W]
  have HS:=λ(w1:World)=>sum_at (w:=w1.alloc (.cells #[.int .u64 (W:Int)] 29)) (v:= .slice (some ⟨w1.heap.size,0,none⟩) 1 1) (gb:=w1.heap.size) (xs:=[W])
   (Owns.reads (T:= 29) (n:=1) ⟨rfl,_,1,rfl,Nat.le_refl _,by unfold maxLen;omega,λ_=>⟨rfl,_,Blk.new _ _ _,rfl,rfl⟩⟩)
  have HS:=Lib.hid HS
  generalize sumN [W]=q at *
  go_enter Tryz.func118,Tryz.ntmps118
  go_wp2_with(first|(go_at_call 109;refine HW.out.mono ?_;rintro e w1 ⟨rfl,hk1⟩;have HK1:=Lib.hid hk1;clear hk1)|(go_at_call 125;refine(HS.out _).mono ?_;rintro e w2 ⟨rfl,hk2⟩;have HK2:=Lib.hid hk2;clear hk2))
  go_ret
  exact⟨rfl,(HK1.out.alloc _).trans HK2.out (by simp)⟩
def bkt (p:ByteArray×Int):Nat:=bucketN (bl p.1)
theorem bkt_lt (p:ByteArray×Int):bkt p<4:=by
 unfold bkt bucketN
 split
 ·exact Nat.mod_lt _ (by decide)
 ·decide
def sprE (E:List (ByteArray×Int)) (b:Nat):List (ByteArray×Int):=E.filter λp=>bkt p==b
theorem sprE_snoc (E:List (ByteArray×Int)) (p:ByteArray×Int) (b:Nat):sprE (E++[p]) b=if b=bkt p then sprE E b++[p] else sprE E b:=by
 unfold sprE
 rw[List.filter_append]
 by_cases h:b=bkt p
 ·subst h;simp
 ·have :(bkt p==b)=false:=by simp;omega
  simp[this,h]
theorem sprE_len (E:List (ByteArray×Int)) (b:Nat):(sprE E b).length≤E.length:=List.length_filter_le _ _
structure Four (w:World) (base:Nat) (S:Nat→Value) (F:Nat→List (ByteArray×Int)):Prop where
 row:∀b,b<4→w.ownsRow base 85 2 (S b) (F b).length (ecells (F b))
 ne:∀b c,b<4→c<4→b≠c→∀g,(S b).ownBlock=some g→(S c).ownBlock≠some g
def fourC (S:Nat→Value):Array Value:= #[S 0,S 1,S 2,S 3]
theorem fourC_get (S:Nat→Value) {q:Nat} (h:q<4):(fourC S)[q]? =some (S q):=by
 rcases (show q=0∨q=1∨q=2∨q=3 by omega) with rfl|rfl|rfl|rfl<;>rfl
theorem fourC_set (S:Nat→Value) {q:Nat} (h:q<4) (v:Value):(fourC S).setIfInBounds q v=fourC λb=>if b=q then v else S b:=by
 rcases (show q=0∨q=1∨q=2∨q=3 by omega) with rfl|rfl|rfl|rfl<;>rfl
theorem Four.keep {w w':World} {base:Nat} {S:Nat→Value} {F:Nat→List (ByteArray×Int)} (h:Four w base S F) {l:List Nat} (hk:Keeps l w w') (hl:∀x,x∈l→x<base):Four w' base S F:=
 ⟨λb hb=>ownsRow_keep (h.row b hb) hk λg hg hm=>by have :=ownsRow_block (h.row b hb) g hg;have :=hl g hm;omega,h.ne⟩
theorem Four.nil (w:World) (base:Nat):Four w base (λ_=> .slice none 0 0) λ_=>[]:=
 ⟨λ_ _=>⟨rfl,.inl ⟨rfl,rfl⟩⟩,λ_ _ _ _ _ g hg=>by cases hg⟩
theorem ownsRow_lt {w:World} {base T sz n:Nat} {v:Value} {xs:List Value} (h:w.ownsRow base T sz v n xs):∀k,v.ownBlock=some k→k<w.heap.size:=by
 intro k hk
 obtain⟨-,h1⟩:=h
 rcases h1 with ⟨hv,-⟩|⟨g2,cap,cur,hv,-,hh,-⟩
 ·rw[hv] at hk;cases hk
 ·rw[hv] at hk
  cases hk
  exact(Array.getElem?_eq_some_iff.1 hh).1
theorem Four.grow {w w':World} {base:Nat} {S:Nat→Value} {F:Nat→List (ByteArray×Int)} (h:Four w base S F) {q:Nat} (hq:q<4) {v:Value} {p:ByteArray×Int} {g:Nat}
  (hown:w'.ownsRow base 85 2 v ((F q).length+1) (ecells (F q++[p]))) (hgrow:w.grownBy w' (S q).ownBlock) (hv:v.ownBlock=some g) (hat:(S q).ownBlock=some g∨g=w.heap.size):
  Four w' base (λb=>if b=q then v else S b) λb=>if b=q then F b++[p] else F b:=by
 refine⟨λb hb=> ?_,λb c hb hc hbc x hx=> ?_⟩
 ·show w'.ownsRow base _ 2 (if b=q then v else S b) (if b=q then F b++[p] else F b).length (ecells (if b=q then F b++[p] else F b))
  by_cases e:b=q
  ·subst e
   rw[if_pos rfl,if_pos rfl,List.length_append]
   exact hown
  ·rw[if_neg e,if_neg e]
   obtain⟨h0,h1⟩:=h.row b hb
   refine⟨h0,?_⟩
   rcases h1 with ⟨e1,e2⟩|⟨g2,cap,cur,e1,e2,hh,e3⟩
   ·exact .inl ⟨e1,e2⟩
   ·refine .inr ⟨g2,cap,cur,e1,e2,?_,e3⟩
    rw[←hh]
    refine hgrow.block g2 (Array.getElem?_eq_some_iff.1 hh).1 λe4=> ?_
    exact h.ne b q hb hq e g2 (by rw[e1];rfl) e4.symm
 ·have key:∀b,b<4→b≠q→(S b).ownBlock≠some g:=λb hb hbq hx=>by
   rcases hat with h1|h1
   ·exact h.ne b q hb hq hbq g hx h1
   ·have :=ownsRow_lt (h.row b hb) g hx
    omega
  show(if c=q then v else S c).ownBlock≠some x
  have hx':(if b=q then v else S b).ownBlock=some x:=hx
  by_cases e:b=q
  ·rw[if_pos e,hv] at hx'
   cases hx'
   rw[if_neg (by omega)]
   exact key c hc (by omega)
  ·rw[if_neg e] at hx'
   by_cases e2:c=q
   ·rw[if_pos e2,hv]
    intro h3
    cases h3
    exact key b hb e hx'
   ·rw[if_neg e2]
    exact h.ne b c hb hc hbc x hx'
theorem zero_four (w:World):(zeroValue 150).run Tryz.prog w= .ok (.agg (fourC λ_=> .slice none 0 0)) w:=by kernel_rfl
theorem size_four:(Tryz.prog.info? 150).map (·.size)=some 4:=by kernel_rfl
theorem load_four {w:World} {g T:Nat} {S:Nat→Value} (hb:Blk w g (fourC S) T):(loadVar 150 ⟨g,0,none⟩).run Tryz.prog w= .ok (.agg (fourC S)) w:=
 run_loadVar_cells g 0 [S 0,S 1,S 2,S 3] Tryz.underlying150 rfl size_four λj hj=>by
  rw[hb.cell,Nat.zero_add]
  unfold fourC
  rw[List.getElem?_toArray]
theorem spread_done {w w1 wa w2:World} {S:Nat→Value} {Z4:Array Value} {E:List (ByteArray×Int)} {j q m gg2 cap2:Nat} {p:ByteArray×Int} (hwa:Keeps [] w1 wa) (hsz:wa.heap.size=w1.heap.size+1)
  (hf:Four w1 (w.heap.size+2) S (sprE (E.take j))) (hb3:Blk w1 (w.heap.size+1) (fourC S) 150) (hb2:Blk w1 w.heap.size Z4 150) (hkp:Keeps [] w w1) (hq:q<4)
  (hm:(sprE (E.take j) q).length=m) (hown:w2.ownsRow (w.heap.size+2) 85 2 (.slice (some ⟨gg2,0,none⟩) (m+1) cap2) (m+1) (ecells (sprE (E.take j) q)++[.string p.1,.int .i64 p.2]))
  (hgrow:wa.grownBy w2 (S q).ownBlock) (hat:(S q).ownBlock=some gg2∨gg2=w1.heap.size+1) (hsu:∀b,sprE (E.take (j+1)) b=if b=q then sprE (E.take j) b++[p] else sprE (E.take j) b):
  ∃S',Blk (w2.setCell ⟨w.heap.size+1,q,none⟩ (.slice (some ⟨gg2,0,none⟩) (m+1) cap2)) (w.heap.size+1) (fourC S') 150∧Blk (w2.setCell ⟨w.heap.size+1,q,none⟩ (.slice (some ⟨gg2,0,none⟩) (m+1) cap2)) w.heap.size Z4 150∧
   Four (w2.setCell ⟨w.heap.size+1,q,none⟩ (.slice (some ⟨gg2,0,none⟩) (m+1) cap2)) (w.heap.size+2) S' (sprE (E.take (j+1)))∧Keeps [] w (w2.setCell ⟨w.heap.size+1,q,none⟩ (.slice (some ⟨gg2,0,none⟩) (m+1) cap2)):=by
 have hfa:=hf.keep hwa (by simp)
 have hlow:∀k,(S q).ownBlock=some k→w.heap.size+2≤k:=ownsRow_block (hf.row q hq)
 have hb3':=(hgrow.block (w.heap.size+1) (hb3.keep hwa (by simp)).lt (λe=>by have :=hlow _ e.symm;omega)).trans (hb3.keep hwa (by simp))
 have hb2':=(hgrow.block w.heap.size (hb2.keep hwa (by simp)).lt (λe=>by have :=hlow _ e.symm;omega)).trans (hb2.keep hwa (by simp))
 have hF:=hfa.grow (p:=p) (v:= .slice (some ⟨gg2,0,none⟩) (m+1) cap2) (g:=gg2) hq (by rw[hm,ecells_append];exact hown) hgrow rfl (by rw[hsz];exact hat)
 have hS:(λb=>if b=q then sprE (E.take j) b++[p] else sprE (E.take j) b)=sprE (E.take (j+1)):=by
  funext b
  exact(hsu b).symm
 rw[hS] at hF
 refine⟨_,?_,Blk.other hb2' (by simp) _,hF.keep ((Keeps.refl [w.heap.size+1] w2).setCell (p:=⟨w.heap.size+1,q,none⟩) (.inl (by simp)) _) (by intro x hx;rw[List.mem_singleton] at hx;omega),?_⟩
 ·have :=Blk.set hb3' q (.slice (some ⟨gg2,0,none⟩) (m+1) cap2)
  rw[fourC_set S hq] at this
  exact this
 ·exact((hkp.trans' hwa).grown hgrow (λk hk=>by have :=hlow k hk;omega)).setCell (.inr (by show w.heap.size≤w.heap.size+1;omega)) _
def SpreadPost (w:World) (E:List (ByteArray×Int)) (e:Ending) (w':World):Prop:=
 ∃S:Nat→Value,e= .returned (.agg (fourC S))∧Keeps [] w w'∧∀b,b<4→∃g,EReads w' (S b) g (sprE E b)∧w.heap.size≤g
set_option maxRecDepth 100000 in
set_option maxHeartbeats 8000000 in
theorem spread_at {w:World} {v:Value} {g:Nat} {E:List (ByteArray×Int)} (hE:EReads w v g E) (hlen:E.length≤10000) (hsz:∀k,k<E.length→(enm E k).size≤9223372036854775807):
  Calls Tryz.prog 101 #[v] w (SpreadPost w E):=by
 obtain⟨a,cap,rfl,hcap,hmax,HEC⟩:=hE.open
 unfold maxLen at hmax
 obtain⟨i0,hi,hz0,hz1,hz2⟩:=info_parts Tryz.info_entry
 have hzv:=zero_four
 obtain⟨Z4,hZ4⟩:∃Z4,Z4=fourC λ_=> .slice none 0 0:=⟨_,rfl⟩
 rw[←hZ4] at hzv
 have HZ4:=Lib.hid hZ4
 clear hZ4
 have HB3:Hid (Blk ((w.alloc (.cells Z4 150)).alloc (.cells Z4 150)) (w.heap.size+1) Z4 150):=by
  have :=Blk.new (w.alloc (.cells Z4 150)) Z4 150
  have e:(w.alloc (.cells Z4 150)).heap.size=w.heap.size+1:=by simp
  rw[e] at this
  exact this
 have HB2:Hid (Blk ((w.alloc (.cells Z4 150)).alloc (.cells Z4 150)) w.heap.size Z4 150):=(Blk.new w _ _).alloc _
 have HK0:Hid (Keeps [] w ((w.alloc (.cells Z4 150)).alloc (.cells Z4 150))):=((Keeps.refl _ _).alloc _).alloc _
 have HW:Hid (∀j,j<E.length→∀wx,Calls Tryz.prog 118 #[.string (enm E j)] wx λe w'=>e= .returned (.int .i64 (bucketN (bl (enm E j)):Nat))∧Keeps [] wx w'):=λj hj wx=>bucket_at _ (hsz j hj) wx
 have HTS:Hid (∀j,j<E.length→E.take (j+1)=E.take j++[(enm E j,eno E j)]):=λj hj=>take_snocE E j hj
 have HTL:Hid (∀j b,(sprE (E.take j) b).length≤E.length):=λj b=>Nat.le_trans (sprE_len _ _) (by rw[List.length_take];omega)
 have HALL:Hid (E.take E.length=E):=List.take_length
 clear hE hsz
 generalize hn:E.length=n at *
 clear hn
 go_enter Tryz.func101,Tryz.ntmps101
 go_wp2_with fail
 clear hzv
 go_loopg [9] n (λgh s9 wx=>∃(j:Nat) (S:Nat→Value),j+gh=n∧s9= .int .i64 (j:Int)∧Hid (Blk wx (w.heap.size+1) (fourC S) 150∧Blk wx w.heap.size Z4 150∧Four wx (w.heap.size+2) S (sprE (E.take j))∧Keeps [] w wx))
 case atStart=>
  refine⟨0,λ_=> .slice none 0 0,by omega,rfl,?_,HB2.out,?_,HK0.out⟩
  ·rw[←HZ4.out];exact HB3.out
  ·have :sprE (E.take 0)=λ_=>[]:=by funext b;rfl
   rw[this]
   exact Four.nil _ _
 case round=>
  clear HB2 HB3 HK0
  obtain⟨j,S,hj,rfl,HP⟩:=hrel
  cases gk with
  |zero=>
   obtain rfl:j=n:=by omega
   obtain⟨hb3,hb2,hf,hkp⟩:=HP.out
   have HL:=Lib.hid (load_four hb3)
   have hcs:Z4.size=4:=by rw[HZ4.out];rfl
   obtain⟨w2,hS,hb4,hk2⟩:=store_whole (P:= Tryz.prog) (ty:= 150) (cs:=[S 0,S 1,S 2,S 3]) size_four hb2 (by rw[hcs];rfl) (λu hu=>by
    simp only[List.mem_cons,List.not_mem_nil,or_false] at hu
    rcases hu with rfl|rfl|rfl|rfl
    ·obtain⟨a,c,h,-⟩:=ownsRow_val (hf.row 0 (by omega));rw[h];rfl
    ·obtain⟨a,c,h,-⟩:=ownsRow_val (hf.row 1 (by omega));rw[h];rfl
    ·obtain⟨a,c,h,-⟩:=ownsRow_val (hf.row 2 (by omega));rw[h];rfl
    ·obtain⟨a,c,h,-⟩:=ownsRow_val (hf.row 3 (by omega));rw[h];rfl)
   have HS:Hid ((storeVar 150 ⟨w.heap.size,0,none⟩ (.agg (fourC S))).run Tryz.prog wr= .ok () w2):=hS
   have HL2:Hid ((loadVar 150 ⟨w.heap.size,0,none⟩).run Tryz.prog w2= .ok (.agg (fourC S)) w2):=load_four (S:=S) hb4
   have HM:Hid (SpreadPost w E (.returned (.agg (fourC S))) w2):=by
    refine⟨S,rfl,hkp.trans hk2 (by simp),λb hb=> ?_⟩
    have hr:=ownsRow_keep (hf.row b hb) hk2 (λg hg hm=>by
     have :=ownsRow_block (hf.row b hb) g hg
     rw[List.mem_singleton] at hm
     omega)
    rw[HALL.out] at hr
    obtain⟨g,ho,hg⟩:=Owns.of_row hr
    by_cases h0:(sprE E b).length=0
    ·exact⟨w.heap.size,(ho.ereads rfl).anyG h0 _,Nat.le_refl _⟩
    ·exact⟨g,ho.ereads rfl,by have :=(hg h0).1;omega⟩
   clear HP hj hb3 hb2 hf hkp hS hb4 hk2
   go_wp2_with(first|((with_reducible show wpList _ _ _ (⟨_,.load 150 (.tmp 3),_,_,_,_⟩::_) _ _);refine wpList_load_any rfl 150 (.tmp 3) rfl _ rfl _ HL.out ?_)|((with_reducible show wpList _ _ _ (⟨_,.store 150 (.tmp 2) (.tmp 25),_,_,_,_⟩::_) _ _);refine wpList_store_any rfl 150 (.tmp 2) (.tmp 25) rfl _ rfl _ rfl _ HS.out ?_))
   exact bodyPost_ret (results_cell Tryz.results101 rfl HL2.out) rfl HM.out
  |succ gk=>
   have hjn:j<n:=by omega
   have hlt:(j:Int)<(n:Int):=by omega
   have hj0:(0:Int)≤(j:Int):=by omega
   obtain⟨hgl,off,rfl,e0,e1⟩:=HEC.out j hjn
   obtain⟨hb3,hb2,hf,hkp⟩:=HP.out
   have HB3:=Lib.hid hb3
   have HB2:=Lib.hid hb2
   have HF:=Lib.hid hf
   have HKP:=Lib.hid hkp
   have c0:=(World.cell?_of_block (w:=w) (a:=⟨g,off+j*2,none⟩) (hkp.block g hgl (by simp))).trans e0
   have c1:=(World.cell?_of_block (w:=w) (a:=⟨g,off+j*2+1,none⟩) (hkp.block g hgl (by simp))).trans e1
   have HWC:=Lib.hid (HW.out j hjn)
   have HSU:Hid (∀b,sprE (E.take (j+1)) b=if b=bkt (enm E j,eno E j) then sprE (E.take j) b++[(enm E j,eno E j)] else sprE (E.take j) b):=λb=>by rw[HTS.out j hjn,sprE_snoc]
   have hq4:bucketN (bl (enm E j))<4:=bkt_lt (enm E j,eno E j)
   have hqe:bkt (enm E j,eno E j)=bucketN (bl (enm E j)):=rfl
   have hbs:w.heap.size+1<wr.heap.size:=hb3.lt
   rw[hqe] at HSU
   clear e0 e1 HP hb3 hb2 hf hkp hqe
   generalize enm E j=nm at *
   generalize eno E j=ino at *
   generalize bucketN (bl nm)=q at *
   go_wp2_with fail
   refine(HWC.out _).mono ?_;rintro e w1 ⟨rfl,hk1⟩
   have hbx:=(Blk.new wr #[.string nm,.int .i64 ino] 85).keep hk1 (by simp)
   have HKW1:Hid (Keeps [] wr w1):=((Keeps.refl [] wr).alloc (.cells #[.string nm,.int .i64 ino] 85)).trans' hk1
   have HF1:=Lib.hid (HF.out.keep HKW1.out (by simp))
   have HB31:=Lib.hid (HB3.out.keep HKW1.out (by simp))
   have HB21:=Lib.hid (HB2.out.keep HKW1.out (by simp))
   have hws:w.heap.size+2≤w1.heap.size:=by have :=HKW1.out.size;omega
   have d0:∀o,(w1.alloc o).drew.cell? ⟨wr.heap.size,0,none⟩=some (.string nm):=λo=>by rw[(hbx.alloc o).drew.cell];rfl
   have d1:∀o,(w1.alloc o).drew.cell? ⟨wr.heap.size,1,none⟩=some (.int .i64 ino):=λo=>by rw[(hbx.alloc o).drew.cell];rfl
   have d0':w1.cell? ⟨wr.heap.size,0,none⟩=some (.string nm):=by rw[hbx.cell];rfl
   have d1':w1.cell? ⟨wr.heap.size,1,none⟩=some (.int .i64 ino):=by rw[hbx.cell];rfl
   have hrow:=HF1.out.row q hq4
   obtain⟨aq,cq,hSq,q1,q2⟩:=ownsRow_val hrow
   have cq1:w1.cell? ⟨w.heap.size+1,q,none⟩=some (S q):=by rw[HB31.out.cell,fourC_get S hq4]
   have cq2:∀o,(w1.alloc o).drew.cell? ⟨w.heap.size+1,q,none⟩=some (S q):=λo=>by rw[(HB31.out.alloc o).drew.cell,fourC_get S hq4]
   have fq2:∀o,(w1.alloc o).drew.frozen? ⟨w.heap.size+1,q,none⟩=false:=λo=>(HB31.out.alloc o).drew.frozen _
   have hq0:(0:Int)≤(q:Int):=by omega
   have hq4':(q:Int)<4:=by omega
   have hln:=HTL.out j q
   have HROW:=Lib.hid hrow
   have HKP1:=Lib.hid (HKP.out.trans' HKW1.out)
   clear hrow hk1 hbx
   generalize hSQ:S q=sq at *
   subst hSq
   have HSQ:=Lib.hid hSQ
   clear hSQ
   generalize hm:(sprE (E.take j) q).length=m at *
   have HM:=Lib.hid hm
   clear hm
   unfold maxLen at q2
   have hne:(Value.slice aq m cq).ownBlock≠some (w.heap.size+1):=λe=>by have :=ownsRow_block HROW.out _ e;omega
   go_wp2_with fail
   go_region_law ((refine step_append_lies _ (by rfl) _ _ _ (by rfl) (w.heap.size+2) 85 i0 _ 2 24 Tryz.underlying35 hi hz0 hz1 hz2 rfl (by omega) (.slice aq m cq) m _ (by rfl) ((HROW.out.alloc _).drew) ⟨w1.heap.size,0,none⟩ 1 1 [.string nm,.int .i64 ino] (by rfl) (by rfl) (new_cells w1 [_,_] _ _ rfl) (by simp[Value.oneCell']) (by omega) (by unfold maxLen;omega) (by omega) (by simp;omega) (w1.heap.size+1) (by simp) ?_;intro gg2 cap2 w2 hown1 hgrow hat hlt2;have hc1:=(hgrow.cell_far ⟨w.heap.size+1,q,none⟩ (by simp;omega) (Ne.symm hne)).trans (cq2 _);have hf1:=(hgrow.frozen_far ⟨w.heap.size+1,q,none⟩ (by simp;omega) (Ne.symm hne)).trans (fq2 _)))
   all_goals
    have HN:=Lib.hid (spread_done (wa:=(w1.alloc (.cells #[.string nm,.int .i64 ino] 85)).drew) (p:=(nm,ino)) (((Keeps.refl [] w1).alloc _).drew) (by simp) HF1.out HB31.out HB21.out HKP1.out hq4 HM.out hown1 (by rw[HSQ.out];exact hgrow) (by rw[HSQ.out];exact hat) HSU.out)
    clear hown1 hgrow hat hlt2 hc1 hf1
    go_wp2_with fail
    go_roundg gk
    case measure=>omega
    case rel=>
     obtain⟨S',h1,h2,h3,h4⟩:=HN.out
     exact⟨j+1,S',by omega,by go_num,h1,h2,h3,h4⟩
def DirA (n:Ino):Prop:=n.E.length≤24∧n.S=n.E.length∧n.B=List.replicate 13 0
set_option maxRecDepth 100000 in
set_option maxHeartbeats 4000000 in
theorem rightDir_at (n:Ino) (v:Value) (g:Nat) (hB:n.B.length=13) (w:World) (hE:EReads w v g n.E) (hN:∀k,k<n.E.length→(enm n.E k).size≤9223372036854775807):
  Calls Tryz.prog 58 #[.agg (inoC n v)] w λe w'=>e= .returned (.bool (decide (DirP n)))∧Keeps [] w w':=by
 obtain⟨a,cap,rfl,hcap,hmax,HEC⟩:=hE.open
 have HN:=Lib.hid hN
 unfold maxLen at hmax
 obtain⟨Z,hZ⟩:∃Z,Z=inoC n (.slice a n.E.length cap):=⟨_,rfl⟩
 have hat:InoAt Z n (.slice a n.E.length cap):=by rw[hZ];exact inoAt _ hB
 rw[←hZ]
 have hb0:=Blk.new w Z 37
 have c3:(w.alloc (.cells Z 37)).cell? ⟨w.heap.size,3,none⟩=some (.int .i64 n.S):=by rw[hb0.cell];exact hat.f3
 have c17:(w.alloc (.cells Z 37)).cell? ⟨w.heap.size,17,none⟩=some (.slice a n.E.length cap):=by rw[hb0.cell];exact hat.f5
 have HK:Hid (Keeps [] w (w.alloc (.cells Z 37))):=(Keeps.refl [] w).alloc _
 have HB0:=Lib.hid hb0
 have HL:=Lib.hid (load_n13 (off:=4) hb0 hB hat.f4)
 have HC17:Hid (∀wx:World,Blk wx w.heap.size Z 37→wx.cell? ⟨w.heap.size,17,none⟩=some (.slice a n.E.length cap)):=λwx hb=>by rw[hb.cell];exact hat.f5
 have HEQ:=Lib.hid (λwx=>eq_n13 (a:=n.B) (b:=List.replicate 13 0) hB rfl wx)
 have hg13:=guard_n13
 have hzv:=zero_n13
 have HDP:Hid (DirP n↔DirA n∧∀k,k<n.E.length→EntP n.E k):=⟨λh=>⟨⟨h.1,h.2.1,h.2.2.1⟩,h.2.2.2⟩,λh=>⟨h.1.1,h.1.2.1,h.1.2.2,h.2⟩⟩
 clear hb0 hat hZ hB hE hN
 by_cases hlen:24<n.E.length
 ·have HF:Hid (decide (DirP n)=false):=decide_eq_false λh=>by have :=h.1;omega
  clear HDP HN HEC
  generalize n.E.length=m at *
  have h24:(24:Int)<(m:Int):=by omega
  go_enter Tryz.func58,Tryz.ntmps58
  go_wp2_with fail
  go_ret
  exact⟨by rw[HF.out];rfl,HK.out⟩
 ·by_cases hS:n.S=n.E.length
  ·obtain⟨t,ht⟩:∃t,decide (n.B=List.replicate 13 0)=t:=⟨_,rfl⟩
   rw[ht] at HEQ
   have heq:=HEQ.out
   rw[hS] at c3
   have h24:¬(24:Int)<((n.E.length:Nat):Int):=by omega
   cases t
   ·have HF:Hid (decide (DirP n)=false):=decide_eq_false λh=>of_decide_eq_false ht h.2.2.1
    clear HDP HN HEC ht HEQ HC17
    generalize (zs (List.replicate 13 0)).toArray=Z0 at *
    generalize (zs n.B).toArray=ZB at *
    generalize n.E.length=m at *
    have hsame:((m:Int) != (m:Int))=false:=by simp
    go_enter Tryz.func58,Tryz.ntmps58
    go_wp2_with((with_reducible show wpList _ _ _ (⟨_,.load 34 (.tmp 18),_,_,_,_⟩::_) _ _);refine wpList_load_want (by simp[Region.wanted,yielded]) 34 (.tmp 18) rfl _ rfl _ HL.out ?_)
    go_ret
    exact⟨by rw[HF.out];rfl,HK.out⟩
   ·have HA:Hid (DirA n):=⟨by omega,hS,of_decide_eq_true ht⟩
    clear ht HEQ
    generalize (zs (List.replicate 13 0)).toArray=Z0 at *
    generalize (zs n.B).toArray=ZB at *
    generalize hm:n.E.length=m at *
    go_enter Tryz.func58,Tryz.ntmps58
    go_wp2_with((with_reducible show wpList _ _ _ (⟨_,.load 34 (.tmp 18),_,_,_,_⟩::_) _ _);refine wpList_load_want (by simp[Region.wanted,yielded]) 34 (.tmp 18) rfl _ rfl _ HL.out ?_)
    clear hzv heq HL c3 c17
    go_loopg [26] m (λgh s26 wx=>∃k:Nat,k+gh=m∧s26= .int .i64 (k:Int)∧Hid ((∀i,i<k→EntP n.E i)∧Keeps [] (w.alloc (.cells Z 37)) wx))
    case atStart=>exact⟨0,by omega,rfl,by simp,Keeps.refl _ _⟩
    case round=>
     obtain⟨k,hk,rfl,HR⟩:=hrel
     cases gk with
     |zero=>
      obtain rfl:k=m:=by omega
      have HT:Hid (decide (DirP n)=true):=decide_eq_true (HDP.out.2 ⟨HA.out,HR.out.1⟩)
      have HKP:=Lib.hid (HK.out.trans' HR.out.2)
      clear HR hk HDP HC17 hm
      go_wp2_with fail
      go_ret
      exact⟨by rw[HT.out];rfl,HKP.out⟩
     |succ gg=>
      have hkm:k<m:=by omega
      have hlt:(k:Int)<(m:Int):=by omega
      have hk0:(0:Int)≤(k:Int):=by omega
      obtain⟨hg,off,rfl,e0,e1⟩:=HEC.out k hkm
      have hkw:=HK.out.trans' HR.out.2
      have c0:wr.cell? ⟨g,off+k*2,none⟩=some (.string (enm n.E k)):=(World.cell?_of_block (w:=w) (a:=⟨g,off+k*2,none⟩) (hkw.block g hg (by simp))).trans e0
      have c1:wr.cell? ⟨g,off+k*2+1,none⟩=some (.int .i64 (eno n.E k)):=(World.cell?_of_block (w:=w) (a:=⟨g,off+k*2+1,none⟩) (hkw.block g hg (by simp))).trans e1
      have HG:=Lib.hid (λwx=>good_at (enm n.E k) (HN.out k hkm) wx)
      have HEP:Hid (EntP n.E k↔goodN (bl (enm n.E k))=true∧(0≤eno n.E k∧eno n.E k≤31)∧(0<k→leB (enm n.E k) (enm n.E (k-1))=false)):=Iff.rfl
      have HNO:Hid (¬EntP n.E k→decide (DirP n)=false):=λh=>decide_eq_false λhd=>h ((HDP.out.1 hd).2 k hkm)
      have HKW:=Lib.hid hkw
      have HPRE:=Lib.hid HR.out.1
      have HKR:=Lib.hid HR.out.2
      have c17:=HC17.out wr (HB0.out.keep HR.out.2 (by simp))
      have HPV:Hid (∀q,k=q+1→wr.cell? ⟨g,off+q*2,none⟩=some (.string (enm n.E q))):=λq hq=>by
       obtain⟨-,off',ho',f0,-⟩:=HEC.out q (by omega)
       cases ho'
       exact(World.cell?_of_block (w:=w) (a:=⟨g,off+q*2,none⟩) (hkw.block g hg (by simp))).trans f0
      clear hkw e0 e1 HEC HDP HR HC17
      generalize hnm:enm n.E k=nm at *
      generalize eno n.E k=ino at *
      cases hgd:goodN (bl nm)
      ·have HF:Hid (decide (DirP n)=false):=HNO.out λh=>by have :=(HEP.out.1 h).1;rw[hgd] at this;cases this
       rw[hgd] at HG
       clear HEP HNO hgd hk HPV hm
       go_wp2_with fail
       refine(HG.out _).mono ?_;rintro e w' ⟨rfl,rfl⟩
       go_wp2_with fail
       go_ret
       exact⟨by rw[HF.out];rfl,HKW.out.alloc _⟩
      ·rw[hgd] at HG
       by_cases hi0:ino<0
       ·have HF:Hid (decide (DirP n)=false):=HNO.out λh=>by have :=(HEP.out.1 h).2.1.1;omega
        clear HEP HNO hgd hk HPV hm
        go_wp2_with fail
        refine(HG.out _).mono ?_;rintro e w' ⟨rfl,rfl⟩
        go_wp2_with fail
        go_ret
        exact⟨by rw[HF.out];rfl,HKW.out.alloc _⟩
       ·by_cases hi1:32≤ino
        ·have HF:Hid (decide (DirP n)=false):=HNO.out λh=>by have :=(HEP.out.1 h).2.1.2;omega
         clear HEP HNO hgd hk HPV hm
         go_wp2_with fail
         refine(HG.out _).mono ?_;rintro e w' ⟨rfl,rfl⟩
         go_wp2_with fail
         go_ret
         exact⟨by rw[HF.out];rfl,HKW.out.alloc _⟩
        ·by_cases hkz:k=0
         ·have HPN:Hid (∀i,i<k+1→EntP n.E i):=λi hi=>by
           obtain rfl:i=k:=by omega
           exact HEP.out.2 ⟨hgd,⟨by omega,by omega⟩,λh=>absurd h (by omega)⟩
          have hkn:¬(0:Int)<(k:Int):=by omega
          have hkd:decide (0<k)=false:=decide_eq_false (by omega)
          clear HEP HNO hgd HPV hm HPRE hkz
          go_wp2_with fail
          refine(HG.out _).mono ?_;rintro e w' ⟨rfl,rfl⟩
          go_wp2_with fail
          go_quiet (fail)
          go_wp2_with fail
          go_roundg gg
          case measure=>omega
          case rel=>exact⟨k+1,by omega,by go_num,HPN.out,(HKR.out.alloc _).drewN _⟩
         ·obtain⟨q,hq⟩:∃q,k=q+1:=⟨k-1,by omega⟩
          have hpv0:=HPV.out q hq
          have hpv:∀o,(wr.alloc o).cell? ⟨g,off+q*2,none⟩=some (.string (enm n.E q)):=λo=>by
           rw[World.cell?_alloc_some _ _ _ (by rw[hpv0];rfl)]
           exact hpv0
          have c17a:∀o,(wr.alloc o).cell? ⟨w.heap.size,17,none⟩=some (.slice (some ⟨g,off,none⟩) m cap):=λo=>by
           rw[World.cell?_alloc_some _ _ _ (by rw[c17];rfl)]
           exact c17
          clear hpv0
          have hkp:(0:Int)<(k:Int):=by omega
          have hkd:decide (0<k)=true:=decide_eq_true (by omega)
          have hkq:(k:Int)-1=(q:Int):=by omega
          have hqm:(q:Int)<(m:Int):=by omega
          have hq0:(0:Int)≤(q:Int):=by omega
          have hlb:∀b,leB nm (enm n.E q)=b→(Op.bytesLess nm.toList (enm n.E q).toList||(nm.toList==(enm n.E q).toList))=b:=λb h=>h
          have HEP2:Hid (EntP n.E k↔leB nm (enm n.E q)=false):=by
           show _↔_
           rw[HEP.out,show k-1=q by omega]
           exact⟨λh=>h.2.2 (by omega),λh=>⟨hgd,⟨by omega,by omega⟩,λ_=>h⟩⟩
          generalize enm n.E q=pm at *
          cases hle:leB nm pm
          ·have HPN:Hid (∀i,i<k+1→EntP n.E i):=λi hi=>by
            by_cases e:i=k
            ·subst e;exact HEP2.out.2 hle
            ·exact HPRE.out i (by omega)
           have hlb2:=hlb _ hle
           clear HEP HEP2 HNO hgd HPV hm HPRE hkz hlb hle hq
           go_wp2_with fail
           refine(HG.out _).mono ?_;rintro e w' ⟨rfl,rfl⟩
           go_wp2_with fail
           go_quiet (fail)
           go_wp2_with fail
           go_roundg gg
           case measure=>omega
           case rel=>exact⟨k+1,by omega,by go_num,HPN.out,(HKR.out.alloc _).drewN _⟩
          ·have HF:Hid (decide (DirP n)=false):=HNO.out λh=>by
            have :=HEP2.out.1 h
            rw[hle] at this
            cases this
           have hlb2:=hlb _ hle
           clear HEP HEP2 HNO hgd HPV hm HPRE hkz hlb hle hq hk
           go_wp2_with fail
           refine(HG.out _).mono ?_;rintro e w' ⟨rfl,rfl⟩
           go_wp2_with fail
           go_quiet (fail)
           go_wp2_with fail
           go_ret
           exact⟨by rw[HF.out];rfl,(HKW.out.alloc _).drewN _⟩
  ·have HF:Hid (decide (DirP n)=false):=decide_eq_false λh=>hS h.2.1
   have e2:(n.S != ((n.E.length:Nat):Int))=true:=bne_iff_ne.2 hS
   have h24:¬(24:Int)<((n.E.length:Nat):Int):=by omega
   clear HDP HN HEC
   generalize n.S=s at *
   generalize n.E.length=m at *
   go_enter Tryz.func58,Tryz.ntmps58
   go_wp2_with fail
   go_ret
   exact⟨by rw[HF.out];rfl,HK.out⟩
set_option maxRecDepth 100000 in
set_option maxHeartbeats 4000000 in
theorem right_at (n:Ino) (v:Value) (g:Nat) (hB:n.B.length=13) (w:World) (hE:EReads w v g n.E) (hN:∀k,k<n.E.length→(enm n.E k).size≤9223372036854775807):
  Calls Tryz.prog 39 #[.agg (inoC n v)] w λe w'=>e= .returned (.bool (decide (RightP n)))∧Keeps [] w w':=by
 have HRF:Hid (∀wx,Calls Tryz.prog 57 #[.agg (inoC n v)] wx λe w'=>e= .returned (.bool (decide (FileP n)))∧Keeps [] wx w'):=λwx=>by
  obtain⟨a,cap,hv,-⟩:=hE
  subst hv
  exact rightFile_at n a cap hB wx
 have HRD:Hid (∀wx,Keeps [] w wx→Calls Tryz.prog 58 #[.agg (inoC n v)] wx λe w'=>e= .returned (.bool (decide (DirP n)))∧Keeps [] wx w'):=λwx hk=>
  rightDir_at n v g hB wx (hE.keep hk (by simp)) hN
 obtain⟨Z,hZ⟩:∃Z,Z=inoC n v:=⟨_,rfl⟩
 have hat:InoAt Z n v:=by rw[hZ];exact inoAt _ hB
 rw[←hZ] at HRF HRD ⊢
 have hb0:=Blk.new w Z 37
 have c0:(w.alloc (.cells Z 37)).cell? ⟨w.heap.size,0,none⟩=some (.int .i64 n.F):=by rw[hb0.cell];exact hat.f0
 have c1:(w.alloc (.cells Z 37)).cell? ⟨w.heap.size,1,none⟩=some (.int .i64 n.K):=by rw[hb0.cell];exact hat.f1
 have c2:(w.alloc (.cells Z 37)).cell? ⟨w.heap.size,2,none⟩=some (.int .i64 n.L):=by rw[hb0.cell];exact hat.f2
 have HK:Hid (Keeps [] w (w.alloc (.cells Z 37))):=(Keeps.refl [] w).alloc _
 have HL:Hid ((loadVar 37 ⟨w.heap.size,0,none⟩).run Tryz.prog (w.alloc (.cells Z 37))= .ok (.agg Z) (w.alloc (.cells Z 37))):=by
  have :=load_ino (n:=n) (v:=v) (by rw[←hZ];exact hb0) hB
  rw[←hZ] at this
  exact this
 clear hb0 hat hZ hE hN hB
 by_cases hF:n.F=1∨n.F=2
 ·rcases hF with hF|hF
  all_goals
   rw[hF] at c0
   by_cases hL0:n.L<0
   ·have HF:Hid (decide (RightP n)=false):=decide_eq_false λh=>by have :=h.2.1.1;omega
    generalize n.L=l at *
    go_enter Tryz.func39,Tryz.ntmps39
    go_wp2_with fail
    go_ret
    exact⟨by rw[HF.out];rfl,HK.out⟩
   ·by_cases hL1:65535<n.L
    ·have HF:Hid (decide (RightP n)=false):=decide_eq_false λh=>by have :=h.2.1.2;omega
     generalize n.L=l at *
     go_enter Tryz.func39,Tryz.ntmps39
     go_wp2_with fail
     go_ret
     exact⟨by rw[HF.out];rfl,HK.out⟩
    ·by_cases hK1:n.K=1
     ·have HQ:Hid (decide (RightP n)=decide (FileP n)):=decide_eq_decide.2 ⟨λh=>by
       rcases h.2.2 with h|h
       ·exact h.2
       ·omega,λh=>⟨by omega,⟨by omega,by omega⟩,.inl ⟨hK1,h⟩⟩⟩
      rw[hK1] at c1
      generalize decide (FileP n)=q at *
      generalize n.L=l at *
      go_enter Tryz.func39,Tryz.ntmps39
      go_wp2_with((with_reducible show wpList _ _ _ (⟨_,.load 37 (.tmp 1),_,_,_,_⟩::_) _ _);refine wpList_load_any rfl 37 (.tmp 1) rfl _ rfl _ HL.out ?_)
      refine(HRF.out _).mono ?_;rintro e w1 ⟨rfl,hk1⟩
      have HK1:=Lib.hid (HK.out.trans' hk1)
      clear hk1
      go_wp2_with fail
      go_ret
      exact⟨by rw[HQ.out];rfl,HK1.out⟩
     ·by_cases hK2:n.K=2
      ·have HQ:Hid (decide (RightP n)=decide (DirP n)):=decide_eq_decide.2 ⟨λh=>by
        rcases h.2.2 with h|h
        ·omega
        ·exact h.2,λh=>⟨by omega,⟨by omega,by omega⟩,.inr ⟨hK2,h⟩⟩⟩
       rw[hK2] at c1
       generalize decide (DirP n)=q at *
       generalize n.L=l at *
       go_enter Tryz.func39,Tryz.ntmps39
       go_wp2_with((with_reducible show wpList _ _ _ (⟨_,.load 37 (.tmp 1),_,_,_,_⟩::_) _ _);refine wpList_load_any rfl 37 (.tmp 1) rfl _ rfl _ HL.out ?_)
       refine(HRD.out _ HK.out).mono ?_;rintro e w1 ⟨rfl,hk1⟩
       have HK1:=Lib.hid (HK.out.trans' hk1)
       clear hk1
       go_wp2_with fail
       go_ret
       exact⟨by rw[HQ.out];rfl,HK1.out⟩
      ·have HF:Hid (decide (RightP n)=false):=decide_eq_false λh=>by
        rcases h.2.2 with h|h
        ·exact hK1 h.1
        ·exact hK2 h.1
       have k1:(n.K==1)=false:=beq_eq_false_iff_ne.2 hK1
       have k2:(n.K==2)=false:=beq_eq_false_iff_ne.2 hK2
       generalize n.L=l at *
       generalize n.K=kk at *
       go_enter Tryz.func39,Tryz.ntmps39
       go_wp2_with fail
       go_ret
       exact⟨by rw[HF.out];rfl,HK.out⟩
 ·have HF:Hid (decide (RightP n)=false):=decide_eq_false λh=>hF h.1
  have f1:(n.F != 1)=true:=bne_iff_ne.2 λh=>hF (.inl h)
  have f2:(n.F != 2)=true:=bne_iff_ne.2 λh=>hF (.inr h)
  clear hF
  generalize n.F=f at *
  go_enter Tryz.func39,Tryz.ntmps39
  go_wp2_with fail
  go_ret
  exact⟨by rw[HF.out];rfl,HK.out⟩
end Go.Proofs.YtphojondgfjmgaaGreatDoor
