/-
  Layer 6 (fmt1): Read. Layer 6 (fmt1), plain: what is laid is read again. Layer 6 (fmt1), plain: what is laid is read again, just so; what is read is what would be laid.
-/
import Derived.Test.YtphojondgfjmgaaGreatDoorG01
import Derived.Test.YtphojondgfjmgaaGreatDoorG04
import Derived.Test.YtphojondgfjmgaaGreatDoorG07
import Derived.Deep.DeepCutAuto
namespace Go.Proofs.YtphojondgfjmgaaGreatDoor
open Go.RowKit
def inoAtX (X:List Int) (i:Int):List Int:=rowL X (824+8*i.toNat)
def readI (X r:List Int):Ino:=
 if (tagN r).K=2 then { tagN r with E:=entsE X (numAll X r) (r.getD 1 0).toNat } else { tagN r with B:=numAll X r }
def ownI (X r:List Int):List Nat:=
 (if (tagN r).K=2 then ((numAll X r).take (blocksN (r.getD 1 0).toNat)).map Int.toNat else [])++(if r.getD 7 0=0 then [] else [(r.getD 7 0).toNat])
def ReadOk (X r:List Int):Prop:=
 NumOk X r∧r.getD 1 0≤832∧((tagN r).K=2→EntsOk X (numAll X r) (r.getD 1 0).toNat)∧(tagN r).F=1∧RightP (readI X r)∧inoRow (readI X r) (numAll X r) (r.getD 7 0)=r
theorem numAll_256 {X r:List Int} (h:In64 X) (hr:In64 r) (hr8:r.length=8) (hn:NumOk X r):∀k,0≤(numAll X r).getD k 0∧(numAll X r).getD k 0<256:=by
 intro k
 by_cases hk:k<13
 ·refine⟨?_,hn.2.1 k hk⟩
  unfold numAll
  by_cases h5:k<5
  ·simp only[List.getD_eq_getElem?_getD]
   rw[List.getElem?_append_left (by simp[hr8];omega),List.getElem?_take,if_pos h5,List.getElem?_drop]
   have :=(hr (2+k)).1
   rwa[List.getD_eq_getElem?_getD] at this
  ·simp only[List.getD_eq_getElem?_getD]
   rw[List.getElem?_append_right (by simp[hr8];omega)]
   split
   ·rw[List.getElem?_replicate]
    split<;>simp
   ·have :((r.drop 2).take 5).length=5:=by simp[hr8]
    rw[this]
    have h2:=rowL_get X (1080+8*(r.getD 7 0).toNat) (k-5) (by omega)
    rw[List.getD_eq_getElem?_getD,List.getD_eq_getElem?_getD] at h2
    rw[←List.getD_eq_getElem?_getD,←List.getD_eq_getElem?_getD,List.getD_eq_getElem?_getD,List.getD_eq_getElem?_getD] at *
    rw[h2]
    have :=(h (1080+8*(r.getD 7 0).toNat+(k-5))).1
    rwa[List.getD_eq_getElem?_getD] at this
 ·rw[List.getD_eq_getElem?_getD,List.getElem?_eq_none (by rw[numAll_len hr8];omega)]
  simp
theorem size_facts {y:Int} (h:0≤y∧y<18446744073709551616):(y≤832↔0≤wrap64 y∧wrap64 y≤832)∧(y≤832→wrap64 y=y):=by
 unfold wrap64
 omega
def ReadPost (w:World) (X:List Int) (i:Int) (e:Ending) (w':World):Prop:=
 ∃n v g own va ga ok,e= .returned (.tuple #[.agg (inoC n v),va,.bool ok])∧n.B.length=13∧EReads w' v g n.E∧w.heap.size≤g∧RowI w' va ga own∧w.heap.size≤ga∧
  (ok=true→(0≤i∧i<32)∧ReadOk X (inoAtX X i)∧n=readI X (inoAtX X i)∧own=ownI X (inoAtX X i))∧
  (ok=false→¬((0≤i∧i<32)∧ReadOk X (inoAtX X i))∧n=inoZ∧own=[])∧Keeps [] w w'
theorem ReadPost.no {w w':World} {X:List Int} {i:Int} (h:¬((0≤i∧i<32)∧ReadOk X (inoAtX X i))) (hk:Keeps [] w w'):ReadPost w X i (.returned (.tuple #[.agg (inoC inoZ (.slice none 0 0)),.slice none 0 0,.bool false])) w':=
 ⟨inoZ,_,w.heap.size,[],_,w.heap.size,false,rfl,rfl,EReads.nil _ _,Nat.le_refl _,RowI.nil _ _,Nat.le_refl _,λh=>(by cases h),λ_=>⟨h,rfl,rfl⟩,hk⟩
theorem store_zero {w:World} {g:Nat} (hb:Blk w g (inoC inoZ (.slice none 0 0)) 37):
  ∃w',(storeVar 37 ⟨g,0,none⟩ (.agg (inoC inoZ (.slice none 0 0)))).run Tryz.prog w= .ok () w'∧(loadVar 37 ⟨g,0,none⟩).run Tryz.prog w'= .ok (.agg (inoC inoZ (.slice none 0 0))) w'∧Keeps [g] w w':=by
 obtain⟨w',h1,h2,h3⟩:=store_whole (P:= Tryz.prog) (ty:= 37) (cs:=inoL inoZ (.slice none 0 0)) (by rw[inoL_len];exact size_ino) hb rfl (inoL_one rfl)
 exact⟨w',h1,load_ino (n:=inoZ) (v:= .slice none 0 0) h2 rfl,h3⟩
set_option maxRecDepth 100000 in
set_option maxHeartbeats 8000000 in
theorem read_at {w:World} {b gp:Nat} {B:List Int} {ps:List (Int×Int)} (h:ShAt w b gp B ps) (h64:In64 (putAll B ps)) (i:Int):
  Calls Tryz.prog 59 #[.pointer (some ⟨b,0,none⟩),.int .i64 i] w (ReadPost w (putAll B ps) i):=by
 have HS:=Lib.hid h
 have H64:=Lib.hid h64
 have hb0:=Blk.new w (inoC inoZ (.slice none 0 0)) 37
 have HK0:Hid (Keeps [] w (w.alloc (.cells (inoC inoZ (.slice none 0 0)) 37))):=(Keeps.refl _ _).alloc _
 have HB0:=Lib.hid hb0
 have hzi:=zero_ino
 have HI:=Lib.hid (txInode_at i)
 clear h h64 hb0
 have HSZ:Hid (∀wx:World,Blk wx w.heap.size (inoC inoZ (.slice none 0 0)) 37→∃w',(storeVar 37 ⟨w.heap.size,0,none⟩ (.agg (inoC inoZ (.slice none 0 0)))).run Tryz.prog wx= .ok () w'∧(loadVar 37 ⟨w.heap.size,0,none⟩).run Tryz.prog w'= .ok (.agg (inoC inoZ (.slice none 0 0))) w'∧Keeps [w.heap.size] wx w'):=λwx hb=>store_zero hb
 obtain⟨ZI,hZI⟩:∃ZI,inoC inoZ (.slice none 0 0)=ZI:=⟨_,rfl⟩
 rw[hZI] at HSZ HB0 HK0
 have hzi2:∀w:World,(zeroValue 37).run Tryz.prog w= .ok (.agg ZI) w:=λw=>by rw[←hZI];exact hzi w
 have HZI:=Lib.hid hZI
 clear hzi hZI
 by_cases hi32:i<0∨32≤i
 ·have hin:inodeN i= -1:=by unfold inodeN;rw[if_pos hi32]
  rw[hin] at HI
  obtain⟨w1,hst,hld,hk1⟩:=HSZ.out _ HB0.out
  have HST:=Lib.hid hst
  have HLD:=Lib.hid hld
  have HK1:=Lib.hid (HK0.out.trans hk1 (by simp))
  have HN:Hid (¬((0≤i∧i<32)∧ReadOk (putAll B ps) (inoAtX (putAll B ps) i))):=λh=>by have :=h.1;omega
  clear hst hld hk1 hin hi32
  go_enter Tryz.func59,Tryz.ntmps59
  go_wp2_with fail
  refine(HI.out _).mono ?_;rintro e w' ⟨rfl,rfl⟩
  go_wp2_with((with_reducible show wpList _ _ _ (⟨_,.store 37 (.tmp 4) (.tmp 16),_,_,_,_⟩::_) _ _);refine wpList_store_any rfl 37 (.tmp 4) (.tmp 16) rfl _ rfl _ rfl _ HST.out ?_)
  refine bodyPost_ret (results_cell3 Tryz.results59 rfl HLD.out rfl rfl) rfl ?_
  have :=ReadPost.no HN.out HK1.out
  rw[HZI.out] at this
  exact this
 ·have hin:inodeN i=((824+8*i.toNat:Nat):Int):=by unfold inodeN;rw[if_neg hi32];omega
  rw[hin] at HI
  obtain⟨r,hr⟩:∃r,r=inoAtX (putAll B ps) i:=⟨_,rfl⟩
  have hr8:r.length=8:=by rw[hr];exact rowL_len _ _
  have hr64:In64 r:=λj=>by
   rw[hr]
   unfold inoAtX
   by_cases hj:j<8
   ·rw[rowL_get _ _ _ hj];exact H64.out _
   ·rw[List.getD_eq_getElem?_getD,List.getElem?_eq_none (by rw[rowL_len];omega)]
    simp
  have HROW:Hid (Calls Tryz.prog 27 #[.pointer (some ⟨b,0,none⟩),.int .i64 ((824+8*i.toNat:Nat):Int)] (w.alloc (.cells ZI 37)) λe w'=>e= .returned (.agg (u64s r).toArray)∧Keeps [] (w.alloc (.cells ZI 37)) w'):=by
   rw[hr]
   exact rowAt_at (HS.out.keep HK0.out (by simp) (by simp)) (824+8*i.toNat) (by omega)
  have HNO:Hid (¬ReadOk (putAll B ps) r→¬((0≤i∧i<32)∧ReadOk (putAll B ps) (inoAtX (putAll B ps) i))):=λh hh=>h (by rw[hr];exact hh.2)
  have HR:=Lib.hid hr
  have hp0:¬((824+8*i.toNat:Nat):Int)<0:=by omega
  generalize ((824+8*i.toNat:Nat):Int)=p at *
  have hzr8:=zero_r8
  have hzn:=zero_n13
  clear hin hr
  go_enter Tryz.func59,Tryz.ntmps59
  go_wp2_with fail
  refine(HI.out _).mono ?_;rintro e w' ⟨rfl,rfl⟩
  go_wp2_with fail
  refine(HI.out _).mono ?_;rintro e w' ⟨rfl,rfl⟩
  go_wp2_with fail
  refine HROW.out.mono ?_;rintro e w1 ⟨rfl,hk1⟩
  obtain⟨w2,hst2,hb7,hk2⟩:=store_whole (P:= Tryz.prog) (ty:= 74) (cs:=u64s r) (by rw[u64s_len,hr8];exact size_r8) (Blk.new w1 (u64s (List.replicate 8 0)).toArray 74) (by simp[u64s_len,hr8]) (u64s_one _)
  have hb7lt:=(HB0.out.keep hk1 (by simp)).lt
  have hK2:Keeps [] w w2:=((HK0.out.trans' hk1).alloc (.cells (u64s (List.replicate 8 0)).toArray 74)).trans hk2 (by intro x hx;rw[List.mem_singleton] at hx;omega)
  have hB02:=((HB0.out.keep hk1 (by simp)).alloc (.cells (u64s (List.replicate 8 0)).toArray 74)).keep hk2 (by rw[List.mem_singleton];omega)
  have HST2:=Lib.hid hst2
  have HL7:=Lib.hid (load_r8 hb7 hr8)
  have HTG:=Lib.hid (tagged_at r hr8 (hr64 0) (hr64 1) w2)
  have HK2:=Lib.hid hK2
  have HB02:=Lib.hid hB02
  have HB7:=Lib.hid hb7
  have HR64:=Lib.hid hr64
  have HR8:=Lib.hid hr8
  clear hst2 hb7 hk2 hk1 hK2 hB02 HI HROW HB0 HK0 hr64 hr8
  go_wp2_with(first|((with_reducible show wpList _ _ _ (⟨_,.store 74 (.tmp 7) (.tmp 20),_,_,_,_⟩::_) _ _);refine wpList_store_any rfl 74 (.tmp 7) (.tmp 20) rfl _ rfl _ rfl _ HST2.out ?_)|((with_reducible show wpList _ _ _ (⟨_,.load 74 (.tmp 7),_,_,_,_⟩::_) _ _);refine wpList_load_any rfl 74 (.tmp 7) rfl _ rfl _ HL7.out ?_))
  refine HTG.out.mono ?_;rintro e w5 ⟨rfl,hk5⟩
  obtain⟨wn,hst6,hb11,hk6⟩:=store_whole (P:= Tryz.prog) (ty:= 37) (cs:=inoL (tagN r) (.slice none 0 0)) (by rw[inoL_len];exact size_ino) (Blk.new w5 ZI 37) (by have hz:=HZI.out;rw[←hz];rfl) (inoL_one rfl)
  have hs15:w1.heap.size<w5.heap.size:=Nat.lt_of_lt_of_le HB7.out.lt hk5.size
  have hk2n:Keeps [] w2 wn:=(hk5.alloc (.cells ZI 37)).trans hk6 (by intro x hx;rw[List.mem_singleton] at hx;have :=hk5.size;omega)
  have HB7n:=Lib.hid (HB7.out.keep hk2n (by simp))
  have HB0n:=Lib.hid (HB02.out.keep hk2n (by simp))
  have HKn:=Lib.hid (HK2.out.trans' hk2n)
  have HST6:=Lib.hid hst6
  have HB11n:Hid (Blk wn w5.heap.size (inoC (tagN r) (.slice none 0 0)) 37):=hb11
  have e6:(Value.agg (inoL (tagN r) (.slice none 0 0)).toArray)= .agg (inoC (tagN r) (.slice none 0 0)):=rfl
  rw[e6] at HST6
  have HL7n:=Lib.hid (load_r8 HB7n.out HR8.out)
  have HNUM:=Lib.hid (numbersOf_at (HS.out.keep HKn.out (by simp) (by simp)) H64.out r HR8.out HR64.out)
  clear hst6 hb11 hk6 hk2n hk5 HB7 HB02 HK2 HTG HL7 HST2 e6
  go_wp2_with(first|((with_reducible show wpList _ _ _ (⟨_,.store 37 (.tmp 8) (.tmp 22),_,_,_,_⟩::_) _ _);refine wpList_store_any rfl 37 (.tmp 8) (.tmp 22) rfl _ rfl _ rfl _ HST6.out ?_)|((with_reducible show wpList _ _ _ (⟨_,.load 74 (.tmp 7),_,_,_,_⟩::_) _ _);refine wpList_load_any rfl 74 (.tmp 7) rfl _ rfl _ HL7n.out ?_))
  refine HNUM.out.mono ?_;rintro e w3 ⟨la,li,ok,rfl,hok1,hok2,hla,hk3⟩
  obtain⟨w6,hst4,hb8,hk4⟩:=store_whole (P:= Tryz.prog) (ty:= 34) (cs:=zs la) (by rw[zs_len,hla];exact size_n13) (Blk.new w3 (zs (List.replicate 13 0)).toArray 34) (by simp[zs_len,hla]) (zs_one _)
  have hs53:w5.heap.size<w3.heap.size:=Nat.lt_of_lt_of_le HB11n.out.lt hk3.size
  have hkn6:Keeps [] wn w6:=(hk3.alloc (.cells (zs (List.replicate 13 0)).toArray 34)).trans hk4 (by intro x hx;rw[List.mem_singleton] at hx;have :=hk3.size;omega)
  have HB76:=Lib.hid (HB7n.out.keep hkn6 (by simp))
  have HB06:=Lib.hid (HB0n.out.keep hkn6 (by simp))
  have HB116:=Lib.hid (HB11n.out.keep hkn6 (by simp))
  have HB86:=Lib.hid hb8
  have HK6:=Lib.hid (HKn.out.trans' hkn6)
  have HST4:=Lib.hid hst4
  have HLA:=Lib.hid hla
  have hs04:w.heap.size<w1.heap.size:=hb7lt
  clear hst4 hb8 hk4 hkn6 hk3 hla HNUM HST6 HL7n HB7n HB0n HB11n HKn hb7lt
  cases ok
  ·have HN:=Lib.hid (HNO.out λh=>hok2 rfl h.1)
   obtain⟨w9,hst5,hld5,hk5⟩:=HSZ.out w6 HB06.out
   have HST5:=Lib.hid hst5
   have HLD5:=Lib.hid hld5
   have HK5:=Lib.hid (HK6.out.trans hk5 (by simp))
   clear hst5 hld5 hk5 hok1 hok2
   generalize (zs la).toArray=ZLA at *
   go_wp2_with(first|((with_reducible show wpList _ _ _ (⟨_,.store 34 (.tmp 9) (.tmp 27),_,_,_,_⟩::_) _ _);refine wpList_store_any rfl 34 (.tmp 9) (.tmp 27) rfl _ rfl _ rfl _ HST4.out ?_)|((with_reducible show wpList _ _ _ (⟨_,.store 37 (.tmp 4) (.tmp 42),_,_,_,_⟩::_) _ _);refine wpList_store_any rfl 37 (.tmp 4) (.tmp 42) rfl _ rfl _ rfl _ HST5.out ?_))
   refine bodyPost_ret (results_cell3 Tryz.results59 rfl HLD5.out rfl rfl) rfl ?_
   have :=ReadPost.no HN.out HK5.out
   rw[HZI.out] at this
   exact this
  ·obtain⟨hnum,rfl,rfl⟩:=hok1 rfl
   have HNUM:=Lib.hid hnum
   clear hok1 hok2 hnum
   have hr1:=HR64.out 1
   obtain⟨hsz1,hsz2⟩:=size_facts hr1
   obtain⟨sv,hsv⟩:∃sv,sv=wrap64 (r.getD 1 0):=⟨_,rfl⟩
   rw[←hsv] at hsz1 hsz2
   have cS0:w6.cell? ⟨w5.heap.size,3,none⟩=some (.int .i64 sv):=by rw[HB116.out.cell,hsv];rfl
   have HSV:=Lib.hid hsv
   clear hsv
   by_cases hbig:sv<0∨832<sv
   ·have HN:=Lib.hid (HNO.out λh=>by have :=hsz1.1 h.2.1;omega)
    obtain⟨w9,hst5,hld5,hk5⟩:=HSZ.out w6 HB06.out
    have HST5:=Lib.hid hst5
    have HLD5:=Lib.hid hld5
    have HK5:=Lib.hid (HK6.out.trans hk5 (by simp))
    clear hst5 hld5 hk5 hsz1 hsz2 hr1
    generalize (zs (numAll (putAll B ps) r)).toArray=ZLA at *
    generalize r.getD 7 0=li at *
    rcases hbig with hbig|hbig
    ·go_wp2_with(first|((with_reducible show wpList _ _ _ (⟨_,.store 34 (.tmp 9) (.tmp 27),_,_,_,_⟩::_) _ _);refine wpList_store_any rfl 34 (.tmp 9) (.tmp 27) rfl _ rfl _ rfl _ HST4.out ?_)|((with_reducible show wpList _ _ _ (⟨_,.store 37 (.tmp 4) (.tmp 42),_,_,_,_⟩::_) _ _);refine wpList_store_any rfl 37 (.tmp 4) (.tmp 42) rfl _ rfl _ rfl _ HST5.out ?_))
     refine bodyPost_ret (results_cell3 Tryz.results59 rfl HLD5.out rfl rfl) rfl ?_
     have :=ReadPost.no HN.out HK5.out
     rw[HZI.out] at this
     exact this
    ·have hbig0:¬sv<0:=by omega
     go_wp2_with(first|((with_reducible show wpList _ _ _ (⟨_,.store 34 (.tmp 9) (.tmp 27),_,_,_,_⟩::_) _ _);refine wpList_store_any rfl 34 (.tmp 9) (.tmp 27) rfl _ rfl _ rfl _ HST4.out ?_)|((with_reducible show wpList _ _ _ (⟨_,.store 37 (.tmp 4) (.tmp 42),_,_,_,_⟩::_) _ _);refine wpList_store_any rfl 37 (.tmp 4) (.tmp 42) rfl _ rfl _ rfl _ HST5.out ?_))
     refine bodyPost_ret (results_cell3 Tryz.results59 rfl HLD5.out rfl rfl) rfl ?_
     have :=ReadPost.no HN.out HK5.out
     rw[HZI.out] at this
     exact this
   ·have hr832:r.getD 1 0≤832:=hsz1.2 (by omega)
    have hsvr:=hsz2 hr832
    have HWR:Hid (wrap64 (r.getD 1 0)=r.getD 1 0):=by show _=_;rw[←HSV.out];exact hsvr
    have hbig0:¬r.getD 1 0<0:=by omega
    have hbig1:¬832<r.getD 1 0:=by omega
    rw[hsvr] at cS0
    clear hsz1 hsz2 hsvr HSV
    have hr1b:¬832<r.getD 1 0:=by omega
    generalize hr1e:r.getD 1 0=r1 at *
    have HR1E:=Lib.hid hr1e
    generalize hlie:r.getD 7 0=li at *
    have HLIE:=Lib.hid hlie
    clear hr1e hlie hr832
    have cK:w6.cell? ⟨w5.heap.size,1,none⟩=some (.int .i64 (tagN r).K):=by rw[HB116.out.cell];rfl
    have cS:=cS0
    clear cS0
    have HAL:=Lib.hid (numAll_len (X:=putAll B ps) HR8.out)
    have HAL256:Hid (∀k,0≤(numAll (putAll B ps) r).getD k 0∧(numAll (putAll B ps) r).getD k 0<256):=numAll_256 H64.out HR64.out HR8.out HNUM.out
    have HLD8:Hid (∀wx,Keeps [] w6 wx→(loadVar 34 ⟨w3.heap.size,0,none⟩).run Tryz.prog wx= .ok (.agg (zs (numAll (putAll B ps) r)).toArray) wx):=λwx hk=>
     load_n13 (off:=0) (HB86.out.keep hk (by simp)) HAL.out (λk hk=>by rw[Nat.zero_add,List.getElem?_toArray,zs_get (by rw[HAL.out];exact hk)])
    have hi32n:(0≤i∧i<32):=by omega
    have HIR:=Lib.hid hi32n
    clear hi32n hi32
    have hs6:w5.heap.size<w6.heap.size:=HB116.out.lt
    go_upto_if 45 with((with_reducible show wpList _ _ _ (⟨_,.store 34 (.tmp 9) (.tmp 27),_,_,_,_⟩::_) _ _);refine wpList_store_any rfl 34 (.tmp 9) (.tmp 27) rfl _ rfl _ rfl _ HST4.out ?_)
    go_cut [11,12] (λs11 s12 wx=>∃(n:Ino) (v:Value) (g:Nat) (own:List Nat) (okb:Bool) (base:Nat),s11= .bool okb∧Hid (wx.ownsRow base 3 1 s12 own.length (i64s own)∧w6.heap.size≤base∧base≤wx.heap.size∧(n.E.length≠0→g<base)∧w.heap.size<g∧own.length≤13∧Blk wx w5.heap.size (inoC n v) 37∧n.B.length=13∧EReads wx v g n.E∧v.oneCell'=true∧TagOk n∧(∀k,k<n.E.length→(enm n.E k).size≤9223372036854775807)∧Keeps [w5.heap.size] w6 wx∧
     (okb=true→n=readI (putAll B ps) r∧own=(if (tagN r).K=2 then ((numAll (putAll B ps) r).take (blocksN r1.toNat)).map Int.toNat else [])∧((tagN r).K=2→EntsOk (putAll B ps) (numAll (putAll B ps) r) r1.toNat))∧(okb=false→¬ReadOk (putAll B ps) r)))
    case first=>
     have hq2:=HR64.out 0
     have HTK:Hid (TagOk { tagN r with B:=numAll (putAll B ps) r }):=by
      have h3:=HR1E.out
      refine⟨?_,?_,?_,?_⟩
      ·show 0≤r.getD 0 0%256∧r.getD 0 0%256<256;omega
      ·show 0≤r.getD 0 0/256%256∧r.getD 0 0/256%256<256;omega
      ·show 0≤r.getD 0 0/65536%65536∧r.getD 0 0/65536%65536<65536;omega
      ·show 0≤wrap64 (r.getD 1 0)∧wrap64 (r.getD 1 0)<9223372036854775808;rw[h3,HWR.out];omega
     by_cases hK2:(tagN r).K=2
     ·have ek:((tagN r).K==2)=true:=beq_iff_eq.2 hK2
      obtain⟨m,hm⟩:∃m:Nat,r1=(m:Int):=⟨r1.toNat,by omega⟩
      have hmn:r1.toNat=m:=by omega
      rw[hm] at cS
      have HENT:=Lib.hid (entriesOf_at (HS.out.keep HK6.out (by simp) (by simp)) H64.out (numAll (putAll B ps) r) HAL.out HAL256.out m (by omega))
      have HL8:=Lib.hid (HLD8.out w6 (Keeps.refl _ _))
      have HMN:=Lib.hid hmn
      have hsl:=λc hc wx=>slice_to w3.heap.size c hc wx
      obtain⟨i0,hi,hz0,hz1,hz2⟩:=info_parts Tryz.info_int
      have HII:=Lib.hid hi
      clear hm hmn hi
      have HKC:=Lib.hid hK2
      generalize hkk:(tagN r).K=kk at cK ek
      have HKK:=Lib.hid hkk
      clear hkk hK2
      go_wp2_with((with_reducible show wpList _ _ _ (⟨_,.load 34 (.tmp 9),_,_,_,_⟩::_) _ _);refine wpList_load_any rfl 34 (.tmp 9) rfl _ rfl _ HL8.out ?_)
      refine HENT.out.mono ?_;rintro e w7 ⟨v,E,okE,g,rfl,hE,hg,ho1,ho2,hk7⟩
      have hEl:E.length≤24:=by
       cases okE
       ·rw[(ho2 rfl).2];simp
       ·obtain⟨h1,h2⟩:=ho1 rfl
        rw[h2,entsE_len];exact h1.1
      have hcnt:blocksN E.length≤13:=by unfold blocksN;omega
      obtain⟨a,cap,rfl,hcap,hmx,-⟩:=hE.open
      have hb117:=HB116.out.keep hk7 (by simp)
      have c17:w7.cell? ⟨w5.heap.size,17,none⟩=some (.slice none 0 0):=by rw[hb117.cell];exact inoC_E _ rfl
      have f17:w7.frozen? ⟨w5.heap.size,17,none⟩=false:=hb117.frozen 17
      have hb118:=store_E (u:= .slice a E.length cap) (E:=E) hb117 rfl
      have HL11:=Lib.hid (load_ino hb118 rfl)
      have HEB:=Lib.hid (entryBlocks_at { tagN r with E:=E } a cap rfl (by show E.length≤100000;omega))
      have hE8:EReads (w7.setCell ⟨w5.heap.size,17,none⟩ (.slice a E.length cap)) (.slice a E.length cap) g E:=hE.keep ((Keeps.refl [w5.heap.size] w7).setCell (p:=⟨w5.heap.size,17,none⟩) (by simp) _) (λ_=>by rw[List.mem_singleton];omega)
      have hk8:Keeps [w5.heap.size] w6 (w7.setCell ⟨w5.heap.size,17,none⟩ (.slice a E.length cap)):=(hk7.mono (by simp)).setCell (.inl (by simp)) _
      have HE8:=Lib.hid hE8
      have HK8:=Lib.hid hk8
      have HB8:=Lib.hid hb118
      have HG:=Lib.hid hg
      have HO1:=Lib.hid ho1
      have HO2:=Lib.hid ho2
      have HEL:=Lib.hid hEl
      have HB88:=Lib.hid (HB86.out.keep hk8 (by rw[List.mem_singleton];omega))
      have hsl2:=hsl (blocksN E.length) hcnt
      have HCN:Hid (blocksN E.length≤13):=hcnt
      unfold maxLen at hmx
      clear hE hg ho1 ho2 hk7 hb117 hb118 hE8 hk8 hsl hEl hcnt HENT HL8
      have HEBC:Hid (∀wx,Calls Tryz.prog 75 #[.agg (inoC { tagN r with E:=E } (.slice a E.length cap))] wx λe w'=>e= .returned (.int .i64 ((blocksN E.length:Nat):Int))∧Keeps [] wx w'):=HEB.out
      have HLEN:Hid (E.length=E.length):=rfl
      clear HEB HLEN
      go_wp2_with((with_reducible show wpList _ _ _ (⟨_,.load 37 (.tmp 8),_,_,_,_⟩::_) _ _);refine wpList_load_any rfl 37 (.tmp 8) rfl _ rfl _ HL11.out ?_)
      refine(HEBC.out _).mono ?_;rintro e w9 ⟨rfl,hk9⟩
      have HB89:=Lib.hid (HB88.out.keep hk9 (by simp))
      have HE9:=Lib.hid (HE8.out.keep hk9 (by simp))
      have HB9:=Lib.hid (HB8.out.keep hk9 (by simp))
      have HK9:=Lib.hid (HK8.out.trans hk9 (by simp))
      clear hk9
      generalize hcn:blocksN E.length=c at *
      have HCE:=Lib.hid hcn
      clear hcn
      have hc13:=HCN.out
      have hi:=HII.out
      go_wp2_with(at_builtin;refine wpList_append_own _ rfl _ _ 40 rfl w9.heap.size 3 i0 (.int .i64 0) 1 8 Tryz.underlying40 hi hz0 hz1 hz2 rfl (by decide) (.slice none 0 0) 0 [] rfl ⟨rfl,.inl ⟨rfl,rfl⟩⟩ ⟨w3.heap.size,0,none⟩ c 13 (zs ((numAll (putAll B ps) r).take c)) rfl ?c1 ?c2 (zs_one _) (by unfold maxLen;omega) (by omega) (Nat.le_refl _) ?_)
      case c1=>rw[zs_len,List.length_take,HAL.out];omega
      case c2=>
       intro j u hu
       rw[add_plain,Nat.zero_add,HB89.out.cell,List.getElem?_toArray]
       have hj:j<c:=by
        have :=(List.getElem?_eq_some_iff.1 hu).1
        rw[zs_len,List.length_take] at this
        omega
       rw[zs_get (by rw[HAL.out];omega)]
       rw[zs_get (by rw[List.length_take,HAL.out];omega)] at hu
       rw[←hu]
       simp[List.getD_eq_getElem?_getD,hj]
      intro v' w10 hown1 hgrow _
      have hk10:Keeps [] w9 w10:=Keeps.of_grown hgrow (by simp[Value.ownBlock])
      have hgsz:g<w9.heap.size∨E.length=0:=by
       obtain⟨a2,c2,-,-,-,h4⟩:=HE9.out
       by_cases h0:E.length=0
       ·exact .inr h0
       ·exact .inl (h4 h0).1
      have HREL:Hid (∃(n:Ino) (v:Value) (g:Nat) (own:List Nat) (okb:Bool) (base:Nat),Value.bool okE= .bool okb∧Hid (w10.ownsRow base 3 1 v' own.length (i64s own)∧w6.heap.size≤base∧base≤w10.heap.size∧(n.E.length≠0→g<base)∧w.heap.size<g∧own.length≤13∧Blk w10 w5.heap.size (inoC n v) 37∧n.B.length=13∧EReads w10 v g n.E∧v.oneCell'=true∧TagOk n∧(∀k,k<n.E.length→(enm n.E k).size≤9223372036854775807)∧Keeps [w5.heap.size] w6 w10∧
       (okb=true→n=readI (putAll B ps) r∧own=(if (tagN r).K=2 then ((numAll (putAll B ps) r).take (blocksN r1.toNat)).map Int.toNat else [])∧((tagN r).K=2→EntsOk (putAll B ps) (numAll (putAll B ps) r) r1.toNat))∧(okb=false→¬ReadOk (putAll B ps) r))):=by
       have hol:(((numAll (putAll B ps) r).take c).map Int.toNat).length=c:=by rw[List.length_map,List.length_take,HAL.out];omega
       have hoz:i64s (((numAll (putAll B ps) r).take c).map Int.toNat)=zs ((numAll (putAll B ps) r).take c):=zs_nat λk=>by
        by_cases hk:k<c
        ·have :=(HAL256.out k).1
         simp only[List.getD_eq_getElem?_getD,List.getElem?_take,if_pos hk] at this ⊢
         exact this
        ·rw[List.getD_eq_getElem?_getD,List.getElem?_take,if_neg hk]
         simp
       refine⟨{ tagN r with E:=E },.slice a E.length cap,g,((numAll (putAll B ps) r).take c).map Int.toNat,okE,w9.heap.size,rfl,?_,HK9.out.size,hk10.size,λh=>hgsz.resolve_right h,by have :=HG.out;have :=HK6.out.size;omega,by rw[hol];exact hc13,HB9.out.keep hk10 (by simp),rfl,HE9.out.keep hk10 (by simp),rfl,⟨HTK.out.f,HTK.out.k,HTK.out.l,HTK.out.s⟩,?_,HK9.out.trans hk10 (by simp),λh=> ?_,λh hr=> ?_⟩
       ·rw[hol,hoz]
        exact hown1
       ·intro k hk
        cases hok:okE
        ·have h2:=(HO2.out hok).2
         have hk':k<E.length:=hk
         rw[h2] at hk'
         simp at hk'
        ·have h2:=(HO1.out hok).2
         have hk':k<E.length:=hk
         show(enm E k).size≤_
         rw[h2,entsE_len] at hk'
         rw[h2,(entsE_get _ _ _ _ hk').1]
         have :=name_size (entW (putAll B ps) (numAll (putAll B ps) r) k)
         omega
       ·obtain⟨h1,h2⟩:=HO1.out h
        rw[HMN.out]
        refine⟨?_,?_,λ_=>h1⟩
        ·unfold readI
         rw[if_pos HKC.out,HR1E.out,HMN.out,←h2]
        ·rw[if_pos HKC.out,←HCE.out,h2,entsE_len]
       ·have h2:=hr.2.2.1 HKC.out
        rw[HR1E.out,HMN.out] at h2
        exact(HO2.out h).1 h2
      clear hown1 hgrow hk10 hgsz hi
      go_wp2_with fail
      go_meet
      case rel=>exact HREL.out
     ·have ek:((tagN r).K==2)=false:=beq_eq_false_iff_ne.2 hK2
      obtain⟨w7,hst7,hb117,hk7⟩:=store_B (l:=numAll (putAll B ps) r) HB116.out rfl HAL.out
      have HL8:=Lib.hid (HLD8.out w6 (Keeps.refl _ _))
      have HST7:=Lib.hid hst7
      have HREL:Hid (∃(n:Ino) (v:Value) (g:Nat) (own:List Nat) (okb:Bool) (base:Nat),Value.bool true= .bool okb∧Hid (w7.ownsRow base 3 1 (.slice none 0 0) own.length (i64s own)∧w6.heap.size≤base∧base≤w7.heap.size∧(n.E.length≠0→g<base)∧w.heap.size<g∧own.length≤13∧Blk w7 w5.heap.size (inoC n v) 37∧n.B.length=13∧EReads w7 v g n.E∧v.oneCell'=true∧TagOk n∧(∀k,k<n.E.length→(enm n.E k).size≤9223372036854775807)∧Keeps [w5.heap.size] w6 w7∧
       (okb=true→n=readI (putAll B ps) r∧own=(if (tagN r).K=2 then ((numAll (putAll B ps) r).take (blocksN r1.toNat)).map Int.toNat else [])∧((tagN r).K=2→EntsOk (putAll B ps) (numAll (putAll B ps) r) r1.toNat))∧(okb=false→¬ReadOk (putAll B ps) r))):=by
       refine⟨{ tagN r with B:=numAll (putAll B ps) r },.slice none 0 0,w6.heap.size,[],true,w6.heap.size,rfl,⟨rfl,.inl ⟨rfl,rfl⟩⟩,Nat.le_refl _,hk7.size,λh=>absurd rfl h,by omega,by simp,hb117,HAL.out,EReads.nil _ _,rfl,HTK.out,λk hk=>absurd hk (by show ¬k<0;omega),hk7,λ_=>⟨?_,by rw[if_neg hK2],λh=>absurd h hK2⟩,λh=>(by cases h)⟩
       unfold readI
       rw[if_neg hK2]
      clear hst7 hb117 hk7
      generalize (zs (numAll (putAll B ps) r)).toArray=ZLA at *
      generalize (tagN r).K=kk at *
      go_wp2_with(first|((with_reducible show wpList _ _ _ (⟨_,.load 34 (.tmp 9),_,_,_,_⟩::_) _ _);refine wpList_load_any rfl 34 (.tmp 9) rfl _ rfl _ HL8.out ?_)|((with_reducible show wpList _ _ _ (⟨_,.store 34 (.tmp 61) (.tmp 60),_,_,_,_⟩::_) _ _);refine wpList_store_any rfl 34 (.tmp 61) (.tmp 60) rfl _ rfl _ rfl _ HST7.out ?_))
      go_meet
      case rel=>exact HREL.out
    case rest=>
     obtain⟨n,v,g,own,okb,base,rfl,HC⟩:=hcut
     obtain⟨hown,hb1,hb2,hb3,hb4,hb5,hbn,hnB,hE,hv1,htk,hsz,hkc,hok1,hok2⟩:=HC.out
     obtain⟨i0,hi,hz0,hz1,hz2⟩:=info_parts Tryz.info_int
     have HII:=Lib.hid hi
     have hle:=HR64.out 7
     rw[HLIE.out] at hle
     have hli256:li<256:=by have :=HNUM.out.1;rw[HLIE.out] at this;exact this
     have HBN:=Lib.hid hbn
     have HE:=Lib.hid hE
     have HKC:=Lib.hid hkc
     have HOW:=Lib.hid hown
     have HV1:=Lib.hid hv1
     have HTKN:=Lib.hid htk
     have HSZN:=Lib.hid hsz
     have HOK1:=Lib.hid hok1
     have HOK2:=Lib.hid hok2
     have HNB:=Lib.hid hnB
     clear HC hown hbn hE hkc hok1 hok2 hi hv1 htk hsz hnB
     go_upto_if 63 with fail
     go_cut [12] (λs12 wx=>∃(ga:Nat),Hid (RowI wx s12 ga (own++(if li=0 then [] else [li.toNat]))∧w.heap.size<ga∧Blk wx w5.heap.size (inoC n v) 37∧EReads wx v g n.E∧Keeps [w5.heap.size] w6 wx))
     case first=>
      by_cases hl0:li=0
      ·have e0:(li != 0)=false:=by rw[hl0];rfl
       have HREL:Hid (∃(ga:Nat),Hid (RowI wc u12 ga (own++(if li=0 then [] else [li.toNat]))∧w.heap.size<ga∧Blk wc w5.heap.size (inoC n v) 37∧EReads wc v g n.E∧Keeps [w5.heap.size] w6 wc)):=by
        obtain⟨ga,ho,hga⟩:=RowI.of_row HOW.out
        rw[if_pos hl0,List.append_nil]
        exact⟨ga,ho,by have :=HK6.out.size;omega,HBN.out,HE.out,HKC.out⟩
       go_wp2_with fail
       go_meet
       case rel=>exact HREL.out
      ·have e0:(li != 0)=true:=bne_iff_ne.2 hl0
       have hi:=HII.out
       go_wp2_with(at_builtin;refine wpList_append_own _ rfl _ _ 40 rfl base 3 i0 (.int .i64 0) 1 8 Tryz.underlying40 hi hz0 hz1 hz2 rfl (by decide) u12 own.length (i64s own) rfl (HOW.out.alloc _) ⟨wc.heap.size,0,none⟩ 1 1 [.int .i64 li] rfl rfl ?c1 ?c2 (by unfold maxLen;omega) (by omega) (by simp;omega) ?_)
       case c1=>exact new_cells _ [_] _ _ rfl
       case c2=>simp[Value.oneCell']
       intro v' w8 hown1 hgrow hnil
       have HREL:Hid (∃(ga:Nat),Hid (RowI w8 v' ga (own++(if li=0 then [] else [li.toNat]))∧w.heap.size<ga∧Blk w8 w5.heap.size (inoC n v) 37∧EReads w8 v g n.E∧Keeps [w5.heap.size] w6 w8)):=by
        have e1:i64s (own++[li.toNat])=i64s own++[.int .i64 li]:=by
         rw[i64s_append]
         congr 1
         simp[i64s]
         omega
        have hown2:=hown1
        rw[←e1,show own.length+1=(own++[li.toNat]).length by simp] at hown2
        obtain⟨ga,ho,hga⟩:=RowI.of_row hown2
        rw[if_neg hl0]
        have hnew:∀k,u12.ownBlock=some k→base≤k:=ownsRow_block HOW.out
        have hkw:Keeps [w5.heap.size] w6 w8:=(HKC.out.alloc (.cells #[.int .i64 li] 3)).trans (Keeps.of_grown (l:=(u12.ownBlock).toList) hgrow (λk hk=> .inl (by rw[hk];simp))) (λx hx=> .inr (by
         cases hub:u12.ownBlock with
         |none=>rw[hub] at hx;simp at hx
         |some y=>
          rw[hub] at hx
          simp at hx
          have :=hnew y hub
          omega))
        refine⟨ga,ho,by have :=HK6.out.size;omega,?_,?_,hkw⟩
        ·exact(hgrow.block _ (HBN.out.alloc _).lt (λe=>by have :=hnew _ e.symm;omega)).trans (HBN.out.alloc _)
        ·refine(HE.out.keep ((Keeps.refl [] wc).alloc _) (by simp)).keep (Keeps.of_grown (l:=(u12.ownBlock).toList) hgrow (λk hk=> .inl (by rw[hk];simp))) λh0 hm=> ?_
         cases hub:u12.ownBlock with
         |none=>rw[hub] at hm;simp at hm
         |some y=>
          rw[hub] at hm
          simp at hm
          have :=hnew y hub
          have :=hb3 h0
          omega
       clear hown1 hgrow hnil hi
       go_wp2_with fail
       go_meet
       case rel=>exact HREL.out
     case rest=>
      obtain⟨ga,HD⟩:=hcut
      obtain⟨hrd,hga,hbn,hE,hkc⟩:=HD.out
      have hs05:w.heap.size<w5.heap.size:=by omega
      have HB0c:=Lib.hid (HB06.out.keep hkc (by rw[List.mem_singleton];omega))
      have HKc:Hid (Keeps [] w wc):=HK6.out.trans hkc (by intro x hx;rw[List.mem_singleton] at hx;omega)
      have hb7c:=HB76.out.keep hkc (by rw[List.mem_singleton];omega)
      have hb8c:=HB86.out.keep hkc (by rw[List.mem_singleton];omega)
      have HLF:Hid (∀wx,Keeps [] wc wx→(loadVar 3 ⟨w5.heap.size,0,none⟩).run Tryz.prog wx= .ok (.int .i64 n.F) wx):=λwx hk=>load_one (off:=0) Tryz.underlying3 (hbn.keep hk (by simp)) rfl
      have HLN:Hid (∀wx,Keeps [] wc wx→(loadVar 37 ⟨w5.heap.size,0,none⟩).run Tryz.prog wx= .ok (.agg (inoC n v)) wx):=λwx hk=>load_ino (hbn.keep hk (by simp)) HNB.out
      have HLA8:Hid (∀wx,Keeps [] wc wx→(loadVar 34 ⟨w3.heap.size,0,none⟩).run Tryz.prog wx= .ok (.agg (zs (numAll (putAll B ps) r)).toArray) wx):=λwx hk=>
       load_n13 (off:=0) (hb8c.keep hk (by simp)) HAL.out (λk hk=>by rw[Nat.zero_add,List.getElem?_toArray,zs_get (by rw[HAL.out];exact hk)])
      have HLR7:Hid (∀wx,Keeps [] wc wx→(loadVar 74 ⟨w1.heap.size,0,none⟩).run Tryz.prog wx= .ok (.agg (u64s r).toArray) wx):=λwx hk=>load_r8 (hb7c.keep hk (by simp)) HR8.out
      have HRT:Hid (∀wx,Keeps [] wc wx→Calls Tryz.prog 39 #[.agg (inoC n v)] wx λe w'=>e= .returned (.bool (decide (RightP n)))∧Keeps [] wx w'):=λwx hk=>right_at n v g HNB.out wx (hE.keep hk (by simp)) HSZN.out
      have HRW:Hid (∀wx,Calls Tryz.prog 76 #[.agg (inoC n v),.agg (zs (numAll (putAll B ps) r)).toArray,.int .i64 li] wx λe w'=>e= .returned (.agg (u64s (inoRow n (numAll (putAll B ps) r) li)).toArray)∧Keeps [] wx w'):=λwx=>
       inodeRow_at n v HNB.out HTKN.out _ HAL.out (λk=>by have :=HAL256.out k;omega) li ⟨hle.1,by omega⟩ wx
      have hirl:(inoRow n (numAll (putAll B ps) r) li).length=8:=by simp[inoRow,HAL.out]
      have HEQR:=Lib.hid (λwx=>eq_r8 (a:=inoRow n (numAll (putAll B ps) r) li) (b:=r) hirl HR8.out wx)
      have hgr8:=guard_r8
      have HREADN:Hid (okb=true→(ReadOk (putAll B ps) r↔n.F=1∧RightP n∧inoRow n (numAll (putAll B ps) r) li=r)):=λh=>by
       obtain⟨h1,-,h3⟩:=HOK1.out h
       have hF:n.F=(tagN r).F:=by
        rw[h1]
        unfold readI
        split<;>rfl
       unfold ReadOk
       rw[←h1,hF,HLIE.out,HR1E.out]
       exact⟨λh=>h.2.2.2,λh=>⟨HNUM.out,by omega,h3,h⟩⟩
      have HFIN:Hid (∀wx,Keeps [] wc wx→okb=true→ReadOk (putAll B ps) r→∃w',(storeVar 37 ⟨w.heap.size,0,none⟩ (.agg (inoC n v))).run Tryz.prog wx= .ok () w'∧(loadVar 37 ⟨w.heap.size,0,none⟩).run Tryz.prog w'= .ok (.agg (inoC n v)) w'∧ReadPost w (putAll B ps) i (.returned (.tuple #[.agg (inoC n v),u12,.bool true])) w'):=λwx hk hok hread=>by
       obtain⟨w',h1,h2,h3⟩:=store_whole (P:= Tryz.prog) (ty:= 37) (cs:=inoL n v) (by rw[inoL_len,HNB.out];exact size_ino) (HB0c.out.keep hk (by simp)) (by have hz:=HZI.out;rw[←hz,inoL_len,HNB.out];rfl) (inoL_one HV1.out)
       obtain⟨e1,e2,-⟩:=HOK1.out hok
       have hk':Keeps [] w w':=(HKc.out.trans' hk).trans h3 (by intro x hx;rw[List.mem_singleton] at hx;omega)
       refine⟨w',h1,load_ino h2 HNB.out,n,v,g,own++(if li=0 then [] else [li.toNat]),u12,ga,true,rfl,HNB.out,?_,Nat.le_of_lt hb4,?_,Nat.le_of_lt hga,λ_=>⟨HIR.out,?_,?_,?_⟩,λh=>(by cases h),hk'⟩
       ·refine(hE.keep hk (by simp)).keep h3 λh0=> ?_
        rw[List.mem_singleton]
        omega
       ·refine(hrd.keep hk (by simp)).keep h3 ?_
        rw[List.mem_singleton]
        omega
       ·rw[←HR.out];exact hread
       ·rw[←HR.out];exact e1
       ·rw[←HR.out,e2]
        unfold ownI
        rw[HLIE.out,HR1E.out]
      clear HD hrd hga hbn hE hkc hb7c hb8c hirl
      obtain⟨tR,htR⟩:∃t,decide (RightP n)=t:=⟨_,rfl⟩
      rw[htR] at HRT
      obtain⟨tW,htW⟩:∃t,decide (inoRow n (numAll (putAll B ps) r) li=r)=t:=⟨_,rfl⟩
      rw[htW] at HEQR
      have heqr:=HEQR.out
      have HTR:=Lib.hid htR
      have HTW:=Lib.hid htW
      clear htR htW HEQR
      generalize (u64s (inoRow n (numAll (putAll B ps) r) li)).toArray=ZW at *
      generalize (zs (numAll (putAll B ps) r)).toArray=ZA at *
      generalize (u64s r).toArray=ZR at *
      generalize inoC n v=ZN at *
      generalize hf:n.F=f at *
      have HFE:=Lib.hid hf
      clear hf
      have HNOT:Hid (¬(okb=true∧f=1∧tR=true∧tW=true)→¬((0≤i∧i<32)∧ReadOk (putAll B ps) (inoAtX (putAll B ps) i))):=λh=>HNO.out λhr=>by
       cases hokb:okb
       ·exact HOK2.out hokb hr
       ·obtain⟨h1,h2,h3⟩:=(HREADN.out hokb).1 hr
        refine h ⟨hokb,h1,?_,?_⟩
        ·rw[←HTR.out];exact decide_eq_true h2
        ·rw[←HTW.out];exact decide_eq_true h3
      by_cases hgood:okb=true∧f=1∧tR=true∧tW=true
      ·obtain⟨rfl,rfl,rfl,rfl⟩:=hgood
       have HRD:Hid (ReadOk (putAll B ps) r):=(HREADN.out rfl).2 ⟨rfl,of_decide_eq_true HTR.out,of_decide_eq_true HTW.out⟩
       have hfB:(1:Int)=1:=rfl
       clear HNOT HNO HREADN HOK1 HOK2
       go_wp2_with fail
       refine wp_region_each (S:=λwx=>Keeps [] wc wx) (by kernel_rfl) (by kernel_rfl) (λd _ _ _ _ h=>by cases d<;>exact h) ((Keeps.refl _ _).drew) (by kernel_rfl) ?_
       repeat (first
        |(refine EachList.cons (.int .i64 1) (EachIf.load rfl 3 (.tmp 71) rfl _ rfl λwx hx=>HLF.out wx hx) ?_;simp only[Act.put,List.setIfInBounds_toArray,List.set_cons_zero,List.set_cons_succ])
        |(refine EachList.cons (.agg ZN) (EachIf.load rfl 37 (.tmp 8) rfl _ rfl λwx hx=>HLN.out wx hx) ?_;simp only[Act.put,List.setIfInBounds_toArray,List.set_cons_zero,List.set_cons_succ])
        |(refine EachList.cons (.agg ZA) (EachIf.load rfl 34 (.tmp 9) rfl _ rfl λwx hx=>HLA8.out wx hx) ?_;simp only[Act.put,List.setIfInBounds_toArray,List.set_cons_zero,List.set_cons_succ])
        |(refine EachList.cons (.agg ZR) (EachIf.load rfl 74 (.tmp 7) rfl _ rfl λwx hx=>HLR7.out wx hx) ?_;simp only[Act.put,List.setIfInBounds_toArray,List.set_cons_zero,List.set_cons_succ])
        |(refine EachList.cons (.bool true) (EachIf.call rfl 39 #[.agg ZN] ?he ?h) ?_;(case he=>(intro wz;go_simp));(case h=>exact λwx hx=>(HRT.out wx hx).mono λe w' he=>⟨he.1,hx.trans' he.2⟩);simp only[Act.put,List.setIfInBounds_toArray,List.set_cons_zero,List.set_cons_succ])
        |(refine EachList.cons (.agg ZW) (EachIf.call rfl 76 #[.agg ZN,.agg ZA,.int .i64 li] ?he ?h) ?_;(case he=>(intro wz;go_simp));(case h=>exact λwx hx=>(HRW.out wx).mono λe w' he=>⟨he.1,hx.trans' he.2⟩);simp only[Act.put,List.setIfInBounds_toArray,List.set_cons_zero,List.set_cons_succ])
        |(refine EachList.cons undef (EachIf.off rfl) ?_;simp only[Act.put,List.setIfInBounds_toArray,List.set_cons_zero,List.set_cons_succ])
        |(refine EachList.cons (.bool true) (EachIf.val rfl ?h) ?_;(case h=>(intro wx hx;clear hx;first|(go_simp;done)|(go_simp;simp[hfB];done)));simp only[Act.put,List.setIfInBounds_toArray,List.set_cons_zero,List.set_cons_succ])
        |(refine EachList.cons (.bool false) (EachIf.val rfl ?h) ?_;(case h=>(intro wx hx;clear hx;first|(go_simp;done)|(go_simp;simp[hfB];done)));simp only[Act.put,List.setIfInBounds_toArray,List.set_cons_zero,List.set_cons_succ])
        |(refine EachList.cons ?_ (EachIf.val rfl ?h) ?_;(case h=>(intro wx hx;clear hx;go_simp;rfl));simp only[Act.put,List.setIfInBounds_toArray,List.set_cons_zero,List.set_cons_succ]))
       refine EachList.done λwz hx=> ?_
       have HKZ:=Lib.hid hx
       clear hx
       obtain⟨w9,hst9,hld9,hpost⟩:=HFIN.out wz HKZ.out trivial HRD.out
       have HST9:=Lib.hid hst9
       have HLD9:=Lib.hid hld9
       have HP9:=Lib.hid hpost
       have HLN9:=Lib.hid (HLN.out wz HKZ.out)
       clear hst9 hld9 hpost
       go_wp2_with(first|((with_reducible show wpList _ _ _ (⟨_,.load 37 (.tmp 8),_,_,_,_⟩::_) _ _);refine wpList_load_any rfl 37 (.tmp 8) rfl _ rfl _ HLN9.out ?_)|((with_reducible show wpList _ _ _ (⟨_,.store 37 (.tmp 4) (.tmp 89),_,_,_,_⟩::_) _ _);refine wpList_store_any rfl 37 (.tmp 4) (.tmp 89) rfl _ rfl _ rfl _ HST9.out ?_))
       exact bodyPost_ret (results_cell3 Tryz.results59 rfl HLD9.out rfl rfl) rfl HP9.out
      ·have HN:=Lib.hid (HNOT.out hgood)
       clear HNOT HNO HREADN HOK1 HOK2 HFIN
       cases okb
       ·have hfB:(1:Int)=1:=rfl
        clear hgood
        go_wp2_with fail
        refine wp_region_each (S:=λwx=>Keeps [] wc wx) (by kernel_rfl) (by kernel_rfl) (λd _ _ _ _ h=>by cases d<;>exact h) ((Keeps.refl _ _).drew) (by kernel_rfl) ?_
        repeat (first
         |(refine EachList.cons (.int .i64 f) (EachIf.load rfl 3 (.tmp 71) rfl _ rfl λwx hx=>HLF.out wx hx) ?_;simp only[Act.put,List.setIfInBounds_toArray,List.set_cons_zero,List.set_cons_succ])
         |(refine EachList.cons (.agg ZN) (EachIf.load rfl 37 (.tmp 8) rfl _ rfl λwx hx=>HLN.out wx hx) ?_;simp only[Act.put,List.setIfInBounds_toArray,List.set_cons_zero,List.set_cons_succ])
         |(refine EachList.cons (.agg ZA) (EachIf.load rfl 34 (.tmp 9) rfl _ rfl λwx hx=>HLA8.out wx hx) ?_;simp only[Act.put,List.setIfInBounds_toArray,List.set_cons_zero,List.set_cons_succ])
         |(refine EachList.cons (.agg ZR) (EachIf.load rfl 74 (.tmp 7) rfl _ rfl λwx hx=>HLR7.out wx hx) ?_;simp only[Act.put,List.setIfInBounds_toArray,List.set_cons_zero,List.set_cons_succ])
         |(refine EachList.cons (.bool tR) (EachIf.call rfl 39 #[.agg ZN] ?he ?h) ?_;(case he=>(intro wz;go_simp));(case h=>exact λwx hx=>(HRT.out wx hx).mono λe w' he=>⟨he.1,hx.trans' he.2⟩);simp only[Act.put,List.setIfInBounds_toArray,List.set_cons_zero,List.set_cons_succ])
         |(refine EachList.cons (.agg ZW) (EachIf.call rfl 76 #[.agg ZN,.agg ZA,.int .i64 li] ?he ?h) ?_;(case he=>(intro wz;go_simp));(case h=>exact λwx hx=>(HRW.out wx).mono λe w' he=>⟨he.1,hx.trans' he.2⟩);simp only[Act.put,List.setIfInBounds_toArray,List.set_cons_zero,List.set_cons_succ])
         |(refine EachList.cons undef (EachIf.off rfl) ?_;simp only[Act.put,List.setIfInBounds_toArray,List.set_cons_zero,List.set_cons_succ])
         |(refine EachList.cons (.bool true) (EachIf.val rfl ?h) ?_;(case h=>(intro wx hx;clear hx;first|(go_simp;done)|(go_simp;simp[hfB];done)));simp only[Act.put,List.setIfInBounds_toArray,List.set_cons_zero,List.set_cons_succ])
         |(refine EachList.cons (.bool false) (EachIf.val rfl ?h) ?_;(case h=>(intro wx hx;clear hx;first|(go_simp;done)|(go_simp;simp[hfB];done)));simp only[Act.put,List.setIfInBounds_toArray,List.set_cons_zero,List.set_cons_succ])
         |(refine EachList.cons ?_ (EachIf.val rfl ?h) ?_;(case h=>(intro wx hx;clear hx;go_simp;rfl));simp only[Act.put,List.setIfInBounds_toArray,List.set_cons_zero,List.set_cons_succ]))
        refine EachList.done λwz hx=> ?_
        have HKZ:=Lib.hid hx
        clear hx
        obtain⟨w9,hst9,hld9,hk9⟩:=HSZ.out wz (HB0c.out.keep HKZ.out (by simp))
        have HST9:=Lib.hid hst9
        have HLD9:=Lib.hid hld9
        have HK9:=Lib.hid ((HKc.out.trans' HKZ.out).trans hk9 (by intro x hx;rw[List.mem_singleton] at hx;omega))
        clear hst9 hld9 hk9
        go_wp2_with((with_reducible show wpList _ _ _ (⟨_,.store 37 (.tmp 4) (.tmp 88),_,_,_,_⟩::_) _ _);refine wpList_store_any rfl 37 (.tmp 4) (.tmp 88) rfl _ rfl _ rfl _ HST9.out ?_)
        refine bodyPost_ret (results_cell3 Tryz.results59 rfl HLD9.out rfl rfl) rfl ?_
        have :=ReadPost.no HN.out HK9.out
        rw[HZI.out] at this
        exact this
       ·by_cases hf1:f=1
        ·subst hf1
         have hfB:(1:Int)=1:=rfl
         cases tR
         ·clear hgood
          go_wp2_with fail
          refine wp_region_each (S:=λwx=>Keeps [] wc wx) (by kernel_rfl) (by kernel_rfl) (λd _ _ _ _ h=>by cases d<;>exact h) ((Keeps.refl _ _).drew) (by kernel_rfl) ?_
          repeat (first
           |(refine EachList.cons (.int .i64 1) (EachIf.load rfl 3 (.tmp 71) rfl _ rfl λwx hx=>HLF.out wx hx) ?_;simp only[Act.put,List.setIfInBounds_toArray,List.set_cons_zero,List.set_cons_succ])
           |(refine EachList.cons (.agg ZN) (EachIf.load rfl 37 (.tmp 8) rfl _ rfl λwx hx=>HLN.out wx hx) ?_;simp only[Act.put,List.setIfInBounds_toArray,List.set_cons_zero,List.set_cons_succ])
           |(refine EachList.cons (.agg ZA) (EachIf.load rfl 34 (.tmp 9) rfl _ rfl λwx hx=>HLA8.out wx hx) ?_;simp only[Act.put,List.setIfInBounds_toArray,List.set_cons_zero,List.set_cons_succ])
           |(refine EachList.cons (.agg ZR) (EachIf.load rfl 74 (.tmp 7) rfl _ rfl λwx hx=>HLR7.out wx hx) ?_;simp only[Act.put,List.setIfInBounds_toArray,List.set_cons_zero,List.set_cons_succ])
           |(refine EachList.cons (.bool false) (EachIf.call rfl 39 #[.agg ZN] ?he ?h) ?_;(case he=>(intro wz;go_simp));(case h=>exact λwx hx=>(HRT.out wx hx).mono λe w' he=>⟨he.1,hx.trans' he.2⟩);simp only[Act.put,List.setIfInBounds_toArray,List.set_cons_zero,List.set_cons_succ])
           |(refine EachList.cons (.agg ZW) (EachIf.call rfl 76 #[.agg ZN,.agg ZA,.int .i64 li] ?he ?h) ?_;(case he=>(intro wz;go_simp));(case h=>exact λwx hx=>(HRW.out wx).mono λe w' he=>⟨he.1,hx.trans' he.2⟩);simp only[Act.put,List.setIfInBounds_toArray,List.set_cons_zero,List.set_cons_succ])
           |(refine EachList.cons undef (EachIf.off rfl) ?_;simp only[Act.put,List.setIfInBounds_toArray,List.set_cons_zero,List.set_cons_succ])
           |(refine EachList.cons (.bool true) (EachIf.val rfl ?h) ?_;(case h=>(intro wx hx;clear hx;first|(go_simp;done)|(go_simp;simp[hfB];done)));simp only[Act.put,List.setIfInBounds_toArray,List.set_cons_zero,List.set_cons_succ])
           |(refine EachList.cons (.bool false) (EachIf.val rfl ?h) ?_;(case h=>(intro wx hx;clear hx;first|(go_simp;done)|(go_simp;simp[hfB];done)));simp only[Act.put,List.setIfInBounds_toArray,List.set_cons_zero,List.set_cons_succ])
           |(refine EachList.cons ?_ (EachIf.val rfl ?h) ?_;(case h=>(intro wx hx;clear hx;go_simp;rfl));simp only[Act.put,List.setIfInBounds_toArray,List.set_cons_zero,List.set_cons_succ]))
          refine EachList.done λwz hx=> ?_
          have HKZ:=Lib.hid hx
          clear hx
          obtain⟨w9,hst9,hld9,hk9⟩:=HSZ.out wz (HB0c.out.keep HKZ.out (by simp))
          have HST9:=Lib.hid hst9
          have HLD9:=Lib.hid hld9
          have HK9:=Lib.hid ((HKc.out.trans' HKZ.out).trans hk9 (by intro x hx;rw[List.mem_singleton] at hx;omega))
          clear hst9 hld9 hk9
          go_wp2_with((with_reducible show wpList _ _ _ (⟨_,.store 37 (.tmp 4) (.tmp 88),_,_,_,_⟩::_) _ _);refine wpList_store_any rfl 37 (.tmp 4) (.tmp 88) rfl _ rfl _ rfl _ HST9.out ?_)
          refine bodyPost_ret (results_cell3 Tryz.results59 rfl HLD9.out rfl rfl) rfl ?_
          have :=ReadPost.no HN.out HK9.out
          rw[HZI.out] at this
          exact this
         ·cases tW
          ·clear hgood
           go_wp2_with fail
           refine wp_region_each (S:=λwx=>Keeps [] wc wx) (by kernel_rfl) (by kernel_rfl) (λd _ _ _ _ h=>by cases d<;>exact h) ((Keeps.refl _ _).drew) (by kernel_rfl) ?_
           repeat (first
            |(refine EachList.cons (.int .i64 1) (EachIf.load rfl 3 (.tmp 71) rfl _ rfl λwx hx=>HLF.out wx hx) ?_;simp only[Act.put,List.setIfInBounds_toArray,List.set_cons_zero,List.set_cons_succ])
            |(refine EachList.cons (.agg ZN) (EachIf.load rfl 37 (.tmp 8) rfl _ rfl λwx hx=>HLN.out wx hx) ?_;simp only[Act.put,List.setIfInBounds_toArray,List.set_cons_zero,List.set_cons_succ])
            |(refine EachList.cons (.agg ZA) (EachIf.load rfl 34 (.tmp 9) rfl _ rfl λwx hx=>HLA8.out wx hx) ?_;simp only[Act.put,List.setIfInBounds_toArray,List.set_cons_zero,List.set_cons_succ])
            |(refine EachList.cons (.agg ZR) (EachIf.load rfl 74 (.tmp 7) rfl _ rfl λwx hx=>HLR7.out wx hx) ?_;simp only[Act.put,List.setIfInBounds_toArray,List.set_cons_zero,List.set_cons_succ])
            |(refine EachList.cons (.bool true) (EachIf.call rfl 39 #[.agg ZN] ?he ?h) ?_;(case he=>(intro wz;go_simp));(case h=>exact λwx hx=>(HRT.out wx hx).mono λe w' he=>⟨he.1,hx.trans' he.2⟩);simp only[Act.put,List.setIfInBounds_toArray,List.set_cons_zero,List.set_cons_succ])
            |(refine EachList.cons (.agg ZW) (EachIf.call rfl 76 #[.agg ZN,.agg ZA,.int .i64 li] ?he ?h) ?_;(case he=>(intro wz;go_simp));(case h=>exact λwx hx=>(HRW.out wx).mono λe w' he=>⟨he.1,hx.trans' he.2⟩);simp only[Act.put,List.setIfInBounds_toArray,List.set_cons_zero,List.set_cons_succ])
            |(refine EachList.cons undef (EachIf.off rfl) ?_;simp only[Act.put,List.setIfInBounds_toArray,List.set_cons_zero,List.set_cons_succ])
            |(refine EachList.cons (.bool true) (EachIf.val rfl ?h) ?_;(case h=>(intro wx hx;clear hx;first|(go_simp;done)|(go_simp;simp[hfB];done)));simp only[Act.put,List.setIfInBounds_toArray,List.set_cons_zero,List.set_cons_succ])
            |(refine EachList.cons (.bool false) (EachIf.val rfl ?h) ?_;(case h=>(intro wx hx;clear hx;first|(go_simp;done)|(go_simp;simp[hfB];done)));simp only[Act.put,List.setIfInBounds_toArray,List.set_cons_zero,List.set_cons_succ])
            |(refine EachList.cons ?_ (EachIf.val rfl ?h) ?_;(case h=>(intro wx hx;clear hx;go_simp;rfl));simp only[Act.put,List.setIfInBounds_toArray,List.set_cons_zero,List.set_cons_succ]))
           refine EachList.done λwz hx=> ?_
           have HKZ:=Lib.hid hx
           clear hx
           obtain⟨w9,hst9,hld9,hk9⟩:=HSZ.out wz (HB0c.out.keep HKZ.out (by simp))
           have HST9:=Lib.hid hst9
           have HLD9:=Lib.hid hld9
           have HK9:=Lib.hid ((HKc.out.trans' HKZ.out).trans hk9 (by intro x hx;rw[List.mem_singleton] at hx;omega))
           clear hst9 hld9 hk9
           go_wp2_with((with_reducible show wpList _ _ _ (⟨_,.store 37 (.tmp 4) (.tmp 88),_,_,_,_⟩::_) _ _);refine wpList_store_any rfl 37 (.tmp 4) (.tmp 88) rfl _ rfl _ rfl _ HST9.out ?_)
           refine bodyPost_ret (results_cell3 Tryz.results59 rfl HLD9.out rfl rfl) rfl ?_
           have :=ReadPost.no HN.out HK9.out
           rw[HZI.out] at this
           exact this
          ·exact absurd ⟨rfl,rfl,rfl,rfl⟩ hgood
        ·have hfB:(f != 1)=true:=bne_iff_ne.2 hf1
         clear hgood
         go_wp2_with fail
         refine wp_region_each (S:=λwx=>Keeps [] wc wx) (by kernel_rfl) (by kernel_rfl) (λd _ _ _ _ h=>by cases d<;>exact h) ((Keeps.refl _ _).drew) (by kernel_rfl) ?_
         repeat (first
          |(refine EachList.cons (.int .i64 f) (EachIf.load rfl 3 (.tmp 71) rfl _ rfl λwx hx=>HLF.out wx hx) ?_;simp only[Act.put,List.setIfInBounds_toArray,List.set_cons_zero,List.set_cons_succ])
          |(refine EachList.cons (.agg ZN) (EachIf.load rfl 37 (.tmp 8) rfl _ rfl λwx hx=>HLN.out wx hx) ?_;simp only[Act.put,List.setIfInBounds_toArray,List.set_cons_zero,List.set_cons_succ])
          |(refine EachList.cons (.agg ZA) (EachIf.load rfl 34 (.tmp 9) rfl _ rfl λwx hx=>HLA8.out wx hx) ?_;simp only[Act.put,List.setIfInBounds_toArray,List.set_cons_zero,List.set_cons_succ])
          |(refine EachList.cons (.agg ZR) (EachIf.load rfl 74 (.tmp 7) rfl _ rfl λwx hx=>HLR7.out wx hx) ?_;simp only[Act.put,List.setIfInBounds_toArray,List.set_cons_zero,List.set_cons_succ])
          |(refine EachList.cons (.bool tR) (EachIf.call rfl 39 #[.agg ZN] ?he ?h) ?_;(case he=>(intro wz;go_simp));(case h=>exact λwx hx=>(HRT.out wx hx).mono λe w' he=>⟨he.1,hx.trans' he.2⟩);simp only[Act.put,List.setIfInBounds_toArray,List.set_cons_zero,List.set_cons_succ])
          |(refine EachList.cons (.agg ZW) (EachIf.call rfl 76 #[.agg ZN,.agg ZA,.int .i64 li] ?he ?h) ?_;(case he=>(intro wz;go_simp));(case h=>exact λwx hx=>(HRW.out wx).mono λe w' he=>⟨he.1,hx.trans' he.2⟩);simp only[Act.put,List.setIfInBounds_toArray,List.set_cons_zero,List.set_cons_succ])
          |(refine EachList.cons undef (EachIf.off rfl) ?_;simp only[Act.put,List.setIfInBounds_toArray,List.set_cons_zero,List.set_cons_succ])
          |(refine EachList.cons (.bool true) (EachIf.val rfl ?h) ?_;(case h=>(intro wx hx;clear hx;first|(go_simp;done)|(go_simp;simp[hfB];done)));simp only[Act.put,List.setIfInBounds_toArray,List.set_cons_zero,List.set_cons_succ])
          |(refine EachList.cons (.bool false) (EachIf.val rfl ?h) ?_;(case h=>(intro wx hx;clear hx;first|(go_simp;done)|(go_simp;simp[hfB];done)));simp only[Act.put,List.setIfInBounds_toArray,List.set_cons_zero,List.set_cons_succ])
          |(refine EachList.cons ?_ (EachIf.val rfl ?h) ?_;(case h=>(intro wx hx;clear hx;go_simp;rfl));simp only[Act.put,List.setIfInBounds_toArray,List.set_cons_zero,List.set_cons_succ]))
         refine EachList.done λwz hx=> ?_
         have HKZ:=Lib.hid hx
         clear hx
         obtain⟨w9,hst9,hld9,hk9⟩:=HSZ.out wz (HB0c.out.keep HKZ.out (by simp))
         have HST9:=Lib.hid hst9
         have HLD9:=Lib.hid hld9
         have HK9:=Lib.hid ((HKc.out.trans' HKZ.out).trans hk9 (by intro x hx;rw[List.mem_singleton] at hx;omega))
         clear hst9 hld9 hk9
         go_wp2_with((with_reducible show wpList _ _ _ (⟨_,.store 37 (.tmp 4) (.tmp 88),_,_,_,_⟩::_) _ _);refine wpList_store_any rfl 37 (.tmp 4) (.tmp 88) rfl _ rfl _ rfl _ HST9.out ?_)
         refine bodyPost_ret (results_cell3 Tryz.results59 rfl HLD9.out rfl rfl) rfl ?_
         have :=ReadPost.no HN.out HK9.out
         rw[HZI.out] at this
         exact this
def ownRow (n:Ino) (own:List Nat) (m:Nat):List Int:=if m<blocksN n.E.length then entRow n.E m else (laidL n own).drop 5
structure LaidAt (X:List Int) (q:Nat) (n:Ino) (own:List Nat):Prop where
 row:rowL X q=inoRow n (laidL n own) ((listI n own:Nat):Int)
 own:∀m,m<own.length→rowL X (1080+8*own.getD m 0)=ownRow n own m
theorem getD_mem {l:List Nat} {k:Nat} (h:k<l.length):l.getD k 0∈l:=by
 rw[List.getD_eq_getElem?_getD,List.getElem?_eq_getElem h]
 exact List.getElem_mem _
theorem getD_inj {l:List Nat} (hn:l.Nodup) {j k:Nat} (hj:j<l.length) (hk:k<l.length) (h:l.getD j 0=l.getD k 0):j=k:=by
 rw[List.getD_eq_getElem?_getD,List.getD_eq_getElem?_getD,List.getElem?_eq_getElem hj,List.getElem?_eq_getElem hk] at h
 have hp:=List.pairwise_iff_getElem.1 hn
 rcases Nat.lt_trichotomy j k with hlt|he|hlt
 ·exact absurd h (hp j k hj hk hlt)
 ·exact he
 ·exact absurd h.symm (hp k j hk hj hlt)
theorem put_rowK {X:List Int} (hX:X.length=3128) (p:Nat) (l:List Int) (j:Nat):∀k,p+k≤3128→(putAll X (rowPs p l k)).getD j 0=if p≤j∧j<p+k then l.getD (j-p) 0 else X.getD j 0:=by
 intro k
 induction k with
 |zero=>intro _;rw[if_neg (by omega)];rfl
 |succ k ih=>
  intro hk
  rw[rowPs_succ,putAll_append,putAll_one,Int.toNat_natCast,getD_set_any,putAll_len,hX,ih (by omega)]
  by_cases e:p+k=j
  ·subst e
   rw[if_pos ⟨rfl,by omega⟩,if_pos ⟨by omega,by omega⟩,Nat.add_sub_cancel_left]
  ·rw[if_neg (by omega)]
   by_cases e2:p≤j∧j<p+k
   ·rw[if_pos e2,if_pos ⟨e2.1,by omega⟩]
   ·rw[if_neg e2,if_neg (by omega)]
theorem put_row {X:List Int} (hX:X.length=3128) (p:Nat) (hp:p+8≤3128) (l:List Int) (j:Nat):(putAll X (rowPs p l 8)).getD j 0=if p≤j∧j<p+8 then l.getD (j-p) 0 else X.getD j 0:=put_rowK hX p l j 8 hp
theorem rowL_ext {X:List Int} {p:Nat} {l:List Int} (hl:l.length=8) (h:∀j,j<8→X.getD (p+j) 0=l.getD j 0):rowL X p=l:=
 z_ext (by rw[rowL_len,hl]) λk hk=>by
  rw[rowL_len] at hk
  rw[rowL_get _ _ _ hk,h k hk]
theorem rowL_put_eq {X:List Int} (hX:X.length=3128) (p:Nat) (hp:p+8≤3128) {l:List Int} (hl:l.length=8):rowL (putAll X (rowPs p l 8)) p=l:=
 rowL_ext hl λj hj=>by rw[put_row hX p hp,if_pos ⟨by omega,by omega⟩,Nat.add_sub_cancel_left]
theorem rowL_put_ne {X:List Int} (hX:X.length=3128) (p p':Nat) (hp:p+8≤3128) {l:List Int} (h:p'+8≤p∨p+8≤p'):rowL (putAll X (rowPs p l 8)) p'=rowL X p':=
 rowL_ext (rowL_len _ _) λj hj=>by rw[put_row hX p hp,if_neg (by omega),rowL_get _ _ _ hj]
theorem inoRow_len {n:Ino} {l:List Int} (hl:l.length=13) (x:Int):(inoRow n l x).length=8:=by simp[inoRow,hl]
theorem laidL_own {n:Ino} {own:List Nat} (ho:blocksN n.E.length≤own.length) {k:Nat} (hk:k<blocksN n.E.length):(laidL n own).getD k 0=((own.getD k 0:Nat):Int):=by rw[laidL_get ho,if_pos hk]
theorem ents_put {X:List Int} (hX:X.length=3128) {n:Ino} {own:List Nat} (ho:blocksN n.E.length≤own.length) (hn:own.Nodup) (hm:∀c∈own,c≠0∧c<256):∀k,k≤blocksN n.E.length→∀m,m<k→rowL (putAll X (entPs n.E (laidL n own) k)) (1080+8*own.getD m 0)=entRow n.E m:=by
 intro k
 induction k with
 |zero=>intro _ m hm;omega
 |succ k ih=>
  intro hk m hmk
  have hkk:=hm _ (getD_mem (show k<own.length by omega))
  have hmm:=hm _ (getD_mem (show m<own.length by omega))
  rw[entPs_succ,putAll_append,laidL_own ho (by omega),Int.toNat_natCast]
  by_cases e:m=k
  ·subst e
   exact rowL_put_eq (by rw[putAll_len,hX]) _ (by omega) (entTo_len _ _ _)
  ·have :own.getD m 0≠own.getD k 0:=λh=>e (getD_inj hn (by omega) (by omega) h)
   rw[rowL_put_ne (by rw[putAll_len,hX]) _ _ (by omega) (by omega)]
   exact ih (by omega) m (by omega)
theorem laid_put {X:List Int} (hX:X.length=3128) (i:Nat) (hi:i<32) {n:Ino} {own:List Nat} (hB:n.B.length=13) (hc:blocksN n.E.length≤6) (ho:blocksN n.E.length≤own.length) (ho2:own.length≤blocksN n.E.length+1) (hn:own.Nodup) (hm:∀c∈own,c≠0∧c<256):
  LaidAt (putAll X (rowsPs i n own)) (824+8*i) n own:=by
 have hll:=laidL_len hB (by omega) ho
 unfold rowsPs
 rw[putAll_append,putAll_append]
 refine⟨rowL_put_eq (by rw[putAll_len,putAll_len,hX]) _ (by omega) (inoRow_len hll _),λm hml=> ?_⟩
 have hmm:=hm _ (getD_mem hml)
 rw[rowL_put_ne (by rw[putAll_len,putAll_len,hX]) _ _ (by omega) (by omega)]
 unfold ownRow listPs
 by_cases hmc:m<blocksN n.E.length
 ·rw[if_pos hmc]
  split
  ·rename_i hlt
   have hcc:=hm _ (getD_mem hlt)
   have :own.getD m 0≠own.getD (blocksN n.E.length) 0:=λh=>by have :=getD_inj hn hml hlt h;omega
   have hli:listI n own=own.getD (blocksN n.E.length) 0:=by unfold listI;rw[if_pos hlt]
   rw[hli,rowL_put_ne (by rw[putAll_len,hX]) _ _ (by omega) (by omega)]
   exact ents_put hX ho hn hm _ (Nat.le_refl _) m hmc
  ·exact ents_put hX ho hn hm _ (Nat.le_refl _) m hmc
 ·obtain rfl:m=blocksN n.E.length:=by omega
  rw[if_neg hmc,if_pos hml]
  have hli:listI n own=own.getD (blocksN n.E.length) 0:=by unfold listI;rw[if_pos hml]
  rw[hli]
  exact rowL_put_eq (by rw[putAll_len,hX]) _ (by omega) (by rw[List.length_drop,hll])
theorem takePs_mem {p:Int×Int}:∀(l:List Nat) (X:List Int),(∀c∈l,c≠0∧c<256)→p∈takePs X l→(816≤p.1.toNat∧p.1.toNat<820)∨(1080≤p.1.toNat∧(p.1.toNat-1080)/8∈l):=by
 intro l
 induction l with
 |nil=>intro X _ h;simp[takePs] at h
 |cons b l ih=>
  intro X hb h
  obtain⟨h0,h1⟩:=hb b (by simp)
  have h':p∈(setPs X b true++emptyPs b)++takePs (putAll X (setPs X b true++emptyPs b)) l:=h
  rw[List.mem_append,List.mem_append] at h'
  rcases h' with(h'|h')|h'
  ·left
   unfold setPs at h'
   rw[if_neg (by omega),List.mem_singleton] at h'
   subst h'
   show 816≤Int.toNat ((_:Nat):Int)∧Int.toNat ((_:Nat):Int)<820
   rw[Int.toNat_natCast]
   omega
  ·right
   obtain⟨j,hj,rfl⟩:=emptyPs_mem h'
   show 1080≤Int.toNat ((_:Nat):Int)∧(Int.toNat ((_:Nat):Int)-1080)/8∈_
   rw[Int.toNat_natCast]
   refine⟨by omega,?_⟩
   rw[show(1080+b*8+j-1080)/8=b by omega]
   simp
  ·rcases ih _ (λc hc=>hb c (by simp[hc])) h' with h'|h'
   ·exact .inl h'
   ·exact .inr ⟨h'.1,by simp[h'.2]⟩
theorem rowPs_mem {p:Int×Int} {q:Nat} {l:List Int} {k:Nat} (h:p∈rowPs q l k):∃j,j<k∧p.1.toNat=q+j∧p.2=l.getD j 0:=by
 unfold rowPs at h
 obtain⟨j,hj,rfl⟩:=List.mem_map.1 h
 exact⟨j,by simpa using hj,Int.toNat_natCast _,rfl⟩
theorem rowsPs_mem {p:Int×Int} {i:Nat} {n:Ino} {own:List Nat} (ho:blocksN n.E.length≤own.length) (h:p∈rowsPs i n own):(1080≤p.1.toNat∧(p.1.toNat-1080)/8∈own∧∃m j,j<8∧p.2=(ownRow n own m).getD j 0)∨(824+8*i≤p.1.toNat∧p.1.toNat<832+8*i∧∃j,j<8∧p.2=(inoRow n (laidL n own) ((listI n own:Nat):Int)).getD j 0):=by
 unfold rowsPs at h
 rw[List.mem_append,List.mem_append] at h
 rcases h with h|h|h
 ·left
  unfold entPs at h
  obtain⟨k,hk,h⟩:=List.mem_flatMap.1 h
  rw[List.mem_range] at hk
  obtain⟨j,hj,h1,h2⟩:=rowPs_mem h
  rw[laidL_own ho hk,Int.toNat_natCast] at h1
  refine⟨by omega,?_,k,j,hj,by rw[h2,ownRow,if_pos hk]⟩
  rw[h1,show(1080+8*own.getD k 0+j-1080)/8=own.getD k 0 by omega]
  exact getD_mem (by omega)
 ·left
  unfold listPs at h
  split at h
  ·rename_i hlt
   obtain⟨j,hj,h1,h2⟩:=rowPs_mem h
   have hli:listI n own=own.getD (blocksN n.E.length) 0:=by unfold listI;rw[if_pos hlt]
   rw[hli] at h1
   refine⟨by omega,?_,blocksN n.E.length,j,hj,by rw[h2,ownRow,if_neg (Nat.lt_irrefl _)]⟩
   rw[h1,show(1080+8*own.getD (blocksN n.E.length) 0+j-1080)/8=own.getD (blocksN n.E.length) 0 by omega]
   exact getD_mem hlt
  ·simp at h
 ·right
  obtain⟨j,hj,h1,h2⟩:=rowPs_mem h
  exact⟨by omega,by omega,j,hj,h2⟩
theorem lay_other {X:List Int} {i:Nat} {n:Ino} {own:List Nat} (ho:blocksN n.E.length≤own.length) (hm:∀c∈own,c≠0∧c<256) {k:Nat} (hk:820≤k) (h1:¬(1080≤k∧(k-1080)/8∈own)) (h2:¬(824+8*i≤k∧k<832+8*i)):(putAll X (layPs X i n own)).getD k 0=X.getD k 0:=by
 refine putAll_other _ _ _ λp hp hpk=> ?_
 unfold layPs at hp
 rw[List.mem_append] at hp
 rcases hp with hp|hp
 ·rcases takePs_mem _ _ hm hp with h|h
  ·omega
  ·rw[hpk] at h;exact h1 h
 ·rcases rowsPs_mem ho hp with h|h
  ·rw[hpk] at h;exact h1 ⟨h.1,h.2.1⟩
  ·rw[hpk] at h;exact h2 ⟨h.1,h.2.1⟩
theorem wordV_64 (s:ByteArray):wordV (bl s)<18446744073709551616:=by
 unfold wordV
 split
 ·rename_i h
  exact wordN_lt (goodN_len h).2 (bl_lt s)
 ·omega
theorem entRow_64 {E:List (ByteArray×Int)} (hE:∀k,k<E.length→0≤eno E k∧eno E k<18446744073709551616) (k j:Nat):0≤(entRow E k).getD j 0∧(entRow E k).getD j 0<18446744073709551616:=by
 by_cases hj:j<8
 ·unfold entRow
  rw[entTo_get _ _ _ _ hj]
  split
  ·unfold entX
   split
   ·have :=wordV_64 (enm E (4*k+j/2));omega
   ·exact hE _ (by omega)
  ·omega
 ·rw[List.getD_eq_getElem?_getD,List.getElem?_eq_none (by rw[entRow,entTo_len];omega)]
  simp
theorem lay_64 {X:List Int} (h64:In64 X) (hX:X.length=3128) {i:Nat} {n:Ino} {own:List Nat} (hB:n.B.length=13) (hR:RightP n) (ho:blocksN n.E.length≤own.length) (hm:∀c∈own,c≠0∧c<256):In64 (putAll X (layPs X i n own)):=by
 have hbl:=blocks_le hR
 have hll:=laidL_len (own:=own) hB (by omega) ho
 have h256:=laidL_256 hR hB ho hm
 have hT:=tagOk_right hR
 unfold layPs
 rw[putAll_append]
 refine(takePs_state own X h64 hX hm).1.put λp hp=> ?_
 rcases rowsPs_mem ho hp with ⟨-,-,m,j,hj,h⟩|⟨-,-,j,hj,h⟩
 ·rw[h]
  unfold ownRow
  split
  ·refine entRow_64 (λk hk=> ?_) m j
   have :=((hbl.2.2 (by omega)).2.2.2.2 k hk).2.1
   omega
  ·rw[List.getD_eq_getElem?_getD,List.getElem?_drop,←List.getD_eq_getElem?_getD]
   have :=h256 (5+j)
   omega
 ·rw[h]
  unfold inoRow
  have hli:listI n own<256:=by
   unfold listI
   split
   ·exact(hm _ (getD_mem (by assumption))).2
   ·omega
  obtain⟨t1,t2,t3,t4⟩:=hT
  match j,hj with
  |0,_=>show 0≤tagW n∧tagW n<_;unfold tagW;omega
  |1,_=>show 0≤n.S∧n.S<_;omega
  |j+2,hj=>
   show 0≤((laidL n own).take 5++[((listI n own:Nat):Int)]).getD j 0∧((laidL n own).take 5++[((listI n own:Nat):Int)]).getD j 0<_
   rw[List.getD_eq_getElem?_getD,List.getElem?_append]
   split
   ·rename_i h5
    rw[List.length_take,hll] at h5
    rw[List.getElem?_take,if_pos (by omega),←List.getD_eq_getElem?_getD]
    have :=h256 j
    omega
   ·rename_i h5
    rw[List.length_take,hll] at h5
    rw[List.length_take,hll,show j-min 5 13=0 by omega]
    show 0≤((listI n own:Nat):Int)∧((listI n own:Nat):Int)<_
    omega
theorem tag_laid {n:Ino} (hR:RightP n) (l:List Int) (x:Int):tagN (inoRow n l x)=⟨n.F,n.K,n.L,n.S,List.replicate 13 0,[]⟩:=by
 obtain⟨hF,hL,hK⟩:=hR
 have hK2:n.K=1∨n.K=2:=hK.imp (·.1) (·.1)
 have hS:0≤n.S∧n.S≤832:=by
  rcases hK with ⟨_,h⟩|⟨_,h⟩
  ·exact h.1
  ·have h1:=h.1
   have h2:=h.2.1
   omega
 have e0:(inoRow n l x).getD 0 0=n.F+256*n.K+65536*n.L:=rfl
 have e1:(inoRow n l x).getD 1 0=n.S:=rfl
 unfold tagN
 rw[e0,e1,show(n.F+256*n.K+65536*n.L)%256=n.F by omega,show(n.F+256*n.K+65536*n.L)/256%256=n.K by omega,show(n.F+256*n.K+65536*n.L)/65536%65536=n.L by omega,show wrap64 n.S=n.S by unfold wrap64;omega]
theorem inoRow_7 {n:Ino} {l:List Int} (hl:l.length=13) (x:Int):(inoRow n l x).getD 7 0=x:=by
 show(l.take 5++[x]).getD 5 0=x
 rw[List.getD_eq_getElem?_getD,List.getElem?_append_right (by rw[List.length_take,hl];omega),List.length_take,hl]
 rfl
theorem inoRow_5 {n:Ino} {l:List Int} (hl:l.length=13) (x:Int):((inoRow n l x).drop 2).take 5=l.take 5:=by
 show(l.take 5++[x]).take 5=_
 rw[List.take_append_of_le_length (by rw[List.length_take,hl];omega),List.take_take]
 rfl
theorem need_le (n:Ino):blocksN n.E.length≤needN n∧needN n≤blocksN n.E.length+1:=by unfold needN;split<;>omega
theorem own_parts {own:List Nat} {c:Nat} (h1:c≤own.length) (h2:own.length≤c+1):own.take c++(if c<own.length then [own.getD c 0] else [])=own:=by
 split
 ·rename_i h
  have :own.drop c=[own.getD c 0]:=by
   rw[List.drop_eq_getElem_cons h,List.drop_of_length_le (by omega),List.getD_eq_getElem?_getD,List.getElem?_eq_getElem h]
   rfl
  rw[←this,List.take_append_drop]
 ·rw[List.append_nil,List.take_of_length_le (by omega)]
theorem take_laid {n:Ino} {own:List Nat} (ho:blocksN n.E.length≤own.length):((laidL n own).take (blocksN n.E.length)).map Int.toNat=own.take (blocksN n.E.length):=by
 unfold laidL
 rw[List.take_append_of_le_length (by rw[List.length_map,List.length_take];omega),List.take_of_length_le (by rw[List.length_map,List.length_take];omega),List.map_map]
 conv=>rhs;rw[←List.map_id (List.take (blocksN n.E.length) own)]
 exact List.map_congr_left λa _=>Int.toNat_natCast a
theorem read_laid {X:List Int} {q:Nat} {n:Ino} {own:List Nat} (hB:n.B.length=13) (hR:RightP n) (hF:n.F=1) (ho:own.length=needN n) (hm:∀c∈own,c≠0∧c<256) (h:LaidAt X q n own):
  ReadOk X (rowL X q)∧readI X (rowL X q)=n∧ownI X (rowL X q)=own:=by
 have hbl:=blocks_le hR
 have hcn:=need_le n
 have hoc:blocksN n.E.length≤own.length:=by omega
 have hll:=laidL_len (own:=own) hB (by omega) hoc
 have h256:=laidL_256 hR hB hoc hm
 have htag:=tag_laid hR (laidL n own) ((listI n own:Nat):Int)
 have g1:(inoRow n (laidL n own) ((listI n own:Nat):Int)).getD 1 0=n.S:=rfl
 have g7:=inoRow_7 (n:=n) hll ((listI n own:Nat):Int)
 have g5:=inoRow_5 (n:=n) hll ((listI n own:Nat):Int)
 have hK:n.K=1∨n.K=2:=hR.2.2.imp (·.1) (·.1)
 have hfile:n.K=1→n.E=[]∧blocksN n.E.length=0:=λhk=>by
  rcases hR.2.2 with h|h
  ·have :=h.2.2.1
   exact⟨List.length_eq_zero_iff.1 this,by unfold blocksN;omega⟩
  ·have :=h.1;omega
 have hdir:n.K=2→DirP n:=λhk=>by
  rcases hR.2.2 with h|h
  ·have :=h.1;omega
  ·exact h.2
 have hlt256:listI n own<256:=by
  unfold listI
  split
  ·exact(hm _ (getD_mem (by assumption))).2
  ·omega
 -- the list, or none
 have hlist:(blocksN n.E.length<own.length∧listI n own=own.getD (blocksN n.E.length) 0∧listI n own≠0∧(laidL n own).drop 5≠List.replicate 8 0)∨(blocksN n.E.length=own.length∧listI n own=0∧(laidL n own).drop 5=List.replicate 8 0):=by
  by_cases hc:blocksN n.E.length<own.length
  ·left
   have hli:listI n own=own.getD (blocksN n.E.length) 0:=by unfold listI;rw[if_pos hc]
   refine⟨hc,hli,by rw[hli];exact(hm _ (getD_mem hc)).1,λhz=> ?_⟩
   have h5:5<blocksN n.E.length∨n.B.drop 5≠List.replicate 8 0:=by
    rcases Classical.em (5<blocksN n.E.length∨n.B.drop 5≠List.replicate 8 0) with h|h
    ·exact h
    ·have :needN n=blocksN n.E.length:=by unfold needN;rw[if_neg h]
     omega
   by_cases h6:5<blocksN n.E.length
   ·have e:=laidL_own hoc h6
    have e2:((laidL n own).drop 5).getD 0 0=(0:Int):=by rw[hz];rfl
    rw[List.getD_eq_getElem?_getD,List.getElem?_drop,←List.getD_eq_getElem?_getD,e] at e2
    have :=(hm _ (getD_mem (show 5<own.length by omega))).1
    omega
   ·have h7:=h5.resolve_left h6
    rcases hK with hk|hk
    ·have hb0:=(hfile hk).2
     apply h7
     rw[←hz]
     unfold laidL
     rw[hb0]
     rfl
    ·apply h7
     rw[(hdir hk).2.2.1]
     rfl
  ·right
   have hce:blocksN n.E.length=own.length:=by omega
   have hli:listI n own=0:=by unfold listI;rw[if_neg hc]
   have h5:¬(5<blocksN n.E.length∨n.B.drop 5≠List.replicate 8 0):=λh=>by
    have :needN n=blocksN n.E.length+1:=by unfold needN;rw[if_pos h]
    omega
   have h6:n.B.drop 5=List.replicate 8 0:=Classical.not_not.1 λh=>h5 (.inr h)
   refine⟨hce,hli,z_ext (by rw[List.length_drop,hll];rfl) λk hk=> ?_⟩
   rw[←h6,List.getD_eq_getElem?_getD,List.getElem?_drop,←List.getD_eq_getElem?_getD,laidL_get hoc,if_neg (by omega),List.getD_eq_getElem?_getD,List.getD_eq_getElem?_getD,List.getElem?_drop]
 have hnum:numAll X (inoRow n (laidL n own) ((listI n own:Nat):Int))=laidL n own:=by
  unfold numAll
  rw[g5,g7]
  conv=>rhs;rw[←List.take_append_drop 5 (laidL n own)]
  congr 1
  rcases hlist with ⟨hc,hli,h0,-⟩|⟨hc,hli,h0⟩
  ·rw[if_neg (by omega),Int.toNat_natCast,hli,h.own _ hc,ownRow,if_neg (Nat.lt_irrefl _)]
  ·rw[if_pos (by omega),h0]
 have hents:n.K=2→n.S.toNat=n.E.length∧EntsOk X (laidL n own) n.E.length∧entsE X (laidL n own) n.E.length=n.E:=λhk=>by
  have hd:=hdir hk
  have hent:∀e,e<n.E.length→X.getD (entAt (laidL n own) e) 0=((wordV (bl (enm n.E e)):Nat):Int)∧X.getD (entAt (laidL n own) e+1) 0=eno n.E e∧nameN (wordV (bl (enm n.E e)))=some (bl (enm n.E e)):=λe he=>by
   have hk4:e/4<blocksN n.E.length:=by unfold blocksN;omega
   have hrow:=h.own (e/4) (by omega)
   rw[ownRow,if_pos hk4] at hrow
   have hat:entAt (laidL n own) e=1080+8*own.getD (e/4) 0+2*(e%4):=by unfold entAt;rw[laidL_own hoc hk4,Int.toNat_natCast]
   have r0:(rowL X (1080+8*own.getD (e/4) 0)).getD (2*(e%4)) 0=(entRow n.E (e/4)).getD (2*(e%4)) 0:=by rw[hrow]
   have r1:(rowL X (1080+8*own.getD (e/4) 0)).getD (2*(e%4)+1) 0=(entRow n.E (e/4)).getD (2*(e%4)+1) 0:=by rw[hrow]
   rw[rowL_get _ _ _ (by omega)] at r0 r1
   unfold entRow at r0 r1
   rw[entTo_get _ _ _ _ (by omega),if_pos (by omega),entX,if_pos (by omega),show 4*(e/4)+2*(e%4)/2=e by omega] at r0
   rw[entTo_get _ _ _ _ (by omega),if_pos (by omega),entX,if_neg (by omega),show 4*(e/4)+(2*(e%4)+1)/2=e by omega] at r1
   have hg:=(hd.2.2.2 e he).1
   refine⟨by rw[hat,r0],by rw[hat,Nat.add_assoc,r1],?_⟩
   unfold wordV
   rw[if_pos hg]
   exact nameN_wordN hg (bl_lt _)
  have hE:entsE X (laidL n own) n.E.length=n.E:=e_ext (entsE_len _ _ _) λe he=>by
   rw[entsE_len] at he
   obtain⟨h1,h2,h3⟩:=hent e he
   obtain⟨e1,e2⟩:=entsE_get X (laidL n own) n.E.length e he
   rw[e1,e2]
   unfold entW entI
   rw[h1,h2,Int.toNat_natCast,h3]
   exact⟨strN_bl _,rfl⟩
  refine⟨by rw[hd.2.1,Int.toNat_natCast],⟨hd.1,?_,λk hk=> ?_⟩,hE⟩
  ·refine z_ext (by rw[hll,uptoL_len hll (by omega)]) λk _=> ?_
   rw[uptoL_get hll (by omega)]
   split
   ·rfl
   ·rw[laidL_get hoc,if_neg (by assumption),hd.2.2.1,List.getD_eq_getElem?_getD,List.getElem?_replicate]
    split<;>rfl
  ·have hko:k<own.length:=by omega
   have hkm:=hm _ (getD_mem hko)
   refine⟨by rw[laidL_own hoc hk];omega,λj hj=> ?_,?_⟩
   ·obtain⟨h1,h2,h3⟩:=hent (4*k+j) (by omega)
    unfold entW entI
    rw[h1,h2,Int.toNat_natCast,h3]
    have :=(hd.2.2.2 (4*k+j) (by omega)).2.1
    exact⟨rfl,by omega⟩
   ·rw[hE,laidL_own hoc hk,Int.toNat_natCast]
    have :=h.own k hko
    rw[ownRow,if_pos hk] at this
    exact this.symm
 rw[h.row]
 have hread:readI X (inoRow n (laidL n own) ((listI n own:Nat):Int))=n:=by
  unfold readI
  rw[hnum,htag,g1]
  obtain⟨F,K,L,S,B,E⟩:=n
  rcases hK with hk|hk
  ·have hb:=hfile hk
   rw[if_neg (show ¬K=2 by have :K=1:=hk;omega)]
   show Ino.mk F K L S _ []=Ino.mk F K L S B E
   have he:E=[]:=hb.1
   have hb0:blocksN E.length=0:=hb.2
   rw[he]
   congr 1
   unfold laidL
   have hz0:blocksN ([]:List (ByteArray×Int)).length=0:=by decide
   show(own.take (blocksN ([]:List (ByteArray×Int)).length)).map _++B.drop (blocksN ([]:List (ByteArray×Int)).length)=B
   rw[hz0]
   rfl
  ·obtain⟨e1,e2,e3⟩:=hents hk
   have e1':S.toNat=E.length:=e1
   rw[if_pos (show K=2 from hk)]
   show Ino.mk F K L S (List.replicate 13 0) (entsE X _ S.toNat)=Ino.mk F K L S B E
   have hb:B=List.replicate 13 0:=(hdir hk).2.2.1
   rw[e1',hb]
   congr 1
   rw[←hb]
   exact e3
 refine⟨⟨⟨by rw[g7];omega,λk _=>by rw[hnum];exact(h256 k).2,?_⟩,?_,λhk=> ?_,by rw[htag];exact hF,by rw[hread];exact hR,by rw[hread,hnum,g7]⟩,hread,?_⟩
 ·rw[g7,hnum]
  rcases hlist with ⟨_,_,_,h0⟩|⟨_,h0,_⟩
  ·exact .inr h0
  ·exact .inl (by omega)
 ·rw[g1]
  rcases hK with hk|hk
  ·rcases hR.2.2 with h|h
   ·exact h.2.1.2
   ·have :=h.1;omega
  ·have :=(hdir hk).2.1;omega
 ·rw[htag] at hk
  obtain⟨e1,e2,e3⟩:=hents hk
  rw[hnum,g1,e1]
  exact e2
 ·unfold ownI
  rw[hnum,htag,g1,g7]
  have hl2:(if ((listI n own:Nat):Int)=0 then [] else [((listI n own:Nat):Int).toNat])=if blocksN n.E.length<own.length then [own.getD (blocksN n.E.length) 0] else []:=by
   rcases hlist with ⟨hc,hli,h0,-⟩|⟨hc,hli,-⟩
   ·rw[if_neg (by omega),if_pos hc,Int.toNat_natCast,hli]
   ·rw[if_pos (by omega),if_neg (by omega)]
  rw[hl2]
  have h1:(if (Ino.mk n.F n.K n.L n.S (List.replicate 13 0) []).K=2 then ((laidL n own).take (blocksN n.S.toNat)).map Int.toNat else [])=own.take (blocksN n.E.length):=by
   rcases hK with hk|hk
   ·rw[if_neg (show ¬n.K=2 by omega),(hfile hk).2]
    rfl
   ·rw[if_pos (show n.K=2 from hk),(hents hk).1,take_laid hoc]
  rw[h1]
  exact own_parts hoc (by omega)
end Go.Proofs.YtphojondgfjmgaaGreatDoor
