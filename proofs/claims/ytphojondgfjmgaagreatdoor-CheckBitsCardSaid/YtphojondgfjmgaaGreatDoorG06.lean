/-
  Layer 6 (fmt1): entriesOf. Layer 7 (fmt2): laidFile. Layer 7 (fmt2), plain: the words of a directory, bucket by bucket.
-/
import Derived.Test.YtphojondgfjmgaaGreatDoorG05
import Derived.Test.YtphojondgfjmgaaGreatDoorG04
import Derived.Laws.AppendOwn
import Derived.Test.YtphojondgfjmgaaGreatDoorG01
import Derived.Deep.RegionWith
namespace Go.Proofs.YtphojondgfjmgaaGreatDoor
open Go.RowKit
theorem slice_to8 (b c:Nat) (hc:c≤8) (w:World):(Instr.sliceAt 74 (.pointer (some ⟨b,0,none⟩)) none (some (.int .i64 (c:Int))) none).run Tryz.prog w= .ok (.slice (some ⟨b,0,none⟩) c 8) w:=by
 have h:c=0∨c=1∨c=2∨c=3∨c=4∨c=5∨c=6∨c=7∨c=8:=by omega
 rcases h with rfl|rfl|rfl|rfl|rfl|rfl|rfl|rfl|rfl
 all_goals (show Sem.run _ _ _=_;kernel_rfl)
theorem Blk.reads {w:World} {b T o n c:Nat} {l:List Int} (h:Blk w b (u64s l).toArray T) (hn:o+n≤l.length) (hc:n≤c) (hm:c≤1000):Reads w (.slice (some ⟨b,o,none⟩) n c) b (u64s ((l.drop o).take n)):=by
 have hl:(u64s ((l.drop o).take n)).length=n:=by rw[u64s_len,List.length_take,List.length_drop];omega
 refine⟨_,c,by rw[hl],by rw[hl];exact hc,by unfold maxLen;omega,λ_=>⟨h.lt,o,rfl,λj hj=> ?_⟩⟩
 rw[hl] at hj
 rw[h.cell,List.getElem?_toArray,u64s_get (by omega),u64s_get (by rw[List.length_take,List.length_drop];omega)]
 simp[List.getD_eq_getElem?_getD,hj]
theorem Keeps.grown2 {w wr w1:World} {row:Option Nat} (hk:Keeps [] w wr) (hg:wr.grownBy w1 row) (hr:∀k,row=some k→w.heap.size≤k):Keeps [] w w1:=hk.grown hg hr
def EntsPost (w:World) (X l:List Int) (m:Nat) (e:Ending) (w':World):Prop:=
 ∃v E ok g,e= .returned (.tuple #[v,.bool ok])∧EReads w' v g E∧w.heap.size≤g∧(ok=true→EntsOk X l m∧E=entsE X l m)∧(ok=false→¬EntsOk X l m∧E=[])∧Keeps [] w w'
theorem EntsPost.no {w w':World} {X l:List Int} {m:Nat} (h:¬EntsOk X l m) (hk:Keeps [] w w'):EntsPost w X l m (.returned (.tuple #[.slice none 0 0,.bool false])) w':=
 ⟨_,[],false,w.heap.size,rfl,EReads.nil _ _,Nat.le_refl _,λh=>(by cases h),λ_=>⟨h,rfl⟩,hk⟩
set_option maxRecDepth 100000 in
set_option maxHeartbeats 8000000 in
theorem entriesOf_at {w:World} {b gp:Nat} {B:List Int} {ps:List (Int×Int)} (h:ShAt w b gp B ps) (h64:In64 (putAll B ps)) (l:List Int) (hl:l.length=13) (hl256:∀k,0≤l.getD k 0∧l.getD k 0<256) (m:Nat) (hm:m≤832):
  Calls Tryz.prog 74 #[.pointer (some ⟨b,0,none⟩),.agg (zs l).toArray,.int .i64 (m:Int)] w (EntsPost w (putAll B ps) l m):=by
 have HS:=Lib.hid h
 have H64:=Lib.hid h64
 have hb0:=Blk.new w (zs l).toArray 34
 have HB0:=Lib.hid hb0
 have HK0:Hid (Keeps [] w (w.alloc (.cells (zs l).toArray 34))):=(Keeps.refl _ _).alloc _
 have hpa:=parts_at m 4 (by omega) (by omega) (by omega)
 rw[show(m+4-1)/4=blocksN m by unfold blocksN;congr 1] at hpa
 have HP:=Lib.hid hpa
 have hbn:blocksN m≤300:=by unfold blocksN;omega
 have HLD:Hid (∀wx,Keeps [] (w.alloc (.cells (zs l).toArray 34)) wx→(loadVar 34 ⟨w.heap.size,0,none⟩).run Tryz.prog wx= .ok (.agg (zs l).toArray) wx):=λwx hk=>
  load_n13 (off:=0) (hb0.keep hk (by simp)) hl (λk hk=>by rw[Nat.zero_add,List.getElem?_toArray,zs_get (by omega)])
 have HCELL:Hid (∀wx k,k<13→Keeps [] (w.alloc (.cells (zs l).toArray 34)) wx→wx.cell? ⟨w.heap.size,k,none⟩=some (.int .i64 (l.getD k 0))):=λwx k hk hkp=>by
  rw[(hb0.keep hkp (by simp)).cell,List.getElem?_toArray,zs_get (by omega)]
 have HL256:=Lib.hid hl256
 have HL:=Lib.hid hl
 clear h h64 hb0 hpa hl256
 generalize hz:(zs l).toArray=Z at *
 have HZ:=Lib.hid hz
 clear hz
 by_cases h24:24<m
 ·have HN:Hid (¬EntsOk (putAll B ps) l m):=λh=>by have :=h.1;omega
  have hg24:(24:Int)<(m:Int):=by omega
  generalize blocksN m=cnt at *
  clear hl
  go_enter Tryz.func74,Tryz.ntmps74
  go_wp2_with fail
  refine(HP.out _).mono ?_;rintro e w' ⟨rfl,rfl⟩
  go_wp2_with fail
  have hd24:decide (24<m)=true:=decide_eq_true h24
  refine wp_region_each (S:=λwx=>wx=(w.alloc (.cells Z 34)).drew) (by kernel_rfl) (by kernel_rfl) (λd _ _ _ _ h=>by cases d<;>exact h) rfl (by kernel_rfl) ?_
  repeat (first
   |(refine EachList.cons undef (EachIf.off rfl) ?_;simp only[Act.put,List.setIfInBounds_toArray,List.set_cons_zero,List.set_cons_succ])
   |(refine EachList.cons (.bool true) (EachIf.val rfl ?h) ?_;(case h=>(intro wx hx;clear hx;first|(go_simp;done)|(go_simp;simp[hd24];done)));simp only[Act.put,List.setIfInBounds_toArray,List.set_cons_zero,List.set_cons_succ])
   |(refine EachList.cons ?_ (EachIf.val rfl ?h) ?_;(case h=>(intro wx hx;go_simp;rfl));simp only[Act.put,List.setIfInBounds_toArray,List.set_cons_zero,List.set_cons_succ]))
  refine EachList.done λwx hx=> ?_
  subst hx
  go_wp2_with fail
  go_ret2
  exact EntsPost.no HN.out HK0.out.drew
 ·have hd24:decide (24<m)=false:=decide_eq_false h24
  have hn24:¬(24:Int)<(m:Int):=by omega
  have hcnt13:blocksN m≤13:=by unfold blocksN;omega
  have HU:=Lib.hid (upTo_at l (blocksN m) hl hcnt13)
  have HEQ:=Lib.hid (λwx=>eq_n13 (a:=l) (b:=uptoL l (blocksN m)) hl (uptoL_len hl hcnt13) wx)
  rw[HZ.out] at HU HEQ
  have hg13:=guard_n13
  obtain⟨t,ht⟩:∃t,decide (l=uptoL l (blocksN m))=t:=⟨_,rfl⟩
  rw[ht] at HEQ
  have heq:=HEQ.out
  generalize (zs (uptoL l (blocksN m))).toArray=ZU at *
  clear HEQ
  cases t
  ·have HN:Hid (¬EntsOk (putAll B ps) l m):=λh=>of_decide_eq_false ht h.2.1
   clear ht hl HL HL256
   generalize blocksN m=cnt at *
   go_enter Tryz.func74,Tryz.ntmps74
   go_wp2_with fail
   refine(HP.out _).mono ?_;rintro e w' ⟨rfl,rfl⟩
   go_wp2_with fail
   refine wp_region_each (S:=λwx=>Keeps [] (w.alloc (.cells Z 34)) wx) (by kernel_rfl) (by kernel_rfl) (λd _ _ _ _ h=>by cases d<;>exact h) ((Keeps.refl _ _).drew) (by kernel_rfl) ?_
   repeat (first
    |(refine EachList.cons (.agg Z) (EachIf.load rfl 34 (.tmp 4) rfl _ rfl λwx hx=>HLD.out wx hx) ?_;simp only[Act.put,List.setIfInBounds_toArray,List.set_cons_zero,List.set_cons_succ])
    |(refine EachList.cons (.agg ZU) (EachIf.call rfl 69 #[.agg Z,.int .i64 (cnt:Int)] ?he ?h) ?_;(case he=>(intro wz;go_simp));(case h=>exact λwx hx=>(HU.out wx).mono λe w' he=>⟨he.1,hx.trans' he.2⟩);simp only[Act.put,List.setIfInBounds_toArray,List.set_cons_zero,List.set_cons_succ])
    |(refine EachList.cons (.bool false) (EachIf.val rfl ?h) ?_;(case h=>(intro wx hx;clear hx;first|(go_simp;done)|(go_simp;simp[hd24];done)));simp only[Act.put,List.setIfInBounds_toArray,List.set_cons_zero,List.set_cons_succ])
    |(refine EachList.cons ?_ (EachIf.val rfl ?h) ?_;(case h=>(intro wx hx;clear hx;go_simp;rfl));simp only[Act.put,List.setIfInBounds_toArray,List.set_cons_zero,List.set_cons_succ]))
   refine EachList.done λwx hx=> ?_
   have HKX:=Lib.hid (HK0.out.trans' hx)
   clear hx
   go_wp2_with fail
   go_ret2
   exact EntsPost.no HN.out HKX.out
  ·have hlu:=of_decide_eq_true ht
   have HLU:=Lib.hid hlu
   clear hlu
   have hsl:=λwx=>slice_to w.heap.size (blocksN m) hcnt13 wx
   clear ht hl
   generalize hcn:blocksN m=cnt at *
   have HCN:=Lib.hid hcn
   clear hcn
   go_enter Tryz.func74,Tryz.ntmps74
   go_wp2_with fail
   refine(HP.out _).mono ?_;rintro e w' ⟨rfl,rfl⟩
   go_wp2_with fail
   refine wp_region_each (S:=λwx=>Keeps [] (w.alloc (.cells Z 34)) wx) (by kernel_rfl) (by kernel_rfl) (λd _ _ _ _ h=>by cases d<;>exact h) ((Keeps.refl _ _).drew) (by kernel_rfl) ?_
   repeat (first
    |(refine EachList.cons (.agg Z) (EachIf.load rfl 34 (.tmp 4) rfl _ rfl λwx hx=>HLD.out wx hx) ?_;simp only[Act.put,List.setIfInBounds_toArray,List.set_cons_zero,List.set_cons_succ])
    |(refine EachList.cons (.agg ZU) (EachIf.call rfl 69 #[.agg Z,.int .i64 (cnt:Int)] ?he ?h) ?_;(case he=>(intro wz;go_simp));(case h=>exact λwx hx=>(HU.out wx).mono λe w' he=>⟨he.1,hx.trans' he.2⟩);simp only[Act.put,List.setIfInBounds_toArray,List.set_cons_zero,List.set_cons_succ])
    |(refine EachList.cons (.bool false) (EachIf.val rfl ?h) ?_;(case h=>(intro wx hx;clear hx;first|(go_simp;done)|(go_simp;simp[hd24];done)));simp only[Act.put,List.setIfInBounds_toArray,List.set_cons_zero,List.set_cons_succ])
    |(refine EachList.cons ?_ (EachIf.val rfl ?h) ?_;(case h=>(intro wx hx;clear hx;go_simp;rfl));simp only[Act.put,List.setIfInBounds_toArray,List.set_cons_zero,List.set_cons_succ]))
   refine EachList.done λw1 hx=> ?_
   have HK1:=Lib.hid hx
   clear hx
   obtain⟨E,hE⟩:∃E,E=entsE (putAll B ps) l m:=⟨_,rfl⟩
   have HE:=Lib.hid hE
   have hEl:E.length=m:=by rw[hE];exact entsE_len _ _ _
   have HEL:=Lib.hid hEl
   have HEG:Hid (∀e,e<m→enm E e=strN ((nameN (entW (putAll B ps) l e)).getD [])∧eno E e=entI (putAll B ps) l e):=λe he=>by rw[hE];exact entsE_get _ _ _ _ he
   have hm4:m≤4*cnt∧∀k,k<cnt→4*k<m:=by
    have hc:=HCN.out
    unfold blocksN at hc
    exact⟨by omega,λk hk=>by omega⟩
   have HM4:=Lib.hid hm4
   clear hE hEl hm4
   obtain⟨i0,hi,hz0,hz1,hz2⟩:=info_parts Tryz.info_entry
   have HI:=Lib.hid hi
   have hzr8:=zero_r8
   clear hi
   go_wp2_with fail
   clear hsl heq hg13
   go_loopg [9,29] cnt (λgh s9 s29 wx=>∃k:Nat,k+gh=cnt∧s29= .int .i64 (k:Int)∧Hid (wx.ownsRow (w.heap.size+1) 85 2 s9 (min m (4*k)) (ecells (E.take (4*k)))∧(∀i,i<k→BlkOk (putAll B ps) l m i)∧Keeps [] (w.alloc (.cells Z 34)) wx))
   case atStart=>exact⟨0,by omega,rfl,⟨by simp[ecells],.inl ⟨rfl,by simp⟩⟩,by simp,HK1.out⟩
   case round=>
    clear HK1
    obtain⟨k,hk,rfl,HP⟩:=hrel
    obtain⟨hown,hpre,hkp⟩:=HP.out
    cases gk with
    |zero=>
     obtain rfl:k=cnt:=by omega
     have HFIN:Hid (EntsPost w (putAll B ps) l m (.returned (.tuple #[u9,.bool true])) wr):=by
      have h1:=HM4.out.1
      rw[Nat.min_eq_left h1,List.take_of_length_le (by rw[HEL.out];exact h1)] at hown
      obtain⟨g,ho,hg⟩:=Owns.of_row hown
      obtain⟨g2,hg2,hr2⟩:∃g2,w.heap.size≤g2∧EReads wr u9 g2 E:=by
       by_cases h0:m=0
       ·exact⟨w.heap.size,Nat.le_refl _,(ho.ereads HEL.out.symm).anyG (by rw[HEL.out,h0]) _⟩
       ·exact⟨g,by have :=(hg h0).1;omega,ho.ereads HEL.out.symm⟩
      exact⟨u9,E,true,g2,rfl,hr2,hg2,λ_=>⟨⟨by omega,by rw[HCN.out];exact HLU.out,by rw[HCN.out];exact hpre⟩,HE.out⟩,λh=>(by cases h),HK0.out.trans' hkp⟩
     clear HP hown hpre hkp hk
     go_wp2_with fail
     go_ret2
     exact HFIN.out
    |succ gg=>
     have hkc:k<cnt:=by omega
     have hlt:(k:Int)<(cnt:Int):=by omega
     have hk0:(0:Int)≤(k:Int):=by omega
     have hk4:=HM4.out.2 k hkc
     have hcell:=HCELL.out wr k (by omega) hkp
     have hb256:=HL256.out k
     have HNB:Hid (¬BlkOk (putAll B ps) l m k→¬EntsOk (putAll B ps) l m):=λh hh=>h (hh.2.2 k (by rw[HCN.out];exact hkc))
     have HBO:Hid (BlkOk (putAll B ps) l m k↔l.getD k 0≠0∧(∀j,j<min 4 (m-4*k)→(nameN (entW (putAll B ps) l (4*k+j))).isSome=true∧entI (putAll B ps) l (4*k+j)<32)∧entRow E k=rowL (putAll B ps) (1080+8*(l.getD k 0).toNat)):=by
      have e:=HE.out
      show _↔_
      rw[e]
      exact Iff.rfl
     have HPRE:=Lib.hid hpre
     have HKP:=Lib.hid hkp
     have HPL:Hid (∀j,j<4→entAt l (4*k+j)=1080+8*(l.getD k 0).toNat+2*j):=λj hj=>ent_place l k j hj
     obtain⟨q,hq⟩:∃q:Nat,l.getD k 0=(q:Int):=⟨(l.getD k 0).toNat,by omega⟩
     rw[hq] at hcell HBO HPL hb256
     rw[Int.toNat_natCast] at HBO HPL
     rw[Nat.min_eq_right (by omega)] at hown
     have HOW:=Lib.hid hown
     clear HP hown hpre hkp hq
     by_cases hq0:q=0
     ·subst hq0
      have HN:Hid (¬EntsOk (putAll B ps) l m):=HNB.out λh=>(HBO.out.1 h).1 rfl
      have HKX:=Lib.hid (HK0.out.trans' HKP.out)
      clear HBO HPL HNB hk
      go_wp2_with fail
      go_ret2
      exact EntsPost.no HN.out HKX.out
     ·have e0:((q:Int)==0)=false:=beq_eq_false_iff_ne.2 (by omega)
      have hblk:=txBlock_at (q:Int) wr
      rw[show blockN (q:Int)=((1080+8*q:Nat):Int) by unfold blockN;rw[if_neg (by omega)];omega] at hblk
      have HBLK:=Lib.hid hblk
      have HROW:=Lib.hid (rowAt_at (HS.out.keep (HK0.out.trans' HKP.out) (by simp) (by simp)) (1080+8*q) (by omega))
      obtain⟨r,hr⟩:∃r,r=rowL (putAll B ps) (1080+8*q):=⟨_,rfl⟩
      rw[←hr] at HROW HBO
      have HRX:=Lib.hid hr
      have hr8:r.length=8:=by rw[hr];exact rowL_len _ _
      have HRG:Hid (∀j,j<4→r.getD (j*2) 0=((entW (putAll B ps) l (4*k+j):Nat):Int)∧r.getD (j*2+1) 0=entI (putAll B ps) l (4*k+j)):=λj hj=>by
       have hpl:=HPL.out j hj
       rw[hr,rowL_get _ _ _ (by omega),rowL_get _ _ _ (by omega)]
       unfold entW entI
       rw[hpl]
       have h64:=H64.out (1080+8*q+2*j)
       rw[show 1080+8*q+j*2=1080+8*q+2*j by omega,show 1080+8*q+(j*2+1)=1080+8*q+2*j+1 by omega]
       exact⟨by omega,rfl⟩
      have HR8:=Lib.hid hr8
      have HI64:Hid (∀j,j<4→0≤entI (putAll B ps) l (4*k+j)):=λj hj=>by
       have :=(H64.out (entAt l (4*k+j)+1)).1
       exact this
      clear hr hr8 HPL hblk
      generalize hp:((1080+8*q:Nat):Int)=p at *
      clear hp
      obtain⟨c,hc⟩:∃c,c=min 4 (m-4*k):=⟨_,rfl⟩
      have HC:=Lib.hid hc
      have hc4:c≤4:=by omega
      have hcm:4*k+c≤m:=by omega
      have hsub:(m:Int)-(k:Int)*4=((m-4*k:Nat):Int):=by omega
      obtain⟨d,hd⟩:∃d,d=m-4*k:=⟨_,rfl⟩
      rw[←hd] at hsub hc
      have hHc:((4:Int)≤(d:Int)∧c=4)∨((d:Int)<4∧c=d):=by omega
      clear hc hd
      have hww:w.heap.size+1≤wr.heap.size:=by have :=HKP.out.size;simpa using this
      go_wp2_with fail
      refine HBLK.out.mono ?_;rintro e w' ⟨rfl,rfl⟩
      go_wp2_with fail
      refine HROW.out.mono ?_;rintro e w3 ⟨rfl,hk3⟩
      obtain⟨w5,hst,hb5,hk5⟩:=store_whole (P:= Tryz.prog) (ty:= 74) (cs:=u64s r) (by rw[u64s_len,HR8.out];exact size_r8) (Blk.new w3 (u64s (List.replicate 8 0)).toArray 74) (by simp[u64s_len,HR8.out]) (u64s_one _)
      have hw3:=hk3.size
      have HST:=Lib.hid hst
      have HB5:=Lib.hid hb5
      have HK5:Hid (Keeps [] wr w5):=((hk3.alloc (.cells (u64s (List.replicate 8 0)).toArray 74)).trans hk5 (by intro x hx;rw[List.mem_singleton] at hx;omega))
      clear hst hb5 hk5 hk3 HBLK HROW
      have HKW:Hid (Keeps [] (w.alloc (.cells Z 34)) w5):=HKP.out.trans' HK5.out
      have HE5:Hid (∀g,u9.ownBlock=some g→g≠w3.heap.size):=λg hg=>by
       obtain⟨-,h1⟩:=HOW.out
       rcases h1 with ⟨hv,-⟩|⟨g2,cap,cur,hv,-,hh,-⟩
       ·rw[hv] at hg;cases hg
       ·rw[hv] at hg
        cases hg
        have :=(Array.getElem?_eq_some_iff.1 hh).1
        show g2≠w3.heap.size
        omega
      have HO5:Hid (w5.ownsRow (w.heap.size+1) 85 2 u9 (4*k+0) (ecells (E.take (4*k+0)))):=ownsRow_keep HOW.out HK5.out (by simp)
      have hw31:w.heap.size+1≤w3.heap.size:=by omega
      obtain⟨n2,hn2⟩:∃n2,n2=2*c:=⟨_,rfl⟩
      have HGT:Hid (∀j,j<c→(r.take n2).getD (j*2) 0=((entW (putAll B ps) l (4*k+j):Nat):Int)∧(r.take n2).getD (j*2+1) 0=entI (putAll B ps) l (4*k+j)):=λj hj=>by
       have e0:(r.take n2).getD (j*2) 0=r.getD (j*2) 0:=by simp[List.getD_eq_getElem?_getD,show j*2<n2 by omega]
       have e1:(r.take n2).getD (j*2+1) 0=r.getD (j*2+1) 0:=by simp[List.getD_eq_getElem?_getD,show j*2+1<n2 by omega]
       rw[e0,e1]
       exact HRG.out j (by omega)
      have HLOK:Hid (EntsLOk (r.take n2) c↔∀j,j<c→(nameN (entW (putAll B ps) l (4*k+j))).isSome=true∧entI (putAll B ps) l (4*k+j)<32):=by
       constructor
       ·intro h j hj
        have :=h j hj
        rw[(HGT.out j hj).1,(HGT.out j hj).2,Int.toNat_natCast] at this
        exact this
       ·intro h j hj
        rw[(HGT.out j hj).1,(HGT.out j hj).2,Int.toNat_natCast]
        exact h j hj
      have HEE:Hid (E.take (4*k+c)=E.take (4*k)++entsL (r.take n2) c):=by
       show _=_
       rw[List.take_add]
       congr 1
       have hl1:((E.drop (4*k)).take c).length=c:=by rw[List.length_take,List.length_drop,HEL.out];omega
       refine e_ext (by rw[hl1,entsL_len]) λj hj=> ?_
       rw[hl1] at hj
       rw[(ent_sub E (4*k) c j hj).1,(ent_sub E (4*k) c j hj).2,(entsL_get _ _ _ hj).1,(entsL_get _ _ _ hj).2,(HGT.out j hj).1,(HGT.out j hj).2,Int.toNat_natCast]
       exact HEG.out _ (by omega)
      have HR64:Hid (∀j,0≤(r.take n2).getD j 0∧(r.take n2).getD j 0<18446744073709551616):=λj=>by
       by_cases hj:j<n2
       ·have e0:(r.take n2).getD j 0=r.getD j 0:=by simp[List.getD_eq_getElem?_getD,hj]
        rw[e0,HRX.out]
        by_cases hj8:j<8
        ·rw[rowL_get _ _ _ hj8];exact H64.out _
        ·rw[List.getD_eq_getElem?_getD,List.getElem?_eq_none (by rw[rowL_len];omega)]
         simp
       ·rw[List.getD_eq_getElem?_getD,List.getElem?_eq_none (by rw[List.length_take];omega)]
        simp
      have hRD:Reads w5 (.slice (some ⟨w3.heap.size,0,none⟩) n2 8) w3.heap.size (u64s (r.take n2)):=by
       have :=HB5.out.reads (o:=0) (n:=n2) (c:=8) (by rw[HR8.out];omega) (by omega) (by omega)
       rwa[List.drop_zero] at this
      have HEOF:=Lib.hid (rowEntriesOf_at hRD (by rw[List.length_take,HR8.out];omega) c (by rw[List.length_take,HR8.out];omega) HR64.out)
      have HSL8:Hid (∀x:Int,x=(n2:Int)→∀wx,(Instr.sliceAt 74 (.pointer (some ⟨w3.heap.size,0,none⟩)) none (some (.int .i64 x)) none).run Tryz.prog wx= .ok (.slice (some ⟨w3.heap.size,0,none⟩) n2 8) wx):=λx hx wx=>by
       rw[hx]
       exact slice_to8 _ _ (by omega) wx
      have hc1:1≤c:=by have :=HC.out;omega
      clear hRD HRG HGT HR64
      have HN2:=Lib.hid hn2
      clear hn2
      rcases hHc with ⟨hH1,hH2⟩|⟨hH1,hH2⟩
      ·have hs8:=HSL8.out 8 (by have :=HN2.out;omega)
       have HH2:=Lib.hid hH2
       clear hH2 HSL8
       go_wp2_with((with_reducible show wpList _ _ _ (⟨_,.store 74 (.tmp 12) (.tmp 39),_,_,_,_⟩::_) _ _);refine wpList_store_any rfl 74 (.tmp 12) (.tmp 39) rfl _ rfl _ rfl _ HST.out ?_)
       refine HEOF.out.mono ?_;rintro e w6 hpost
       rcases hpost with ⟨g7,rfl,ho7,hg7,hok7,hk6⟩|⟨rfl,hno,hk6⟩
       ·have hok:=HLOK.out.1 hok7
        have HOW6:=Lib.hid (ownsRow_keep HO5.out hk6 (by simp))
        have HK6:=Lib.hid (HK5.out.trans' hk6)
        have HBR6:=Lib.hid (HB5.out.keep hk6 (by simp))
        have HNEWS:Hid (∀j u,(ecells (entsL (r.take n2) c))[j]? =some u→w6.cell? ((⟨g7,0,none⟩:Addr).add j)=some u):=λj u hu=>by
         obtain⟨-,-,hcc,-⟩:=ho7.cell (by omega)
         have hj:=(List.getElem?_eq_some_iff.1 hu).1
         rw[ecells_len,entsL_len] at hj
         rw[add_plain,Nat.zero_add,hcc j hj]
         exact hu
        have HNL:Hid ((ecells (entsL (r.take n2) c)).length=c*2):=by show _=_;rw[ecells_len,entsL_len]
        have hw6:w.heap.size+1≤w6.heap.size:=by have :=HK6.out.size;omega
        have hi:=HI.out
        clear hs8 ho7 hg7 hok7 hk6 HEOF
        go_wp2_with(at_builtin;refine wpList_append_own _ rfl _ _ 35 rfl (w.heap.size+1) 85 i0 (.agg #[.string ⟨#[]⟩,.int .i64 0]) 2 24 Tryz.underlying35 hi hz0 hz1 hz2 rfl (by decide) u9 (4*k+0) _ rfl HOW6.out ⟨g7,0,none⟩ c c (ecells (entsL (r.take n2) c)) rfl HNL.out HNEWS.out (ecells_one _) (by unfold maxLen;omega) (by omega) hw6 ?_)
        intro v9 w7 hown7 hgrow _
        have hown:w7.ownsRow (w.heap.size+1) 85 2 v9 (4*k+c) (ecells (E.take (4*k+c))):=by
         rw[HEE.out,ecells_append]
         exact hown7
        have hbr:Blk w7 w3.heap.size (u64s r).toArray 74 :=(hgrow.block _ HBR6.out.lt (λe=>HE5.out _ e.symm rfl)).trans HBR6.out
        have hkp:Keeps [] (w.alloc (.cells Z 34)) w7:=(HKP.out.trans' HK6.out).grown2 hgrow λg hg=>by have :=ownsRow_block HOW6.out g hg;simpa using this
        clear hown7 hgrow HOW6 HK6 HBR6 HKW HK5 HO5 HE5 HB5 HKP HOW hi
        obtain⟨g0,ho0,hg0⟩:=Owns.of_row hown
        have HER:=Lib.hid (ho0.ereads (by rw[List.length_take,HEL.out];omega))
        have HEO:Hid (EntOk (E.take (4*k+c))):=by
         have hin:∀e,e<4*k+c→0≤entI (putAll B ps) l e∧entI (putAll B ps) l e<32:=λe he=>by
          have h0:0≤entI (putAll B ps) l e:=(H64.out (entAt l e+1)).1
          refine⟨h0,?_⟩
          by_cases hek:e<4*k
          ·have :=((HPRE.out (e/4) (by omega)).2.1 (e%4) (by omega)).2
           rw[show 4*(e/4)+e%4=e by omega] at this
           exact this
          ·have :=(hok (e-4*k) (by omega)).2
           rw[show 4*k+(e-4*k)=e by omega] at this
           exact this
         refine⟨by rw[List.length_take,HEL.out];omega,λe he=> ?_,λe he=> ?_⟩
         ·rw[List.length_take,HEL.out] at he
          rw[(take_ent E (4*k+c) e (by omega)).1,(HEG.out e (by omega)).1]
          have :=name_size (entW (putAll B ps) l e)
          omega
         ·rw[List.length_take,HEL.out] at he
          rw[(take_ent E (4*k+c) e (by omega)).2,(HEG.out e (by omega)).2]
          have :=hin e (by omega)
          omega
        have HROWC:Hid (∀wx,Keeps [] w7 wx→Calls Tryz.prog 81 #[v9,.int .i64 (k:Int)] wx λe w'=>e= .returned (.agg (u64s (entRow E k)).toArray)∧Keeps [] wx w'):=λwx hk2=>by
         have :=entryRow_at (HER.out.keep hk2 (by simp)) HEO.out k (by rw[List.length_take,HEL.out];omega)
         rw[entRow_take E k c (by rw[HC.out,HEL.out]) (by rw[HEL.out];exact hk4)] at this
         exact this
        have HLR:Hid (∀wx,Keeps [] w7 wx→(loadVar 74 ⟨w3.heap.size,0,none⟩).run Tryz.prog wx= .ok (.agg (u64s r).toArray) wx):=λwx hk2=>load_r8 (hbr.keep hk2 (by simp)) HR8.out
        have HEQ8:=Lib.hid (λwx=>eq_r8 (a:=entRow E k) (b:=r) (entTo_len _ _ _) HR8.out wx)
        have hgr8:=guard_r8
        have HKP:=Lib.hid hkp
        have HOW:=Lib.hid hown
        obtain⟨t2,ht2⟩:∃t2,decide (entRow E k=r)=t2:=⟨_,rfl⟩
        rw[ht2] at HEQ8
        have heq8:=HEQ8.out
        have HBK:Hid (BlkOk (putAll B ps) l m k↔t2=true):=by
         show _↔_
         rw[HBO.out,←ht2,decide_eq_true_iff]
         refine⟨λh=>h.2.2,λh=>⟨by omega,λi hi=>hok i ?_,h⟩⟩
         have :=HC.out
         omega
        clear hown hok hbr hkp ho0 hg0 ht2 HEQ8
        generalize (u64s (entRow E k)).toArray=ZQ at *
        generalize (u64s r).toArray=ZP at *
        cases t2
        all_goals
         go_wp2_with fail
         refine wp_region_each (S:=λwx=>Keeps [] w7 wx) (by kernel_rfl) (by kernel_rfl) (λd _ _ _ _ h=>by cases d<;>exact h) ((Keeps.refl _ _).drew) (by kernel_rfl) ?_
         repeat (first
          |(refine EachList.cons (.agg ZP) (EachIf.load rfl 74 (.tmp 12) rfl _ rfl λwx hx=>HLR.out wx hx) ?_;simp only[Act.put,List.setIfInBounds_toArray,List.set_cons_zero,List.set_cons_succ])
          |(refine EachList.cons (.agg ZQ) (EachIf.call rfl 81 #[v9,.int .i64 (k:Int)] ?he ?h) ?_;(case he=>(intro wz;go_simp));(case h=>exact λwx hx=>(HROWC.out wx hx).mono λe w' he=>⟨he.1,hx.trans' he.2⟩);simp only[Act.put,List.setIfInBounds_toArray,List.set_cons_zero,List.set_cons_succ])
          |(refine EachList.cons ?_ (EachIf.val rfl ?h) ?_;(case h=>(intro wx hx;clear hx;go_simp;rfl));simp only[Act.put,List.setIfInBounds_toArray,List.set_cons_zero,List.set_cons_succ]))
         refine EachList.done λwz hx=> ?_
         have HKZ:=Lib.hid hx
         clear hx
        ·have HN:Hid (¬EntsOk (putAll B ps) l m):=HNB.out λh=>by have :=HBK.out.1 h;cases this
         have HKX:=Lib.hid (HK0.out.trans' (HKP.out.trans' HKZ.out))
         go_wp2_with fail
         go_ret2
         exact EntsPost.no HN.out HKX.out
        ·have HNEXT:Hid (wz.ownsRow (w.heap.size+1) 85 2 v9 (min m (4*(k+1))) (ecells (E.take (4*(k+1))))∧(∀i,i<k+1→BlkOk (putAll B ps) l m i)∧Keeps [] (w.alloc (.cells Z 34)) wz):=by
          refine⟨?_,λi hi=> ?_,HKP.out.trans' HKZ.out⟩
          ·have h1:=ownsRow_keep HOW.out HKZ.out (by simp)
           have hcc:=HC.out
           rw[show min m (4*(k+1))=4*k+c by omega]
           have e:E.take (4*(k+1))=E.take (4*k+c):=by
            by_cases h4:c=4
            ·rw[h4,Nat.mul_add]
            ·rw[List.take_of_length_le (by rw[HEL.out];omega),List.take_of_length_le (by rw[HEL.out];omega)]
           rw[e]
           exact h1
          ·by_cases e:i=k
           ·subst e;exact HBK.out.2 (by simp)
           ·exact HPRE.out i (by omega)
         go_wp2_with fail
         go_roundg gg
         case measure=>omega
         case rel=>exact⟨k+1,by omega,by go_num,HNEXT.out⟩
       ·have HN:Hid (¬EntsOk (putAll B ps) l m):=HNB.out λh=>hno (HLOK.out.2 λj hj=>(HBO.out.1 h).2.1 j (by have :=HC.out;omega))
        have HKX:=Lib.hid (HK0.out.trans' ((HKP.out.trans' HK5.out).trans' hk6))
        clear hno hk6 HEOF
        go_wp2_with fail
        go_ret2
        exact EntsPost.no HN.out HKX.out
      ·have hd2:2*(d:Int)=(n2:Int):=by have :=HN2.out;omega
       have hs8:=HSL8.out (n2:Int) rfl
       have HH2:=Lib.hid hH2
       clear hH2 HSL8
       go_wp2_with((with_reducible show wpList _ _ _ (⟨_,.store 74 (.tmp 12) (.tmp 39),_,_,_,_⟩::_) _ _);refine wpList_store_any rfl 74 (.tmp 12) (.tmp 39) rfl _ rfl _ rfl _ HST.out ?_)
       refine HEOF.out.mono ?_;rintro e w6 hpost
       rcases hpost with ⟨g7,rfl,ho7,hg7,hok7,hk6⟩|⟨rfl,hno,hk6⟩
       ·have hok:=HLOK.out.1 hok7
        have HOW6:=Lib.hid (ownsRow_keep HO5.out hk6 (by simp))
        have HK6:=Lib.hid (HK5.out.trans' hk6)
        have HBR6:=Lib.hid (HB5.out.keep hk6 (by simp))
        have HNEWS:Hid (∀j u,(ecells (entsL (r.take n2) c))[j]? =some u→w6.cell? ((⟨g7,0,none⟩:Addr).add j)=some u):=λj u hu=>by
         obtain⟨-,-,hcc,-⟩:=ho7.cell (by omega)
         have hj:=(List.getElem?_eq_some_iff.1 hu).1
         rw[ecells_len,entsL_len] at hj
         rw[add_plain,Nat.zero_add,hcc j hj]
         exact hu
        have HNL:Hid ((ecells (entsL (r.take n2) c)).length=c*2):=by show _=_;rw[ecells_len,entsL_len]
        have hw6:w.heap.size+1≤w6.heap.size:=by have :=HK6.out.size;omega
        have hi:=HI.out
        clear hs8 ho7 hg7 hok7 hk6 HEOF
        go_wp2_with(at_builtin;refine wpList_append_own _ rfl _ _ 35 rfl (w.heap.size+1) 85 i0 (.agg #[.string ⟨#[]⟩,.int .i64 0]) 2 24 Tryz.underlying35 hi hz0 hz1 hz2 rfl (by decide) u9 (4*k+0) _ rfl HOW6.out ⟨g7,0,none⟩ c c (ecells (entsL (r.take n2) c)) rfl HNL.out HNEWS.out (ecells_one _) (by unfold maxLen;omega) (by omega) hw6 ?_)
        intro v9 w7 hown7 hgrow _
        have hown:w7.ownsRow (w.heap.size+1) 85 2 v9 (4*k+c) (ecells (E.take (4*k+c))):=by
         rw[HEE.out,ecells_append]
         exact hown7
        have hbr:Blk w7 w3.heap.size (u64s r).toArray 74 :=(hgrow.block _ HBR6.out.lt (λe=>HE5.out _ e.symm rfl)).trans HBR6.out
        have hkp:Keeps [] (w.alloc (.cells Z 34)) w7:=(HKP.out.trans' HK6.out).grown2 hgrow λg hg=>by have :=ownsRow_block HOW6.out g hg;simpa using this
        clear hown7 hgrow HOW6 HK6 HBR6 HKW HK5 HO5 HE5 HB5 HKP HOW hi
        obtain⟨g0,ho0,hg0⟩:=Owns.of_row hown
        have HER:=Lib.hid (ho0.ereads (by rw[List.length_take,HEL.out];omega))
        have HEO:Hid (EntOk (E.take (4*k+c))):=by
         have hin:∀e,e<4*k+c→0≤entI (putAll B ps) l e∧entI (putAll B ps) l e<32:=λe he=>by
          have h0:0≤entI (putAll B ps) l e:=(H64.out (entAt l e+1)).1
          refine⟨h0,?_⟩
          by_cases hek:e<4*k
          ·have :=((HPRE.out (e/4) (by omega)).2.1 (e%4) (by omega)).2
           rw[show 4*(e/4)+e%4=e by omega] at this
           exact this
          ·have :=(hok (e-4*k) (by omega)).2
           rw[show 4*k+(e-4*k)=e by omega] at this
           exact this
         refine⟨by rw[List.length_take,HEL.out];omega,λe he=> ?_,λe he=> ?_⟩
         ·rw[List.length_take,HEL.out] at he
          rw[(take_ent E (4*k+c) e (by omega)).1,(HEG.out e (by omega)).1]
          have :=name_size (entW (putAll B ps) l e)
          omega
         ·rw[List.length_take,HEL.out] at he
          rw[(take_ent E (4*k+c) e (by omega)).2,(HEG.out e (by omega)).2]
          have :=hin e (by omega)
          omega
        have HROWC:Hid (∀wx,Keeps [] w7 wx→Calls Tryz.prog 81 #[v9,.int .i64 (k:Int)] wx λe w'=>e= .returned (.agg (u64s (entRow E k)).toArray)∧Keeps [] wx w'):=λwx hk2=>by
         have :=entryRow_at (HER.out.keep hk2 (by simp)) HEO.out k (by rw[List.length_take,HEL.out];omega)
         rw[entRow_take E k c (by rw[HC.out,HEL.out]) (by rw[HEL.out];exact hk4)] at this
         exact this
        have HLR:Hid (∀wx,Keeps [] w7 wx→(loadVar 74 ⟨w3.heap.size,0,none⟩).run Tryz.prog wx= .ok (.agg (u64s r).toArray) wx):=λwx hk2=>load_r8 (hbr.keep hk2 (by simp)) HR8.out
        have HEQ8:=Lib.hid (λwx=>eq_r8 (a:=entRow E k) (b:=r) (entTo_len _ _ _) HR8.out wx)
        have hgr8:=guard_r8
        have HKP:=Lib.hid hkp
        have HOW:=Lib.hid hown
        obtain⟨t2,ht2⟩:∃t2,decide (entRow E k=r)=t2:=⟨_,rfl⟩
        rw[ht2] at HEQ8
        have heq8:=HEQ8.out
        have HBK:Hid (BlkOk (putAll B ps) l m k↔t2=true):=by
         show _↔_
         rw[HBO.out,←ht2,decide_eq_true_iff]
         refine⟨λh=>h.2.2,λh=>⟨by omega,λi hi=>hok i ?_,h⟩⟩
         have :=HC.out
         omega
        clear hown hok hbr hkp ho0 hg0 ht2 HEQ8
        generalize (u64s (entRow E k)).toArray=ZQ at *
        generalize (u64s r).toArray=ZP at *
        cases t2
        all_goals
         go_wp2_with fail
         refine wp_region_each (S:=λwx=>Keeps [] w7 wx) (by kernel_rfl) (by kernel_rfl) (λd _ _ _ _ h=>by cases d<;>exact h) ((Keeps.refl _ _).drew) (by kernel_rfl) ?_
         repeat (first
          |(refine EachList.cons (.agg ZP) (EachIf.load rfl 74 (.tmp 12) rfl _ rfl λwx hx=>HLR.out wx hx) ?_;simp only[Act.put,List.setIfInBounds_toArray,List.set_cons_zero,List.set_cons_succ])
          |(refine EachList.cons (.agg ZQ) (EachIf.call rfl 81 #[v9,.int .i64 (k:Int)] ?he ?h) ?_;(case he=>(intro wz;go_simp));(case h=>exact λwx hx=>(HROWC.out wx hx).mono λe w' he=>⟨he.1,hx.trans' he.2⟩);simp only[Act.put,List.setIfInBounds_toArray,List.set_cons_zero,List.set_cons_succ])
          |(refine EachList.cons ?_ (EachIf.val rfl ?h) ?_;(case h=>(intro wx hx;clear hx;go_simp;rfl));simp only[Act.put,List.setIfInBounds_toArray,List.set_cons_zero,List.set_cons_succ]))
         refine EachList.done λwz hx=> ?_
         have HKZ:=Lib.hid hx
         clear hx
        ·have HN:Hid (¬EntsOk (putAll B ps) l m):=HNB.out λh=>by have :=HBK.out.1 h;cases this
         have HKX:=Lib.hid (HK0.out.trans' (HKP.out.trans' HKZ.out))
         go_wp2_with fail
         go_ret2
         exact EntsPost.no HN.out HKX.out
        ·have HNEXT:Hid (wz.ownsRow (w.heap.size+1) 85 2 v9 (min m (4*(k+1))) (ecells (E.take (4*(k+1))))∧(∀i,i<k+1→BlkOk (putAll B ps) l m i)∧Keeps [] (w.alloc (.cells Z 34)) wz):=by
          refine⟨?_,λi hi=> ?_,HKP.out.trans' HKZ.out⟩
          ·have h1:=ownsRow_keep HOW.out HKZ.out (by simp)
           have hcc:=HC.out
           rw[show min m (4*(k+1))=4*k+c by omega]
           have e:E.take (4*(k+1))=E.take (4*k+c):=by
            by_cases h4:c=4
            ·rw[h4,Nat.mul_add]
            ·rw[List.take_of_length_le (by rw[HEL.out];omega),List.take_of_length_le (by rw[HEL.out];omega)]
           rw[e]
           exact h1
          ·by_cases e:i=k
           ·subst e;exact HBK.out.2 (by simp)
           ·exact HPRE.out i (by omega)
         go_wp2_with fail
         go_roundg gg
         case measure=>omega
         case rel=>exact⟨k+1,by omega,by go_num,HNEXT.out⟩
       ·have HN:Hid (¬EntsOk (putAll B ps) l m):=HNB.out λh=>hno (HLOK.out.2 λj hj=>(HBO.out.1 h).2.1 j (by have :=HC.out;omega))
        have HKX:=Lib.hid (HK0.out.trans' ((HKP.out.trans' HK5.out).trans' hk6))
        clear hno hk6 HEOF
        go_wp2_with fail
        go_ret2
        exact EntsPost.no HN.out HKX.out
def BReads (w:World) (v:Value) (g:Nat) (Ls:List (List Int)):Prop:=
 ∃a cap,v= .slice a Ls.length cap∧Ls.length≤cap∧cap≤maxLen∧(Ls.length≠0→g<w.heap.size∧∃off,a=some ⟨g,off,none⟩∧∀k,k<Ls.length→∀j,j<8→w.cell? ⟨g,off+k*8+j,none⟩=some (.int .u64 ((Ls.getD k []).getD j 0)))
theorem BReads.keep {w w':World} {v:Value} {g:Nat} {Ls:List (List Int)} (h:BReads w v g Ls) {l:List Nat} (hk:Keeps l w w') (hg:Ls.length≠0→g∉l):BReads w' v g Ls:=by
 obtain⟨a,cap,h1,h2,h3,h4⟩:=h
 refine⟨a,cap,h1,h2,h3,λhx=> ?_⟩
 obtain⟨hlt,off,h5,h6⟩:=h4 hx
 refine⟨Nat.lt_of_lt_of_le hlt hk.size,off,h5,λk hk2 j hj=> ?_⟩
 exact(World.cell?_of_block (w:=w) (w':=w') (a:=⟨g,off+k*8+j,none⟩) (hk.block g hlt (hg hx))).trans (h6 k hk2 j hj)
theorem BReads.nil (w:World) (g:Nat):BReads w (.slice none 0 0) g []:=⟨none,0,rfl,by simp,by simp[maxLen],λh=>absurd rfl h⟩
theorem BReads.anyG {w:World} {v:Value} {g:Nat} {Ls:List (List Int)} (h:BReads w v g Ls) (he:Ls.length=0) (g':Nat):BReads w v g' Ls:=by
 obtain⟨a,cap,h1,h2,h3,h4⟩:=h
 exact⟨a,cap,h1,h2,h3,λh=>absurd he h⟩
def fileRow (n:Ino) (own:List Nat):List Int:=
 if (runsL n.B).length≤6 then tagW n::n.S::(runsL n.B++List.replicate (6-(runsL n.B).length) 0) else tagW n::n.S::((runsL n.B).take 5++[9223372036854775808+((own.getD 0 0:Nat):Int)])
def fileBlocks (n:Ino):List (List Int):=
 if (runsL n.B).length≤6 then [] else [(runsL n.B).drop 5++List.replicate (13-(runsL n.B).length) 0]
def LaidPost (w:World) (R:List Int) (Bs:List (List Int)) (e:Ending) (w':World):Prop:=
 ∃vb gb,e= .returned (.tuple #[.agg (u64s R).toArray,vb])∧BReads w' vb gb Bs∧w.heap.size≤gb∧Keeps [] w w'
theorem results_cell2 {P:Program} {fn:Func} {tmps:Array Value} {a t b:Nat} {ad:Addr} {v x:Value} {w:World} (hfn:fn.results= #[.cell a t,.tmp b]) (ha:tmps.getD a undef= .pointer (some ad)) (hl:(loadVar t ad).run P w= .ok v w)
  (hb:tmps.getD b undef=x):(results fn tmps).run P w= .ok (.tuple #[v,x]) w:=by
 rw[Array.getD_eq_getD_getElem?] at ha hb
 unfold results
 rw[hfn]
 simp[Sem.run_bind,ha,asAddr_ptr,hl,hb]
theorem step_store_any {P:Program} {ops:Array Oper} {o:Oper} {a:Act} {w:World} {K:Act→World→Prop} {Q:Exit→Act→World→Prop} {E:Prop} (hgd:o.guard=none) (ty:TypeId) (x y:Operand) (ho:o.op= .store ty x y) (ad:Addr)
  (hx:a.eval x= .pointer (some ad)) (v:Value) (hy:a.eval y=v) (w':World) (hr:(storeVar ty ad v).run P w= .ok () w') (h:K (a.put o.dst undef) w'):if Region.wanted o (yielded ops a.tmps)=true then Oper.wp P o a w K Q else E:=by
 have hw:Region.wanted o (yielded ops a.tmps)=true:=by simp[Region.wanted,hgd]
 rw[if_pos hw]
 unfold Oper.wp execOp
 simp only[ho,hx,hy,Instr.storeAt,Instr.sureAddr,Sem.run_bind,Sem.run_pure,Result.andThen_ok,hr]
 exact h
theorem breads_one {w:World} {b T:Nat} {L:List Int} {a0 a1 a2 a3 a4 a5 a6 a7:Value} (hb:Blk w b #[a0,a1,a2,a3,a4,a5,a6,a7] T) (hl:L.length=8) (h:u64s L=[a0,a1,a2,a3,a4,a5,a6,a7]):BReads w (.slice (some ⟨b,0,none⟩) 1 1) b [L]:=by
 refine⟨_,1,rfl,Nat.le_refl _,by unfold maxLen;omega,λ_=>⟨hb.lt,0,rfl,λk hk j hj=> ?_⟩⟩
 have hk0:k=0:=by
  have :k<1:=hk
  omega
 subst hk0
 have e:(0+0*8+j:Nat)=j:=by omega
 rw[e,hb.cell]
 have h2:(#[a0,a1,a2,a3,a4,a5,a6,a7]:Array Value)=(u64s L).toArray:=by rw[h]
 rw[h2,List.getElem?_toArray,u64s_get (by omega)]
 rfl
theorem slice_two8 (b:Nat) (w:World):(Instr.sliceAt 74 (.pointer (some ⟨b,0,none⟩)) (some (.int .i64 2)) none none).run Tryz.prog w= .ok (.slice (some ⟨b,2,none⟩) 6 6) w:=by show Sem.run _ _ _=_;kernel_rfl
set_option maxRecDepth 100000 in
set_option maxHeartbeats 8000000 in
theorem laidFile_small {w:World} (n:Ino) (v:Value) (hB:n.B.length=13) (ht:TagOk n) (vo:Value) (own:List Nat) (h6:(runsL n.B).length≤6):
  Calls Tryz.prog 103 #[.agg (inoC n v),vo] w (LaidPost w (fileRow n own) (fileBlocks n)):=by
 have hFR:fileRow n own=tagW n::n.S::(runsL n.B++List.replicate (6-(runsL n.B).length) 0):=if_pos h6
 have hFB:fileBlocks n=[]:=if_pos h6
 rw[hFR,hFB]
 have HH:=Lib.hid (head_at n v hB ht)
 have HRUN:=Lib.hid (λwx=>runs_at n.B hB wx)
 obtain⟨W0,hW0⟩:∃W0,W0=(w.alloc (.cells (inoC n v) 37)).alloc (.cells (u64s (List.replicate 8 0)).toArray 74):=⟨_,rfl⟩
 have hb0:Blk W0 w.heap.size (inoC n v) 37 :=by
  rw[hW0]
  exact(Blk.new w _ _).alloc _
 have HBR:Hid (Blk W0 (w.heap.size+1) (u64s (List.replicate 8 0)).toArray 74):=by
  have :=Blk.new (w.alloc (.cells (inoC n v) 37)) (u64s (List.replicate 8 0)).toArray 74
  have e:(w.alloc (.cells (inoC n v) 37)).heap.size=w.heap.size+1:=by simp
  rw[e,←hW0] at this
  exact this
 have HK0:Hid (Keeps [] w W0):=by
  rw[hW0]
  exact((Keeps.refl [] w).alloc _).alloc _
 have HLI:=Lib.hid (load_ino hb0 hB)
 have HLB:Hid (∀wx,Keeps [] W0 wx→(loadVar 34 ⟨w.heap.size,4,none⟩).run Tryz.prog wx= .ok (.agg (zs n.B).toArray) wx):=λwx hk=>load_n13 (off:=4) (hb0.keep hk (by simp)) hB λk hk=>inoC_B _ (by omega)
 have hzv:=zero_r8
 have hRL:(runsL n.B).length≤13:=runsTo_len n.B 13
 have HW0:=Lib.hid hW0
 have HHL:Hid (headL n=tagW n::n.S::List.replicate 6 0):=rfl
 have hh8:=headL_len n
 generalize tagW n=t at *
 generalize n.S=s at *
 generalize headL n=H at *
 generalize runsL n.B=R at *
 generalize (zs n.B).toArray=ZB at *
 generalize inoC n v=Z at *
 clear hb0 hW0 hFR hFB ht hB
 generalize hz8:(u64s (List.replicate 8 0)).toArray=Z8 at *
 have HZ8:=Lib.hid hz8
 clear hz8
 go_enter Tryz.func103,Tryz.ntmps103
 go_wp2_with((with_reducible show wpList _ _ _ (⟨_,.load 37 (.tmp 2),_,_,_,_⟩::_) _ _);rw[←HW0.out];refine wpList_load_any rfl 37 (.tmp 2) rfl _ rfl _ HLI.out ?_)
 refine(HH.out _).mono ?_;rintro e w1 ⟨rfl,hk1⟩
 obtain⟨w2,hst,hb6,hk2⟩:=store_whole (P:= Tryz.prog) (ty:= 74) (cs:=u64s H) (by rw[u64s_len,hh8];exact size_r8) (Blk.new w1 Z8 74) (by rw[←HZ8.out];simp[u64s_len,hh8]) (u64s_one _)
 have hk02:Keeps [] W0 w2:=(hk1.alloc (.cells Z8 74)).trans hk2 (by intro x hx;rw[List.mem_singleton] at hx;have :=hk1.size;omega)
 have hg1:w.heap.size+1<w1.heap.size:=Nat.lt_of_lt_of_le HBR.out.lt hk1.size
 have HST:=Lib.hid hst
 have HB6:=Lib.hid hb6
 have HK2:=Lib.hid hk02
 have HL13:=Lib.hid (HLB.out w2 hk02)
 clear hst hb6 hk2 hk02 hk1 HH
 generalize hg6:w1.heap.size=g6 at *
 go_wp2_with(first|((with_reducible show wpList _ _ _ (⟨_,.store 74 (.tmp 6) (.tmp 11),_,_,_,_⟩::_) _ _);refine wpList_store_any rfl 74 (.tmp 6) (.tmp 11) rfl _ rfl _ rfl _ HST.out ?_)|((with_reducible show wpList _ _ _ (⟨_,.load 34 (.tmp 12),_,_,_,_⟩::_) _ _);refine wpList_load_any rfl 34 (.tmp 12) rfl _ rfl _ HL13.out ?_))
 refine(HRUN.out _).mono ?_;rintro e w3 ⟨va,ga,rfl,hra,hga,hka⟩
 obtain⟨vc,w4,hcp,hb64,hk4⟩:=copy_reads (o:=2) (n:=6) (cap:=6) (HB6.out.keep hka (by simp)) hra h6 (by rw[hh8];omega)
 obtain⟨aa,ca,rfl,-,-,-⟩:=u64s_cell hra
 have hrow:H.take 2++R++H.drop (2+R.length)=t::s::(R++List.replicate (6-R.length) 0):=by
  rw[HHL.out,show 2+R.length=R.length+1+1 by omega,List.drop_succ_cons,List.drop_succ_cons,List.drop_replicate]
  rfl
 rw[hrow] at hb64
 have hrl:(t::s::(R++List.replicate (6-R.length) 0)).length=8:=by simp;omega
 have HL6:=Lib.hid (load_r8 hb64 hrl)
 have HK4:Hid (Keeps [] w w4):=((HK0.out.trans' HK2.out).trans' hka).trans hk4 (by intro x hx;rw[List.mem_singleton] at hx;omega)
 have hbr4:Blk w4 (w.heap.size+1) Z8 74 :=(((HBR.out.keep HK2.out (by simp)).keep hka (by simp)).keep hk4 (by rw[List.mem_singleton];omega))
 obtain⟨w5,hS,hb5,hk5⟩:=store_whole (P:= Tryz.prog) (ty:= 74) (cs:=u64s (t::s::(R++List.replicate (6-R.length) 0))) (by rw[u64s_len,hrl];exact size_r8) hbr4 (by rw[←HZ8.out];simp[u64s_len,hrl]) (u64s_one _)
 have HS:=Lib.hid hS
 have HL5:=Lib.hid (load_r8 hb5 hrl)
 have HK5:Hid (Keeps [] w w5):=HK4.out.trans hk5 (by intro x hx;rw[List.mem_singleton] at hx;omega)
 have HCP:=Lib.hid hcp
 have hsl:=slice_two8 g6
 have h6':(R.length:Int)≤6:=by omega
 clear hra hga hka hcp hb64 hk4 hrow hrl hbr4 hS hb5 hk5 hh8
 go_wp2_with(first|((with_reducible show wpList _ _ _ (⟨some 20,_,_,_,_,_⟩::_) _ _);refine wpList_copy_any rfl (.tmp 18) (.tmp 19) 32 32 rfl _ _ rfl rfl (HCP.out _) ?_)|((with_reducible show wpList _ _ _ (⟨_,.load 74 (.tmp 6),_,_,_,_⟩::_) _ _);refine wpList_load_any rfl 74 (.tmp 6) rfl _ rfl _ HL6.out ?_)|((with_reducible show wpList _ _ _ (⟨_,.store 74 (.tmp 4) (.tmp 21),_,_,_,_⟩::_) _ _);refine wpList_store_any rfl 74 (.tmp 4) (.tmp 21) rfl _ rfl _ rfl _ HS.out ?_))
 exact bodyPost_ret (results_cell2 Tryz.results103 rfl HL5.out rfl) rfl ⟨_,w.heap.size,rfl,BReads.nil _ _,Nat.le_refl _,HK5.out⟩
theorem ints_cellR {w:World} {v:Value} {g:Nat} {xs:List Nat} (h:Reads w v g (i64s xs)):∃a cap,v= .slice a xs.length cap∧xs.length≤cap∧cap≤maxLen∧
  Hid (∀k,k<xs.length→g<w.heap.size∧∃off,a=some ⟨g,off,none⟩∧w.cell? ⟨g,off+k,none⟩=some (.int .i64 ((xs.getD k 0:Nat):Int))):=by
 obtain⟨a,cap,h0,h1,h2,h3⟩:=h
 rw[i64s_len] at *
 refine⟨a,cap,h0,h1,h2,λk hk=> ?_⟩
 obtain⟨hg,off,ho,hc⟩:=h3 (by intro e;have :=congrArg List.length e;rw[i64s_len,List.length_nil] at this;omega)
 exact⟨hg,off,ho,(hc k hk).trans (i64s_get hk)⟩
theorem Reads.part {w:World} {g off L cap:Nat} {R:List Int} (h:Reads w (.slice (some ⟨g,off,none⟩) L cap) g (u64s R)) {o n:Nat} (hn:o+n≤R.length):Reads w (.slice (some ⟨g,off+o,none⟩) n (cap-o)) g (u64s ((R.drop o).take n)):=by
 obtain⟨a,c,hv,h1,h2,h3⟩:=h
 cases hv
 rw[u64s_len] at h1
 have hl:(u64s ((R.drop o).take n)).length=n:=by rw[u64s_len,List.length_take,List.length_drop];omega
 refine⟨_,cap-o,by rw[hl],by rw[hl];omega,by omega,λhx=> ?_⟩
 have hn0:0<n:=by
  rcases Nat.eq_zero_or_pos n with h0|h0
  ·subst h0;exact absurd (List.eq_nil_of_length_eq_zero hl) hx
  ·exact h0
 obtain⟨hg,off',ho,hc⟩:=h3 (by intro e;have :=congrArg List.length e;rw[u64s_len,List.length_nil] at this;omega)
 cases ho
 refine⟨hg,_,rfl,λj hj=> ?_⟩
 rw[hl] at hj
 have :=hc (o+j) (by rw[u64s_len];omega)
 rw[Nat.add_assoc,this,u64s_get (by omega),u64s_get (by rw[List.length_take,List.length_drop];omega)]
 simp[List.getD_eq_getElem?_getD,hj]
set_option maxRecDepth 100000 in
set_option maxHeartbeats 8000000 in
theorem laidFile_big {w:World} (n:Ino) (v:Value) (hB:n.B.length=13) (ht:TagOk n) (vo:Value) (go:Nat) (own:List Nat) (ho:Reads w vo go (i64s own)) (hgo:own.getD 0 0<256) (h1:1≤own.length) (h6:6<(runsL n.B).length):
  Calls Tryz.prog 103 #[.agg (inoC n v),vo] w (LaidPost w (fileRow n own) (fileBlocks n)):=by
 have hFR:fileRow n own=tagW n::n.S::((runsL n.B).take 5++[9223372036854775808+((own.getD 0 0:Nat):Int)]):=if_neg (by omega)
 have hFB:fileBlocks n=[(runsL n.B).drop 5++List.replicate (13-(runsL n.B).length) 0]:=if_neg (by omega)
 rw[hFR,hFB]
 obtain⟨ao,co,rfl,hoc,hom,HOC⟩:=ints_cellR ho
 obtain⟨hgol,offo,rfl,hco⟩:=HOC.out 0 (by omega)
 have hol:0<(own.length:Int):=by omega
 obtain⟨x0,hx0⟩:∃x0,x0=own.getD 0 0:=⟨_,rfl⟩
 rw[←hx0] at hgo hco ⊢
 rw[Nat.add_zero] at hco
 have HCO:=Lib.hid hco
 clear hco hx0 HOC ho
 have HH:=Lib.hid (head_at n v hB ht)
 have HRUN:=Lib.hid (λwx=>runs_at n.B hB wx)
 obtain⟨W0,hW0⟩:∃W0,W0=(w.alloc (.cells (inoC n v) 37)).alloc (.cells (u64s (List.replicate 8 0)).toArray 74):=⟨_,rfl⟩
 have hb0:Blk W0 w.heap.size (inoC n v) 37 :=by
  rw[hW0]
  exact(Blk.new w _ _).alloc _
 have HBR:Hid (Blk W0 (w.heap.size+1) (u64s (List.replicate 8 0)).toArray 74):=by
  have :=Blk.new (w.alloc (.cells (inoC n v) 37)) (u64s (List.replicate 8 0)).toArray 74
  have e:(w.alloc (.cells (inoC n v) 37)).heap.size=w.heap.size+1:=by simp
  rw[e,←hW0] at this
  exact this
 have HK0:Hid (Keeps [] w W0):=by
  rw[hW0]
  exact((Keeps.refl [] w).alloc _).alloc _
 have HLI:=Lib.hid (load_ino hb0 hB)
 have HLB:Hid (∀wx,Keeps [] W0 wx→(loadVar 34 ⟨w.heap.size,4,none⟩).run Tryz.prog wx= .ok (.agg (zs n.B).toArray) wx):=λwx hk=>load_n13 (off:=4) (hb0.keep hk (by simp)) hB λk hk=>inoC_B _ (by omega)
 have hzv:=zero_r8
 have hRL:(runsL n.B).length≤13:=runsTo_len n.B 13
 have HW0:=Lib.hid hW0
 have HHL:Hid (headL n=tagW n::n.S::List.replicate 6 0):=rfl
 have hh8:=headL_len n
 generalize tagW n=t at *
 generalize n.S=s at *
 generalize headL n=H at *
 generalize runsL n.B=R at *
 generalize (zs n.B).toArray=ZB at *
 generalize inoC n v=Z at *
 clear hb0 hW0 hFR hFB ht hB
 generalize hz8:(u64s (List.replicate 8 0)).toArray=Z8 at *
 have HZ8:=Lib.hid hz8
 clear hz8
 go_enter Tryz.func103,Tryz.ntmps103
 go_wp2_with((with_reducible show wpList _ _ _ (⟨_,.load 37 (.tmp 2),_,_,_,_⟩::_) _ _);rw[←HW0.out];refine wpList_load_any rfl 37 (.tmp 2) rfl _ rfl _ HLI.out ?_)
 refine(HH.out _).mono ?_;rintro e w1 ⟨rfl,hk1⟩
 obtain⟨w2,hst,hb6,hk2⟩:=store_whole (P:= Tryz.prog) (ty:= 74) (cs:=u64s H) (by rw[u64s_len,hh8];exact size_r8) (Blk.new w1 Z8 74) (by rw[←HZ8.out];simp[u64s_len,hh8]) (u64s_one _)
 have hk02:Keeps [] W0 w2:=(hk1.alloc (.cells Z8 74)).trans hk2 (by intro x hx;rw[List.mem_singleton] at hx;have :=hk1.size;omega)
 have hg1:w.heap.size+1<w1.heap.size:=Nat.lt_of_lt_of_le HBR.out.lt hk1.size
 have HST:=Lib.hid hst
 have HB6:=Lib.hid hb6
 have HK2:=Lib.hid hk02
 have HL13:=Lib.hid (HLB.out w2 hk02)
 clear hst hb6 hk2 hk02 hk1 HH
 generalize hg6:w1.heap.size=g6 at *
 go_wp2_with(first|((with_reducible show wpList _ _ _ (⟨_,.store 74 (.tmp 6) (.tmp 11),_,_,_,_⟩::_) _ _);refine wpList_store_any rfl 74 (.tmp 6) (.tmp 11) rfl _ rfl _ rfl _ HST.out ?_)|((with_reducible show wpList _ _ _ (⟨_,.load 34 (.tmp 12),_,_,_,_⟩::_) _ _);refine wpList_load_any rfl 34 (.tmp 12) rfl _ rfl _ HL13.out ?_))
 refine(HRUN.out _).mono ?_;rintro e w3 ⟨va,ga,rfl,hra,hga,hka⟩
 obtain⟨aa,ca,rfl,hR1,hR2,HRC⟩:=u64s_cell hra
 obtain⟨-,offa,rfl,-⟩:=HRC.out 0 (by omega)
 have hrp:=hra.part (o:=0) (n:=5) (by omega)
 rw[Nat.add_zero,Nat.sub_zero,List.drop_zero] at hrp
 have hl5:(R.take 5).length=5:=by rw[List.length_take];omega
 obtain⟨vc,w4,hcp,hb64,hk4⟩:=copy_reads (w:=w3.drew) (o:=2) (n:=6) (cap:=6) (HB6.out.keep hka (by simp)).drew (show Reads w3.drew _ ga (u64s (R.take 5)) from hrp) (by omega) (by rw[hh8];omega)
 have hcp':=hcp 3
 have hsl:=slice_two8 g6
 have h6':¬(R.length:Int)≤6:=by omega
 have hca5:(5:Int)≤(ca:Int):=by omega
 have hca5':5≤ca:=by omega
 go_wp2_with fail
 go_region_with (fail)
 have HK4:Hid (Keeps [] w w4):=(((HK0.out.trans' HK2.out).trans' hka).drew).trans hk4 (by intro x hx;rw[List.mem_singleton] at hx;omega)
 have hrow:H.take 2++R.take 5++H.drop (2+(R.take 5).length)=t::s::(R.take 5++[0]):=by
  rw[HHL.out,hl5]
  rfl
 rw[hrow] at hb64
 have hrl:(t::s::(R.take 5++[(0:Int)])).length=8:=by simp[hl5]
 have HBR4:Hid (Blk w4 (w.heap.size+1) Z8 74):=((HBR.out.keep HK2.out (by simp)).keep hka (by simp)).drew.keep hk4 (by rw[List.mem_singleton];omega)
 have hg62:g6<w2.heap.size:=HB6.out.lt
 have hgga:g6<ga:=by omega
 have HRA4:Hid (Reads w4 (.slice (some ⟨ga,offa,none⟩) R.length ca) ga (u64s R)):=(show Reads w3.drew _ ga (u64s R) from hra).keep hk4 (by rw[List.mem_singleton];omega)
 have cown:=(World.cell?_of_block (w:=w) (w':=w4) (a:=⟨go,offo,none⟩) (HK4.out.block go hgol (by simp))).trans HCO.out
 have c7:w4.cell? ⟨g6,7,none⟩=some (.int .u64 ((t::s::(R.take 5++[(0:Int)])).getD 7 0)):=by
  rw[hb64.cell,List.getElem?_toArray,u64s_get (by omega)]
 have f7:w4.frozen? ⟨g6,7,none⟩=false:=hb64.frozen 7
 have hor:bits .or .u64 9223372036854775808 (x0:Int)=((9223372036854775808+x0:Nat):Int):=by
  rw[show(9223372036854775808:Int)=((9223372036854775808:Nat):Int) from rfl,u64_or_nat _ _ (by omega) (by omega),nat_join 63 _ _ (by decide) (by omega)]
 obtain⟨X,hX⟩:∃X:Int,X=((9223372036854775808+x0:Nat):Int):=⟨_,rfl⟩
 rw[←hX] at hor
 have hXE:(9223372036854775808:Int)+((x0:Nat):Int)=X:=by omega
 rw[hXE]
 have hxw:=wrap_nat64 (x:=(x0:Int)) (by omega) (by omega)
 have hb67:Blk (w4.setCell ⟨g6,7,none⟩ (.int .u64 X)) g6 (u64s (t::s::(R.take 5++[X]))).toArray 74 :=by
  have :=hb64.set 7 (.int .u64 X)
  rw[List.setIfInBounds_toArray,u64s_set] at this
  have e:(t::s::(R.take 5++[(0:Int)])).set 7 X=t::s::(R.take 5++[X]):=by
   rw[List.set_cons_succ,List.set_cons_succ,List.set_append_right _ _ (by omega),hl5]
   rfl
  rw[e] at this
  exact this
 have HB67:=Lib.hid hb67
 have HRLEN:Hid ((t::s::(R.take 5++[X])).length=8):=by show _=_;simp[hl5]
 obtain⟨W5,hW5⟩:∃W5,W5=(w4.setCell ⟨g6,7,none⟩ (.int .u64 X)).alloc (.cells Z8 74):=⟨_,rfl⟩
 have HW5:=Lib.hid hW5
 have hs4:(w4.setCell ⟨g6,7,none⟩ (.int .u64 X)).heap.size=w4.heap.size:=by simp[World.setCell]
 have HB9:Hid (Blk W5 w4.heap.size (u64s (List.replicate 8 0)).toArray 74):=by
  have :=Blk.new (w4.setCell ⟨g6,7,none⟩ (.int .u64 X)) Z8 74
  rw[hs4,←hW5,←HZ8.out] at this
  exact this
 have HK45:Hid (Keeps [g6] w4 W5):=by
  rw[hW5]
  exact((Keeps.refl [g6] w4).setCell (.inl (by simp)) _).alloc _
 have HB65:Hid (Blk W5 g6 (u64s (t::s::(R.take 5++[X]))).toArray 74):=by
  rw[hW5]
  exact hb67.alloc _
 have hg64:g6<w4.heap.size:=hb64.lt
 generalize (t::s::(R.take 5++[(0:Int)])).getD 7 0=y7 at *
 clear hb64 hb67 hk4 hcp hcp' hrp hrow hrl hka hra hga hW5 hX
 go_wp2_with fail
 rw[←HW5.out]
 have HRA5:Hid (Reads W5 (.slice (some ⟨ga,offa,none⟩) R.length ca) ga (u64s R)):=HRA4.out.keep HK45.out (by rw[List.mem_singleton];omega)
 have hrp5:=HRA5.out.part (o:=5) (n:=R.length-5) (by omega)
 rw[List.take_of_length_le (by rw[List.length_drop];omega)] at hrp5
 have hd5:(R.drop 5).length=R.length-5:=List.length_drop
 obtain⟨vc2,w6,hcp2,hb9,hk6⟩:=copy_reads (w:=W5.drew) (o:=0) (n:=8) (cap:=8) (Blk.drew HB9.out) (show Reads W5.drew _ ga (u64s (R.drop 5)) from hrp5) (by omega) (by rw[List.length_replicate];omega)
 have hcp2':=hcp2 3
 have hrow9:(List.replicate 8 (0:Int)).take 0++R.drop 5++(List.replicate 8 (0:Int)).drop (0+(R.drop 5).length)=R.drop 5++List.replicate (13-R.length) 0:=by
  rw[hd5,List.take_zero,List.nil_append,Nat.zero_add,List.drop_replicate,show 8-(R.length-5)=13-R.length by omega]
 rw[hrow9] at hb9
 have hsa:=slice_all8 w4.heap.size
 have hl5':(5:Int)≤(R.length:Int):=by omega
 have hca0:¬ca=5:=by omega
 have hl5n:5≤R.length:=by omega
 clear hor hxw c7 f7 cown hsl
 go_region_with (fail)
 have hrb8:(R.drop 5++List.replicate (13-R.length) 0).length=8:=by rw[List.length_append,hd5,List.length_replicate];omega
 have hg96:w4.heap.size<w6.heap.size:=hb9.lt
 have HL6:Hid (∀wx,Keeps [w.heap.size+1] w6 wx→(loadVar 74 ⟨g6,0,none⟩).run Tryz.prog wx= .ok (.agg (u64s (t::s::(R.take 5++[X]))).toArray) wx):=λwx hk=>load_r8 (((Blk.drew HB65.out).keep hk6 (by rw[List.mem_singleton];omega)).keep hk (by rw[List.mem_singleton];omega)) HRLEN.out
 have HL9:Hid (∀wx,Keeps [w.heap.size+1] w6 wx→(loadVar 74 ⟨w4.heap.size,0,none⟩).run Tryz.prog wx= .ok (.agg (u64s (R.drop 5++List.replicate (13-R.length) 0)).toArray) wx):=λwx hk=>load_r8 (hb9.keep hk (by rw[List.mem_singleton];omega)) hrb8
 have hbr6:Blk w6 (w.heap.size+1) Z8 74 :=(Blk.drew (HBR4.out.keep HK45.out (by rw[List.mem_singleton];omega))).keep hk6 (by rw[List.mem_singleton];omega)
 have HSR:Hid (∀wx,Keeps [] w6 wx→∃wS,(storeVar 74 ⟨w.heap.size+1,0,none⟩ (.agg (u64s (t::s::(R.take 5++[X]))).toArray)).run Tryz.prog wx= .ok () wS∧Blk wS (w.heap.size+1) (u64s (t::s::(R.take 5++[X]))).toArray 74∧Keeps [w.heap.size+1] wx wS):=λwx hk=>
  store_whole (P:= Tryz.prog) (ty:= 74) (cs:=u64s (t::s::(R.take 5++[X]))) (by rw[u64s_len,HRLEN.out];exact size_r8) (hbr6.keep hk (by simp)) (by rw[←HZ8.out,List.size_toArray,u64s_len,u64s_len,HRLEN.out,List.length_replicate]) (u64s_one _)
 have HK6:Hid (Keeps [] w w6):=((HK4.out.trans HK45.out (by intro x hx;rw[List.mem_singleton] at hx;omega)).drew).trans hk6 (by intro x hx;rw[List.mem_singleton] at hx;omega)
 clear hb9 hk6 hcp2 hcp2' hrp5 hrow9 hbr6 HRA5 HRA4 HB9 HB65 HB67 HBR4
 generalize hRO:u64s (t::s::(R.take 5++[X]))=ZO at *
 generalize hRB:u64s (R.drop 5++List.replicate (13-R.length) 0)=ZB9 at *
 have hz9:ZB9.length=8:=by rw[←hRB,u64s_len,hrb8]
 obtain⟨a0,a1,a2,a3,a4,a5,a6,a7,rfl⟩:∃a0 a1 a2 a3 a4 a5 a6 a7,ZB9=[a0,a1,a2,a3,a4,a5,a6,a7]:=by
  match ZB9,hz9 with
  | [a,b,c,d,e,f,g,h],_=>exact⟨a,b,c,d,e,f,g,h,rfl⟩
 have HRB:=Lib.hid hRB
 have HRO:=Lib.hid hRO
 have HRB8:=Lib.hid hrb8
 clear hRB hRO hz9 hrb8
 go_wp2_with fail
 refine wp_region_any (by kernel_rfl) ?_
 (try (change wpAny _ _ _ _ _ _ _ (World.drew _)))
 refine wpAny_ready (rs:=[0,1]) (by kernel_rfl) (by simp) ?_
 refine AllReady.cons rfl (λK hK=> ?_) ?_
 ·refine step_load_any rfl 74 (.tmp 6) rfl _ rfl _ (HL6.out _ (by first|exact(Keeps.refl _ _).drew|exact((Keeps.refl _ _).drew).alloc _|exact((Keeps.refl _ _).drew).trans' HKS.out|exact(((Keeps.refl _ _).drew).alloc _).trans' HKS.out|exact(((Keeps.refl _ _).drew).trans' HKS.out).alloc _)) ?_
  refine hK _ _ ?_
  clear hK K
  refine wpAny_ready (rs:=[1,3]) (by kernel_rfl) (by simp) ?_
  refine AllReady.cons rfl (λK hK=> ?_) ?_
  ·refine step_load_any rfl 74 (.tmp 9) rfl _ rfl _ (HL9.out _ (by first|exact(Keeps.refl _ _).drew|exact((Keeps.refl _ _).drew).alloc _|exact((Keeps.refl _ _).drew).trans' HKS.out|exact(((Keeps.refl _ _).drew).alloc _).trans' HKS.out|exact(((Keeps.refl _ _).drew).trans' HKS.out).alloc _)) ?_
   refine hK _ _ ?_
   clear hK K
   refine wpAny_ready (rs:=[2,3]) (by kernel_rfl) (by simp) ?_
   refine AllReady.cons rfl (λK hK=> ?_) ?_
   ·go_simp
    refine hK _ _ ?_
    clear hK K
    refine wpAny_ready (rs:=[3]) (by kernel_rfl) (by simp) ?_
    refine AllReady.cons rfl (λK hK=> ?_) ?_
    ·obtain⟨wS,hS,hbS,hkS⟩:=HSR.out _ (((Keeps.refl _ _).drew).alloc _)
     have HS:=Lib.hid hS
     have HBS:=Lib.hid hbS
     have HKS:=Lib.hid hkS
     clear hS hbS hkS
     refine step_store_any rfl 74 (.tmp 4) (.tmp 38) rfl _ rfl _ rfl _ HS.out ?_
     refine hK _ _ ?_
     clear hK K
     refine wpAny_ready (rs:=[4]) (by kernel_rfl) (by simp) ?_
     refine AllReady.cons rfl (λK hK=> ?_) ?_
     ·go_simp
      refine hK _ _ ?_
      clear hK K
      refine wpAny_done (by kernel_rfl) ?_ _
      go_wp2_with fail
      have HB1:Blk wS w6.heap.size #[a0,a1,a2,a3,a4,a5,a6,a7] 74 :=Blk.keep (Blk.new w6.drew #[a0,a1,a2,a3,a4,a5,a6,a7] 74) HKS.out (by rw[List.mem_singleton];show ¬w6.heap.size=_;omega)
      have HKF:Keeps [] w wS:=((HK6.out.drew).alloc _).trans HKS.out (by intro x hx;rw[List.mem_singleton] at hx;omega)
      exact bodyPost_ret (results_cell2 Tryz.results103 rfl (by have :=HBS.out;rw[←HRO.out] at this;exact load_r8 this HRLEN.out) rfl) rfl ⟨.slice (some ⟨w6.heap.size,0,none⟩) 1 1,w6.heap.size,(by rw[hXE,HRO.out];rfl),breads_one HB1 HRB8.out HRB.out,by omega,HKF⟩
     exact AllReady.nil
    exact AllReady.nil
   refine AllReady.cons rfl (λK hK=> ?_) ?_
   ·obtain⟨wS,hS,hbS,hkS⟩:=HSR.out _ ((Keeps.refl _ _).drew)
    have HS:=Lib.hid hS
    have HBS:=Lib.hid hbS
    have HKS:=Lib.hid hkS
    clear hS hbS hkS
    refine step_store_any rfl 74 (.tmp 4) (.tmp 38) rfl _ rfl _ rfl _ HS.out ?_
    refine hK _ _ ?_
    clear hK K
    refine wpAny_ready (rs:=[2]) (by kernel_rfl) (by simp) ?_
    refine AllReady.cons rfl (λK hK=> ?_) ?_
    ·go_simp
     refine hK _ _ ?_
     clear hK K
     refine wpAny_ready (rs:=[4]) (by kernel_rfl) (by simp) ?_
     refine AllReady.cons rfl (λK hK=> ?_) ?_
     ·go_simp
      refine hK _ _ ?_
      clear hK K
      refine wpAny_done (by kernel_rfl) ?_ _
      go_wp2_with fail
      have HB1:Blk (wS.alloc (.cells #[a0,a1,a2,a3,a4,a5,a6,a7] 74)) wS.heap.size #[a0,a1,a2,a3,a4,a5,a6,a7] 74 :=Blk.new wS #[a0,a1,a2,a3,a4,a5,a6,a7] 74
      have hws:w6.heap.size≤wS.heap.size:=HKS.out.size
      have HKF:Keeps [] w (wS.alloc (.cells #[a0,a1,a2,a3,a4,a5,a6,a7] 74)):=((HK6.out.drew).trans HKS.out (by intro x hx;rw[List.mem_singleton] at hx;omega)).alloc _
      exact bodyPost_ret (results_cell2 Tryz.results103 rfl (by have :=HBS.out;rw[←HRO.out] at this;exact load_r8 (this.alloc _) HRLEN.out) rfl) rfl ⟨.slice (some ⟨wS.heap.size,0,none⟩) 1 1,wS.heap.size,(by rw[hXE,HRO.out];rfl),breads_one HB1 HRB8.out HRB.out,by omega,HKF⟩
     exact AllReady.nil
    exact AllReady.nil
   exact AllReady.nil
  refine AllReady.cons rfl (λK hK=> ?_) ?_
  ·obtain⟨wS,hS,hbS,hkS⟩:=HSR.out _ ((Keeps.refl _ _).drew)
   have HS:=Lib.hid hS
   have HBS:=Lib.hid hbS
   have HKS:=Lib.hid hkS
   clear hS hbS hkS
   refine step_store_any rfl 74 (.tmp 4) (.tmp 38) rfl _ rfl _ rfl _ HS.out ?_
   refine hK _ _ ?_
   clear hK K
   refine wpAny_ready (rs:=[1]) (by kernel_rfl) (by simp) ?_
   refine AllReady.cons rfl (λK hK=> ?_) ?_
   ·refine step_load_any rfl 74 (.tmp 9) rfl _ rfl _ (HL9.out _ (by first|exact(Keeps.refl _ _).drew|exact((Keeps.refl _ _).drew).alloc _|exact((Keeps.refl _ _).drew).trans' HKS.out|exact(((Keeps.refl _ _).drew).alloc _).trans' HKS.out|exact(((Keeps.refl _ _).drew).trans' HKS.out).alloc _)) ?_
    refine hK _ _ ?_
    clear hK K
    refine wpAny_ready (rs:=[2]) (by kernel_rfl) (by simp) ?_
    refine AllReady.cons rfl (λK hK=> ?_) ?_
    ·go_simp
     refine hK _ _ ?_
     clear hK K
     refine wpAny_ready (rs:=[4]) (by kernel_rfl) (by simp) ?_
     refine AllReady.cons rfl (λK hK=> ?_) ?_
     ·go_simp
      refine hK _ _ ?_
      clear hK K
      refine wpAny_done (by kernel_rfl) ?_ _
      go_wp2_with fail
      have HB1:Blk (wS.alloc (.cells #[a0,a1,a2,a3,a4,a5,a6,a7] 74)) wS.heap.size #[a0,a1,a2,a3,a4,a5,a6,a7] 74 :=Blk.new wS #[a0,a1,a2,a3,a4,a5,a6,a7] 74
      have hws:w6.heap.size≤wS.heap.size:=HKS.out.size
      have HKF:Keeps [] w (wS.alloc (.cells #[a0,a1,a2,a3,a4,a5,a6,a7] 74)):=((HK6.out.drew).trans HKS.out (by intro x hx;rw[List.mem_singleton] at hx;omega)).alloc _
      exact bodyPost_ret (results_cell2 Tryz.results103 rfl (by have :=HBS.out;rw[←HRO.out] at this;exact load_r8 (this.alloc _) HRLEN.out) rfl) rfl ⟨.slice (some ⟨wS.heap.size,0,none⟩) 1 1,wS.heap.size,(by rw[hXE,HRO.out];rfl),breads_one HB1 HRB8.out HRB.out,by omega,HKF⟩
     exact AllReady.nil
    exact AllReady.nil
   exact AllReady.nil
  exact AllReady.nil
 refine AllReady.cons rfl (λK hK=> ?_) ?_
 ·refine step_load_any rfl 74 (.tmp 9) rfl _ rfl _ (HL9.out _ (by first|exact(Keeps.refl _ _).drew|exact((Keeps.refl _ _).drew).alloc _|exact((Keeps.refl _ _).drew).trans' HKS.out|exact(((Keeps.refl _ _).drew).alloc _).trans' HKS.out|exact(((Keeps.refl _ _).drew).trans' HKS.out).alloc _)) ?_
  refine hK _ _ ?_
  clear hK K
  refine wpAny_ready (rs:=[0,2]) (by kernel_rfl) (by simp) ?_
  refine AllReady.cons rfl (λK hK=> ?_) ?_
  ·refine step_load_any rfl 74 (.tmp 6) rfl _ rfl _ (HL6.out _ (by first|exact(Keeps.refl _ _).drew|exact((Keeps.refl _ _).drew).alloc _|exact((Keeps.refl _ _).drew).trans' HKS.out|exact(((Keeps.refl _ _).drew).alloc _).trans' HKS.out|exact(((Keeps.refl _ _).drew).trans' HKS.out).alloc _)) ?_
   refine hK _ _ ?_
   clear hK K
   refine wpAny_ready (rs:=[2,3]) (by kernel_rfl) (by simp) ?_
   refine AllReady.cons rfl (λK hK=> ?_) ?_
   ·go_simp
    refine hK _ _ ?_
    clear hK K
    refine wpAny_ready (rs:=[3]) (by kernel_rfl) (by simp) ?_
    refine AllReady.cons rfl (λK hK=> ?_) ?_
    ·obtain⟨wS,hS,hbS,hkS⟩:=HSR.out _ (((Keeps.refl _ _).drew).alloc _)
     have HS:=Lib.hid hS
     have HBS:=Lib.hid hbS
     have HKS:=Lib.hid hkS
     clear hS hbS hkS
     refine step_store_any rfl 74 (.tmp 4) (.tmp 38) rfl _ rfl _ rfl _ HS.out ?_
     refine hK _ _ ?_
     clear hK K
     refine wpAny_ready (rs:=[4]) (by kernel_rfl) (by simp) ?_
     refine AllReady.cons rfl (λK hK=> ?_) ?_
     ·go_simp
      refine hK _ _ ?_
      clear hK K
      refine wpAny_done (by kernel_rfl) ?_ _
      go_wp2_with fail
      have HB1:Blk wS w6.heap.size #[a0,a1,a2,a3,a4,a5,a6,a7] 74 :=Blk.keep (Blk.new w6.drew #[a0,a1,a2,a3,a4,a5,a6,a7] 74) HKS.out (by rw[List.mem_singleton];show ¬w6.heap.size=_;omega)
      have HKF:Keeps [] w wS:=((HK6.out.drew).alloc _).trans HKS.out (by intro x hx;rw[List.mem_singleton] at hx;omega)
      exact bodyPost_ret (results_cell2 Tryz.results103 rfl (by have :=HBS.out;rw[←HRO.out] at this;exact load_r8 this HRLEN.out) rfl) rfl ⟨.slice (some ⟨w6.heap.size,0,none⟩) 1 1,w6.heap.size,(by rw[hXE,HRO.out];rfl),breads_one HB1 HRB8.out HRB.out,by omega,HKF⟩
     exact AllReady.nil
    exact AllReady.nil
   refine AllReady.cons rfl (λK hK=> ?_) ?_
   ·obtain⟨wS,hS,hbS,hkS⟩:=HSR.out _ ((Keeps.refl _ _).drew)
    have HS:=Lib.hid hS
    have HBS:=Lib.hid hbS
    have HKS:=Lib.hid hkS
    clear hS hbS hkS
    refine step_store_any rfl 74 (.tmp 4) (.tmp 38) rfl _ rfl _ rfl _ HS.out ?_
    refine hK _ _ ?_
    clear hK K
    refine wpAny_ready (rs:=[2]) (by kernel_rfl) (by simp) ?_
    refine AllReady.cons rfl (λK hK=> ?_) ?_
    ·go_simp
     refine hK _ _ ?_
     clear hK K
     refine wpAny_ready (rs:=[4]) (by kernel_rfl) (by simp) ?_
     refine AllReady.cons rfl (λK hK=> ?_) ?_
     ·go_simp
      refine hK _ _ ?_
      clear hK K
      refine wpAny_done (by kernel_rfl) ?_ _
      go_wp2_with fail
      have HB1:Blk (wS.alloc (.cells #[a0,a1,a2,a3,a4,a5,a6,a7] 74)) wS.heap.size #[a0,a1,a2,a3,a4,a5,a6,a7] 74 :=Blk.new wS #[a0,a1,a2,a3,a4,a5,a6,a7] 74
      have hws:w6.heap.size≤wS.heap.size:=HKS.out.size
      have HKF:Keeps [] w (wS.alloc (.cells #[a0,a1,a2,a3,a4,a5,a6,a7] 74)):=((HK6.out.drew).trans HKS.out (by intro x hx;rw[List.mem_singleton] at hx;omega)).alloc _
      exact bodyPost_ret (results_cell2 Tryz.results103 rfl (by have :=HBS.out;rw[←HRO.out] at this;exact load_r8 (this.alloc _) HRLEN.out) rfl) rfl ⟨.slice (some ⟨wS.heap.size,0,none⟩) 1 1,wS.heap.size,(by rw[hXE,HRO.out];rfl),breads_one HB1 HRB8.out HRB.out,by omega,HKF⟩
     exact AllReady.nil
    exact AllReady.nil
   exact AllReady.nil
  refine AllReady.cons rfl (λK hK=> ?_) ?_
  ·go_simp
   refine hK _ _ ?_
   clear hK K
   refine wpAny_ready (rs:=[0]) (by kernel_rfl) (by simp) ?_
   refine AllReady.cons rfl (λK hK=> ?_) ?_
   ·refine step_load_any rfl 74 (.tmp 6) rfl _ rfl _ (HL6.out _ (by first|exact(Keeps.refl _ _).drew|exact((Keeps.refl _ _).drew).alloc _|exact((Keeps.refl _ _).drew).trans' HKS.out|exact(((Keeps.refl _ _).drew).alloc _).trans' HKS.out|exact(((Keeps.refl _ _).drew).trans' HKS.out).alloc _)) ?_
    refine hK _ _ ?_
    clear hK K
    refine wpAny_ready (rs:=[3]) (by kernel_rfl) (by simp) ?_
    refine AllReady.cons rfl (λK hK=> ?_) ?_
    ·obtain⟨wS,hS,hbS,hkS⟩:=HSR.out _ (((Keeps.refl _ _).drew).alloc _)
     have HS:=Lib.hid hS
     have HBS:=Lib.hid hbS
     have HKS:=Lib.hid hkS
     clear hS hbS hkS
     refine step_store_any rfl 74 (.tmp 4) (.tmp 38) rfl _ rfl _ rfl _ HS.out ?_
     refine hK _ _ ?_
     clear hK K
     refine wpAny_ready (rs:=[4]) (by kernel_rfl) (by simp) ?_
     refine AllReady.cons rfl (λK hK=> ?_) ?_
     ·go_simp
      refine hK _ _ ?_
      clear hK K
      refine wpAny_done (by kernel_rfl) ?_ _
      go_wp2_with fail
      have HB1:Blk wS w6.heap.size #[a0,a1,a2,a3,a4,a5,a6,a7] 74 :=Blk.keep (Blk.new w6.drew #[a0,a1,a2,a3,a4,a5,a6,a7] 74) HKS.out (by rw[List.mem_singleton];show ¬w6.heap.size=_;omega)
      have HKF:Keeps [] w wS:=((HK6.out.drew).alloc _).trans HKS.out (by intro x hx;rw[List.mem_singleton] at hx;omega)
      exact bodyPost_ret (results_cell2 Tryz.results103 rfl (by have :=HBS.out;rw[←HRO.out] at this;exact load_r8 this HRLEN.out) rfl) rfl ⟨.slice (some ⟨w6.heap.size,0,none⟩) 1 1,w6.heap.size,(by rw[hXE,HRO.out];rfl),breads_one HB1 HRB8.out HRB.out,by omega,HKF⟩
     exact AllReady.nil
    exact AllReady.nil
   exact AllReady.nil
  exact AllReady.nil
 exact AllReady.nil
def dN (E:List (ByteArray×Int)) (b:Nat):Nat:=((sprE E b).length+2)/3
def fstN (E:List (ByteArray×Int)):Nat→Nat
 |0=>0
 |b+1=>fstN E b+dN E b
theorem fstN_mono (E:List (ByteArray×Int)) {b c:Nat} (h:b≤c):fstN E b≤fstN E c:=by
 induction h with
 |refl=>exact Nat.le_refl _
 |step h ih=>exact Nat.le_trans ih (Nat.le_add_right _ _)
def chE (l:List (ByteArray×Int)) (x:Nat):List (ByteArray×Int):=(l.drop (3*x)).take 3
theorem chE_len (l:List (ByteArray×Int)) (x:Nat):(chE l x).length=min 3 (l.length-3*x):=by simp[chE]
def blkX (ws:List Int) (x:Int):List Int:=x::(ws++List.replicate (7-ws.length) 0)
theorem blkX_len {ws:List Int} (h:ws.length≤7) (x:Int):(blkX ws x).length=8:=by simp[blkX];omega
theorem blkX_succ (ws:List Int) (x:Int) (i:Nat):(blkX ws x).getD (i+1) 0=ws.getD i 0:=by
 show(ws++List.replicate (7-ws.length) 0).getD i 0=_
 rw[List.getD_eq_getElem?_getD,List.getD_eq_getElem?_getD]
 by_cases h:i<ws.length
 ·rw[List.getElem?_append_left h]
 ·rw[List.getElem?_append_right (by omega),List.getElem?_replicate,List.getElem?_eq_none (by omega:ws.length≤i)]
  split<;>rfl
def blkD (E:List (ByteArray×Int)) (own:List Nat) (b j:Nat):List Int:=
 blkX (wordsE (chE (sprE E b) j)) (if j+1<dN E b then ((own.getD (fstN E b+(j+1)) 0:Nat):Int) else 0)
def dirTo (E:List (ByteArray×Int)) (own:List Nat):Nat→List (List Int)
 |0=>[]
 |b+1=>dirTo E own b++(List.range (dN E b)).map (blkD E own b)
theorem dirTo_len (E:List (ByteArray×Int)) (own:List Nat):∀b,(dirTo E own b).length=fstN E b
 |0=>rfl
 |b+1=>by rw[dirTo,fstN,List.length_append,dirTo_len E own b,List.length_map,List.length_range]
theorem dirTo_get (E:List (ByteArray×Int)) (own:List Nat) {b' j:Nat} (hj:j<dN E b'):∀{b:Nat},b'<b→(dirTo E own b).getD (fstN E b'+j) []=blkD E own b' j
 |0,h=>by omega
 |b+1,h=>by
  rw[dirTo,List.getD_eq_getElem?_getD]
  by_cases e:b'=b
  ·subst e
   rw[List.getElem?_append_right (by rw[dirTo_len];omega),dirTo_len,Nat.add_sub_cancel_left]
   simp[hj]
  ·have h1:b'<b:=by omega
   have h2:fstN E b'+j<fstN E b:=by
    have :=fstN_mono E (show b'+1≤b from h1)
    rw[fstN] at this
    omega
   rw[List.getElem?_append_left (by rw[dirTo_len];exact h2),←List.getD_eq_getElem?_getD]
   exact dirTo_get E own hj h1
theorem fst_cover (E:List (ByteArray×Int)) {k:Nat}:∀{b:Nat},k<fstN E b→∃b' j,b'<b∧j<dN E b'∧k=fstN E b'+j
 |0,h=>by rw[fstN] at h;omega
 |b+1,h=>by
  by_cases h1:k<fstN E b
  ·obtain⟨b',j,h2,h3,h4⟩:=fst_cover E h1
   exact⟨b',j,by omega,h3,h4⟩
  ·rw[fstN] at h
   exact⟨b,k-fstN E b,by omega,by omega,by omega⟩
def hdD (E:List (ByteArray×Int)) (own:List Nat) (b:Nat):Int:=if 0<dN E b then ((own.getD (fstN E b) 0:Nat):Int) else 0
def hdTo (E:List (ByteArray×Int)) (own:List Nat) (b p q:Nat):Int:=
 if q<b then hdD E own q else if q=b∧0<p then ((own.getD (fstN E q) 0:Nat):Int) else 0
def rowD (n:Ino) (own:List Nat) (b p:Nat):List Int:=
 [tagW n,n.S,hdTo n.E own b p 0,hdTo n.E own b p 1,hdTo n.E own b p 2,hdTo n.E own b p 3,0,0]
def dirRow (n:Ino) (own:List Nat):List Int:=rowD n own 4 0
theorem rowD_len (n:Ino) (own:List Nat) (b p:Nat):(rowD n own b p).length=8:=rfl
theorem rowD_zero (n:Ino) (own:List Nat):rowD n own 0 0=tagW n::n.S::List.replicate 6 0:=by
 unfold rowD hdTo
 simp[List.replicate]
theorem hdTo_next (E:List (ByteArray×Int)) (own:List Nat) (b q:Nat):hdTo E own b (dN E b) q=hdTo E own (b+1) 0 q:=by
 unfold hdTo
 by_cases h1:q<b
 ·rw[if_pos h1,if_pos (by omega)]
 ·rw[if_neg h1]
  by_cases h2:q=b
  ·subst h2
   rw[if_pos (show q<q+1 by omega),hdD]
   by_cases h3:0<dN E q
   ·rw[if_pos ⟨rfl,h3⟩,if_pos h3]
   ·rw[if_neg (λh=>h3 h.2),if_neg h3]
  ·rw[if_neg (λh=>h2 h.1),if_neg (by omega),if_neg (by omega)]
theorem rowD_next (n:Ino) (own:List Nat) (b:Nat):rowD n own b (dN n.E b)=rowD n own (b+1) 0:=by
 unfold rowD
 rw[hdTo_next,hdTo_next,hdTo_next,hdTo_next]
theorem rowD_more (n:Ino) (own:List Nat) (b p:Nat) (h:p≠0):rowD n own b p=rowD n own b (p+1):=by
 have :∀q,hdTo n.E own b p q=hdTo n.E own b (p+1) q:=λq=>by
  unfold hdTo
  have h1:(q=b∧0<p)↔(q=b∧0<p+1):=by omega
  simp only[h1]
 unfold rowD
 rw[this,this,this,this]
theorem rowD_set (n:Ino) (own:List Nat) (b:Nat) (hb:b<4):(rowD n own b 0).set (2+b) ((own.getD (fstN n.E b) 0:Nat):Int)=rowD n own b 1:=by
 rcases (show b=0∨b=1∨b=2∨b=3 by omega) with rfl|rfl|rfl|rfl<;>simp[rowD,hdTo]
structure DirC (E:List (ByteArray×Int)) (own:List Nat) (b:Nat) (pre:List Nat) (C:List Int):Prop where
 len:C.length=8*own.length
 done:∀b',b'<b→∀j,j<dN E b'→∀i,i<8→C.getD (8*(fstN E b'+j)+i) 0=(blkD E own b' j).getD i 0
 part:∀j,j<pre.length→∀i,i<8→C.getD (8*(fstN E b+j)+i) 0=(blkX (wordsE (chE (sprE E b) (pre.getD j 0))) (if j+1<pre.length then ((own.getD (fstN E b+(j+1)) 0:Nat):Int) else 0)).getD i 0
 rest:∀i,8*(fstN E b+pre.length)≤i→C.getD i 0=0
theorem DirC.start (E:List (ByteArray×Int)) (own:List Nat):DirC E own 0 [] (List.replicate (8*own.length) 0):=
 ⟨by simp,λb' h=>by omega,λj h=>by simp at h,λi _=>by
  rw[List.getD_eq_getElem?_getD,List.getElem?_replicate]
  split<;>rfl⟩
theorem DirC.next {E:List (ByteArray×Int)} {own:List Nat} {b:Nat} {C:List Int} (h:DirC E own b (List.range (dN E b)) C):DirC E own (b+1) [] C:=by
 have hl:(List.range (dN E b)).length=dN E b:=List.length_range
 refine⟨h.len,λb' hb j hj i hi=> ?_,λj hj=>by simp at hj,λi hi=> ?_⟩
 ·by_cases e:b'=b
  ·subst e
   have :=h.part j (by rw[hl];exact hj) i hi
   rw[hl,show(List.range (dN E b')).getD j 0=j by simp[List.getD_eq_getElem?_getD,hj]] at this
   exact this
  ·exact h.done b' (by omega) j hj i hi
 ·refine h.rest i ?_
  rw[hl]
  simpa[fstN] using hi
def overL (C:List Int) (a:Nat) (ws:List Int):List Int:=C.take a++ws++C.drop (a+ws.length)
theorem overL_len {C ws:List Int} {a:Nat} (h:a+ws.length≤C.length):(overL C a ws).length=C.length:=by simp[overL];omega
theorem overL_get {C ws:List Int} {a:Nat} (h:a+ws.length≤C.length) (i:Nat):(overL C a ws).getD i 0=if a≤i∧i<a+ws.length then ws.getD (i-a) 0 else C.getD i 0:=by
 have ht:(C.take a).length=a:=by rw[List.length_take];omega
 unfold overL
 simp only[List.getD_eq_getElem?_getD]
 by_cases h1:i<a
 ·rw[if_neg (by omega),List.append_assoc,List.getElem?_append_left (by rw[ht];exact h1),List.getElem?_take_of_lt h1]
 ·by_cases h2:i<a+ws.length
  ·rw[if_pos ⟨by omega,h2⟩,List.getElem?_append_left (by rw[List.length_append,ht];exact h2),List.getElem?_append_right (by rw[ht];omega),ht]
  ·rw[if_neg (by omega),List.getElem?_append_right (by rw[List.length_append,ht];omega),List.length_append,ht,List.getElem?_drop,show a+ws.length+(i-(a+ws.length))=i by omega]
theorem set_getD (C:List Int) (k:Nat) (x:Int) (hk:k<C.length) (i:Nat):(C.set k x).getD i 0=if i=k then x else C.getD i 0:=by
 simp only[List.getD_eq_getElem?_getD,List.getElem?_set]
 by_cases h:k=i
 ·subst h;simp[hk]
 ·rw[if_neg h,if_neg (λe=>h e.symm)]
theorem DirC.step {E:List (ByteArray×Int)} {own:List Nat} {b:Nat} {pre:List Nat} {C C1:List Int} (h:DirC E own b pre C) (x f:Nat) (hf:f=fstN E b+pre.length) (hfo:f<own.length)
  (h1:C1=if pre.length=0 then C else C.set (8*(f-1)) ((own.getD f 0:Nat):Int)):DirC E own b (pre++[x]) (overL C1 (8*f+1) (wordsE (chE (sprE E b) x))):=by
 have hw:(wordsE (chE (sprE E b) x)).length≤6:=by rw[wordsE_len,chE_len];omega
 have hl1:C1.length=8*own.length:=by rw[h1];split<;>simp[h.len]
 have hg1:∀i,C1.getD i 0=if pre.length≠0∧i=8*(f-1) then ((own.getD f 0:Nat):Int) else C.getD i 0:=λi=>by
  rw[h1]
  by_cases h0:pre.length=0
  ·rw[if_pos h0,if_neg (λe=>e.1 h0)]
  ·rw[if_neg h0,set_getD _ _ _ (by rw[h.len];omega)]
   by_cases hi:i=8*(f-1)
   ·rw[if_pos hi,if_pos ⟨h0,hi⟩]
   ·rw[if_neg hi,if_neg (λe=>hi e.2)]
 have hov:8*f+1+(wordsE (chE (sprE E b) x)).length≤C1.length:=by rw[hl1];omega
 have hlen:(pre++[x]).length=pre.length+1:=by simp
 have hsep:∀b',b'<b→∀j,j<dN E b'→fstN E b'+j<fstN E b:=λb' hb j hj=>by
  have :=fstN_mono E (show b'+1≤b from hb)
  rw[fstN] at this
  omega
 refine⟨by rw[overL_len hov,hl1],λb' hb j hj i hi=> ?_,λj hj i hi=> ?_,λi hi=> ?_⟩
 ·have :=hsep b' hb j hj
  rw[overL_get hov,if_neg (by omega),hg1,if_neg (by omega)]
  exact h.done b' hb j hj i hi
 ·rw[hlen] at hj ⊢
  by_cases e:j=pre.length
  ·subst e
   have hx:(pre++[x]).getD pre.length 0=x:=by simp[List.getD_eq_getElem?_getD]
   rw[hx,if_neg (by omega),←hf]
   cases i with
   |zero=>
    rw[overL_get hov,if_neg (by omega),hg1,if_neg (by omega),h.rest _ (by omega)]
    rfl
   |succ i=>
    rw[blkX_succ,overL_get hov]
    by_cases hi2:i<(wordsE (chE (sprE E b) x)).length
    ·rw[if_pos (by omega),show 8*f+(i+1)-(8*f+1)=i by omega]
    ·rw[if_neg (by omega),hg1,if_neg (by omega),h.rest _ (by omega),List.getD_eq_getElem?_getD,List.getElem?_eq_none (by omega)]
     rfl
  ·have hj2:j<pre.length:=by omega
   have hx:(pre++[x]).getD j 0=pre.getD j 0:=by simp only[List.getD_eq_getElem?_getD];rw[List.getElem?_append_left hj2]
   rw[hx,if_pos (by omega),overL_get hov,if_neg (by omega),hg1]
   have h2:=h.part j hj2 i hi
   cases i with
   |zero=>
    by_cases e2:j+1=pre.length
    ·rw[if_pos ⟨by omega,by omega⟩,hf,←e2]
     rfl
    ·rw[if_neg (by omega),h2,if_pos (by omega)]
   |succ i=>
    rw[if_neg (by omega),h2,blkX_succ,blkX_succ]
 ·rw[hlen] at hi
  rw[overL_get hov,if_neg (by omega),hg1,if_neg (by omega)]
  exact h.rest i (by omega)
theorem DirC.breads {E:List (ByteArray×Int)} {own:List Nat} {C:List Int} (h:DirC E own 4 [] C) (hm:fstN E 4=own.length) {W:World} {g cap T:Nat} (hcap:own.length≤cap) (hmax:cap≤maxLen) (hb:Blk W g (u64s C).toArray T):
  BReads W (.slice (some ⟨g,0,none⟩) own.length cap) g (dirTo E own 4):=by
 have hl:(dirTo E own 4).length=own.length:=by rw[dirTo_len,hm]
 refine⟨some ⟨g,0,none⟩,cap,by rw[hl],by rw[hl];exact hcap,hmax,λ_=>⟨hb.lt,0,rfl,λk hk j hj=> ?_⟩⟩
 rw[hl,←hm] at hk
 obtain⟨b',i,hb',hi,rfl⟩:=fst_cover E hk
 rw[dirTo_get E own hi hb',←h.done b' hb' i hi j hj,hb.cell,List.getElem?_toArray,show 0+(fstN E b'+i)*8+j=8*(fstN E b'+i)+j by omega,u64s_get]
 rw[h.len,←hm]
 omega
end Go.Proofs.YtphojondgfjmgaaGreatDoor
