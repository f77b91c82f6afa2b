/-
  Layer 10, the reference: the blocks. Layer 10, the reference: files' last bytes. Layer 10, the reference: the first thing that isn't so. Layer 4 (tx): Words.
-/
import Derived.Test.YtphojondgfjmgaaGreatDoorG21
import Derived.Test.YtphojondgfjmgaaGreatDoorG18
import Derived.Test.YtphojondgfjmgaaGreatDoorG01
namespace Go.Proofs.YtphojondgfjmgaaGreatDoor
open Go.RowKit
def bcnt (B:List Int):Nat→Nat→Nat
 |0,_=>0
 |k+1,b=>bcnt B k b+if B.getD k 0=(b:Int) then 1 else 0
theorem bcnt_le (B:List Int):∀k b,bcnt B k b≤k
 |0,_=>Nat.le_refl _
 |k+1,b=>by
  have :=bcnt_le B k b
  show bcnt B k b+_≤_
  split<;>omega
theorem files_count {B:List Int} (hB:B.length=13) (h0:∀k,0≤B.getD k 0) {b:Nat} (hb:b≠0):∀k,k≤13→(filesTo B k).count b=bcnt B k b
 |0,_=>by simp[filesTo,bcnt]
 |k+1,hk=>by
  have ih:=files_count hB h0 hb k (by omega)
  rw[filesTo_succ B k (by omega),List.count_append,ih]
  show _=bcnt B k b+_
  congr 1
  have :=h0 k
  by_cases e:B.getD k 0=0
  ·rw[if_pos e,if_neg (by omega)];rfl
  ·rw[if_neg e,List.count_singleton]
   by_cases e2:B.getD k 0=(b:Int)
   ·rw[if_pos e2]
    have :(B.getD k 0).toNat=b:=by omega
    rw[this]
    simp
   ·rw[if_neg e2]
    have h2:(B.getD k 0).toNat≠b:=by omega
    rw[if_neg (by simpa using h2)]
def refM (T:List (Ino×Value)) (own:Nat→List Nat):Nat→Nat→Nat
 |0,_=>0
 |k+1,b=>refM T own k b+bcnt (nT T k).B 13 b+(own k).count b
theorem refM_met {T:List (Ino×Value)} {own:Nat→List Nat} (hB:∀i,(nT T i).B.length=13) (h0:∀i k,0≤(nT T i).B.getD k 0) {b:Nat} (hb:b≠0):∀k,refM T own k b=metTo T own k b
 |0=>rfl
 |k+1=>by
  show refM T own k b+_+_=metTo T own k b+_
  rw[refM_met hB h0 hb k,List.count_append]
  have :(filesL (nT T k)).count b=bcnt (nT T k).B 13 b:=files_count (hB k) (h0 k) hb 13 (Nat.le_refl _)
  omega
theorem refM_le {T:List (Ino×Value)} {own:Nat→List Nat} (h:∀i,i<32→(own i).length≤45):∀k b,k≤32→refM T own k b≤58*k
 |0,_,_=>Nat.zero_le _
 |k+1,b,hk=>by
  have h1:=refM_le (T:=T) h k b (by omega)
  have h2:=h k (by omega)
  have h3:(own k).count b≤_:=List.count_le_length
  have h4:=bcnt_le (nT T k).B 13 b
  show refM T own k b+_+_≤_
  omega
def OwnE (w:World) (V:List Value) (own:Nat→List Nat):Prop:=V.length=32∧(∀v∈V,v.oneCell'=true)∧∀i,i<32→∃g,Reads w (V.getD i undef) g (i64s (own i))
theorem OwnE.keep {w w':World} {V:List Value} {own:Nat→List Nat} (h:OwnE w V own) (hk:Keeps [] w w'):OwnE w' V own:=
 ⟨h.1,h.2.1,λi hi=>by obtain⟨g,hg⟩:=h.2.2 i hi;exact⟨g,hg.keep hk (by simp)⟩⟩
theorem own_cell {w:World} {g T:Nat} {V:List Value} (hb:Blk w g V.toArray T) (hV:V.length=32) {i:Nat} (hi:i<32):w.cell? ⟨g,i,none⟩=some (V.getD i undef):=by
 rw[hb.cell,List.getElem?_toArray,List.getD_eq_getElem?_getD,List.getElem?_eq_getElem (by omega)]
 rfl
theorem size_own:(Tryz.prog.info? 41).map (·.size)=some 32:=by kernel_rfl
theorem load_own {w:World} {g T:Nat} {V:List Value} (hb:Blk w g V.toArray T) (hV:V.length=32):(loadVar 41 ⟨g,0,none⟩).run Tryz.prog w= .ok (.agg V.toArray) w:=
 run_loadVar_cells g 0 V Tryz.underlying41 rfl (by rw[hV];exact size_own) λj hj=>by
  rw[hb.cell,Nat.zero_add,List.getElem?_toArray]
set_option maxRecDepth 100000 in
set_option maxHeartbeats 8000000 in
theorem refBlocks_at {w:World} {v:Value} {gx:Nat} {X:List Int} {T:List (Ino×Value)} {V:List Value} {own:Nat→List Nat} (hR:Reads w v gx (u64s X)) (hX:X.length=3128) (h64:In64 X) (hok:TabOk T) (hlen:T.length=32)
  (hO:OwnE w V own) (hall:∀i,i<32→(∀c∈allN T own i,c≠0∧c<256)∧(allN T own i).length≤45) (hnum:∀i k,0≤(nT T i).B.getD k 0∧(nT T i).B.getD k 0<256):
  Calls Tryz.prog 32 #[v,.agg (tabC T),.agg V.toArray] w (BelowPost w (onceP X T own)):=by
 obtain⟨off,cap,rfl,hc1,hc2,hgl,hcell⟩:=words_open hR hX
 have hown:∀i,i<32→(∀c∈own i,c<256)∧(own i).length≤45:=λi hi=>by
  obtain⟨h1,h2⟩:=hall i hi
  unfold allN at h1 h2
  rw[List.length_append] at h2
  exact⟨λc hc=>(h1 c (by simp[hc])).2,by omega⟩
 have hz256:=zero_i256
 have HTV:Hid (TabAtV (w.alloc (.cells (tabC T) 39)) w.heap.size T):=⟨Blk.new w _ _,hok,hlen⟩
 have hsz1:(w.alloc (.cells (tabC T) 39)).heap.size=w.heap.size+1:=World.size_alloc _ _
 have hbo:=Blk.new (w.alloc (.cells (tabC T) 39)) V.toArray 41
 have hbm:=Blk.new ((w.alloc (.cells (tabC T) 39)).alloc (.cells V.toArray 41)) (i64s (tallyF 256 λ_=>0)).toArray 100
 have hk0:Keeps [] w (((w.alloc (.cells (tabC T) 39)).alloc (.cells V.toArray 41)).alloc (.cells (i64s (tallyF 256 λ_=>0)).toArray 100)):=(((Keeps.refl [] w).alloc _).alloc _).alloc _
 rw[World.size_alloc,hsz1] at hbm
 rw[hsz1] at hbo
 have htv:=(HTV.out.keep ((Keeps.refl [] _).alloc (.cells V.toArray 41)) (by simp)).keep ((Keeps.refl [] _).alloc (.cells (i64s (tallyF 256 λ_=>0)).toArray 100)) (by simp)
 have hbo':=hbo.alloc (.cells (i64s (tallyF 256 λ_=>0)).toArray 100)
 obtain⟨W0,hW0⟩:∃W0,((w.alloc (.cells (tabC T) 39)).alloc (.cells V.toArray 41)).alloc (.cells (i64s (tallyF 256 λ_=>0)).toArray 100)=W0:=⟨_,rfl⟩
 rw[hW0] at hbm hk0 htv hbo'
 have HW0:=Lib.hid hW0
 have HK0:=Lib.hid hk0
 have HB0:Hid (Blk W0 (w.heap.size+1+1) (i64s (tallyF 256 λc=>refM T own 0 c)).toArray 100):=hbm
 have HTB:Hid (∀wx,Keeps [w.heap.size+1+1] W0 wx→∀i,i<32→∀k,k<13→wx.cell? ⟨w.heap.size,i*18+4+k,none⟩=some (.int .i64 ((nT T i).B.getD k 0))):=λwx hk i hi k hk13=>by
  rw[Nat.add_assoc,(htv.keep hk (by rw[List.mem_singleton];omega)).field hi (by omega)]
  exact(inoAt _ (nT_len hok i)).f4 k hk13
 have HOC:Hid (∀wx,Keeps [w.heap.size+1+1] W0 wx→∀i,i<32→wx.cell? ⟨w.heap.size+1,i,none⟩=some (V.getD i undef)):=λwx hk i hi=>own_cell (hbo'.keep hk (by rw[List.mem_singleton];omega)) hO.1 hi
 have HOR:Hid (∀i,i<32→∃a cap g,V.getD i undef= .slice a (own i).length cap∧(own i).length≤cap∧cap≤maxLen∧∀j,j<(own i).length→∃off,a=some ⟨g,off,none⟩∧∀wx,Keeps [w.heap.size+1+1] W0 wx→wx.cell? ⟨g,off+j,none⟩=some (.int .i64 (((own i).getD j 0:Nat):Int))):=λi hi=>by
  obtain⟨g,a,cap,e,h1,h2,h3⟩:=hO.2.2 i hi
  rw[i64s_len] at h1 h3 e
  refine⟨a,cap,g,e,h1,h2,λj hj=> ?_⟩
  have hne:i64s (own i)≠[]:=λe=>by
   have h9:=congrArg List.length e
   rw[i64s_len,List.length_nil] at h9
   omega
  obtain⟨h4,off,h5,h6⟩:=h3 hne
  refine⟨off,h5,λwx hk=> ?_⟩
  have h7:=hk0.size
  rw[World.cell?_of_block (w:=w) (a:=⟨g,off+j,none⟩) ((hk.block g (by omega) (by rw[List.mem_singleton];omega)).trans (hk0.block g h4 (by simp))),h6 j hj,i64s_get hj]
 have HOW:=Lib.hid hown
 have HNB:=Lib.hid hnum
 have HML:Hid (∀k c,k≤32→refM T own k c≤58*k):=refM_le λi hi=>(hown i hi).2
 have HMS:Hid (∀k c,refM T own (k+1) c=refM T own k c+bcnt (nT T k).B 13 c+(own k).count c):=λk c=>rfl
 have HBC:Hid (∀(i k c:Nat),bcnt (nT T i).B (k+1) c=bcnt (nT T i).B k c+if (nT T i).B.getD k 0=(c:Int) then 1 else 0):=λi k c=>rfl
 have HBL:Hid (∀(i k c:Nat),bcnt (nT T i).B k c≤k):=λi k c=>bcnt_le _ _ _
 have HMT:Hid (∀c,c≠0→refM T own 32 c=metT T own c):=λc hc=>refM_met (λi=>nT_len hok i) (λi k=>(hnum i k).1) hc 32
 have HM0:Hid (metT T own 0=0):=by
  have :∀k,k≤32→metTo T own k 0=0:=λk=>by
   induction k with
   |zero=>exact λ_=>rfl
   |succ k ih=>
    intro hk
    show metTo T own k 0+_=0
    rw[ih (by omega),Nat.zero_add]
    exact List.count_eq_zero.2 λhm=>((hall k (by omega)).1 0 hm).1 rfl
  exact this 32 (Nat.le_refl _)
 have HCX:Hid (∀wx,Keeps [w.heap.size+1+1] W0 wx→∀k,k<3128→wx.cell? ⟨gx,off+k,none⟩=some (.int .u64 (X.getD k 0))):=λwx hk k hk31=>by
  have h7:=hk0.size
  rw[World.cell?_of_block (w:=w) (a:=⟨gx,off+k,none⟩) ((hk.block gx (by omega) (by rw[List.mem_singleton];omega)).trans (hk0.block gx hgl (by simp))),hcell k hk31]
 have HBW:Hid (∀wx,Calls Tryz.prog 54 #[.agg (w4 [bw X 0,bw X 1,bw X 2,bw X 3])] wx (MadeBits wx (bitsB [bw X 0,bw X 1,bw X 2,bw X 3] 256))):=λwx=>bits_at _ (λi=>by
  have h0:=bw_lt h64 0
  have h1:=bw_lt h64 1
  have h2:=bw_lt h64 2
  have h3:=bw_lt h64 3
  rcases i with _|_|_|_|i
  ·exact h0
  ·exact h1
  ·exact h2
  ·exact h3
  ·show(List.getD [] i 0)<_
   simp) wx
 have HW4:Hid (w4 [bw X 0,bw X 1,bw X 2,bw X 3]= #[.int .u64 (X.getD 816 0),.int .u64 (X.getD 817 0),.int .u64 (X.getD 818 0),.int .u64 (X.getD 819 0)]):=by
  show _=_
  have e0:=bw_cast h64 0
  have e1:=bw_cast h64 1
  have e2:=bw_cast h64 2
  have e3:=bw_cast h64 3
  rw[←e0,←e1,←e2,←e3]
  rfl
 have HBG:Hid (∀c,c<256→(bitsB [bw X 0,bw X 1,bw X 2,bw X 3] 256).getD c false=usedN X c):=λc hc=>by
  rw[bitsB_get _ _ _ hc,if_pos hc]
  unfold usedN
  have :c/64<4:=by omega
  obtain⟨q,hq⟩:∃q,c/64=q:=⟨_,rfl⟩
  rw[hq] at this ⊢
  rcases q with _|_|_|_|q
  ·rfl
  ·rfl
  ·rfl
  ·rfl
  ·omega
 have HP:Hid (∀(r:Bool) w',(r=true↔∀b:Nat,b<256→metT T own b≤1∧(usedN X b=true↔metT T own b=1))→Keeps [] w w'→BelowPost w (onceP X T own) (.returned (.bool r)) w'):=λr w' hr hk=>⟨r,rfl,hr,hk⟩
 unfold maxLen at hc2
 clear hR hX h64 hO hall hnum hcell hown hbo hbm hk0 htv hbo' hW0 hsz1 HTV hgl hlen hok
 generalize onceP X T own=pP at *
 generalize refM T own=mR at *
 generalize metT T own=mT at *
 generalize tabC T=ZT at *
 generalize V.toArray=ZV at *
 generalize (i64s (tallyF 256 λ_=>0)).toArray=Z0 at *
 generalize bitsB [bw X 0,bw X 1,bw X 2,bw X 3] 256=bits at *
 go_enter Tryz.func32,Tryz.ntmps32
 go_wp2_with fail
 rw[HW0.out]
 go_loopg [8] 32 (λgh s8 wx=>∃k:Nat,k+gh=32∧s8= .int .i64 (k:Int)∧Hid (Keeps [w.heap.size+1+1] W0 wx∧Blk wx (w.heap.size+1+1) (i64s (tallyF 256 λc=>mR k c)).toArray 100))
 case atStart=>exact⟨0,by omega,rfl,Keeps.refl _ _,HB0.out⟩
 case round=>
  clear HB0
  obtain⟨k,hk,rfl,HI⟩:=hrel
  cases gk with
  |succ gg=>
   have hki:(k:Int)<32:=by omega
   have hk00:(0:Int)≤(k:Int):=by omega
   have hk32:k<32:=by omega
   have HI0:Hid (Keeps [w.heap.size+1+1] W0 wr∧Blk wr (w.heap.size+1+1) (i64s (tallyF 256 λc=>mR k c+bcnt (nT T k).B 0 c)).toArray 100):=HI.out
   have HMK:=Lib.hid (λc=>HML.out k c (by omega))
   clear HI
   go_wp2_with fail
   go_loopg [9] 13 (λgh s9 wx=>∃j:Nat,j+gh=13∧s9= .int .i64 (j:Int)∧Hid (Keeps [w.heap.size+1+1] W0 wx∧Blk wx (w.heap.size+1+1) (i64s (tallyF 256 λc=>mR k c+bcnt (nT T k).B j c)).toArray 100))
   case atStart=>exact⟨0,by omega,rfl,HI0.out⟩
   case round=>
    clear HI0
    obtain⟨j,hj,rfl,HI⟩:=hrel
    cases gk with
    |succ g2=>
     have hji:(j:Int)<13:=by omega
     have hj0:(0:Int)≤(j:Int):=by omega
     have hj13:j<13:=by omega
     have c1:=HTB.out wr HI.out.1 k hk32 j hj13
     have hy:=HNB.out k j
     have hbc:=λc=>HBC.out k j c
     generalize hyy:(nT T k).B.getD j 0=y at *
     obtain⟨y,rfl⟩:=Int.eq_ofNat_of_zero_le hy.1
     have hy256:y<256:=by omega
     have c2:=blk_row HI.out.2 (j:=y) hy256
     have hmk:=HMK.out y
     have hbl:=HBL.out k j y
     obtain⟨z,hz⟩:∃z,mR k y+bcnt (nT T k).B j y=z:=⟨_,rfl⟩
     rw[hz] at c2
     have hzb:z≤2000:=by omega
     have HNB2:Hid (∀x:Int,x=((z+1:Nat):Int)→Blk (wr.setCell ⟨w.heap.size+1+1,y,none⟩ (.int .i64 x)) (w.heap.size+1+1) (i64s (tallyF 256 λc=>mR k c+bcnt (nT T k).B (j+1) c)).toArray 100):=λx hx=>blk_bump HI.out.2 y (λq hq=>by
      rw[hbc q]
      by_cases e:q=y
      ·subst e;rw[if_pos rfl,if_pos rfl];omega
      ·rw[if_neg e,if_neg (by omega)];omega) (by rw[hx,hz])
     have f2:=HI.out.2.frozen y
     have HKW:=Lib.hid HI.out.1
     have hyi:(0:Int)≤(y:Int):=by omega
     have hy2:(y:Int)<256:=by omega
     clear HI hbc hz hmk hbl hyy hy HTB HOC HOR HCX HBW HW4 HBG HP HMT HM0 HML HMS
     go_wp2_with fail
     go_roundg g2
     case measure=>omega
     case rel=>exact⟨j+1,by omega,by go_num,HKW.out.setCell (.inl (by simp)) _,HNB2.out _ (by go_num)⟩
    |zero=>
     obtain rfl:j=13:=by omega
     obtain⟨a,cap2,g,hv,hcl,hcm,hcells⟩:=HOR.out k hk32
     have cO:=λwx hk=>HOC.out wx hk k hk32
     have HCO:=Lib.hid cO
     have HCE:=Lib.hid hcells
     have HI0:Hid (Keeps [w.heap.size+1+1] W0 wr∧Blk wr (w.heap.size+1+1) (i64s (tallyF 256 λc=>mR k c+bcnt (nT T k).B 13 c+((own k).take 0).count c)).toArray 100):=HI.out
     have HNX:Hid (∀wx,Blk wx (w.heap.size+1+1) (i64s (tallyF 256 λc=>mR k c+bcnt (nT T k).B 13 c+((own k).take (own k).length).count c)).toArray 100→Blk wx (w.heap.size+1+1) (i64s (tallyF 256 λc=>mR (k+1) c)).toArray 100):=λwx hb=>by
      rw[tallyF_ext (λc _=>HMS.out k c)]
      rwa[List.take_length] at hb
     have HCS:=Lib.hid (λj hj=> @count_take_succ (own k) j hj)
     obtain⟨ho1,ho2⟩:=HOW.out k hk32
     have HCT:Hid (∀j c,((own k).take j).count c≤45):=λj c=>Nat.le_trans List.count_le_length (by rw[List.length_take];omega)
     have HGB:Hid (∀j,j<(own k).length→(own k).getD j 0<256):=λj hj=>ho1 _ (by rw[List.getD_eq_getElem?_getD,List.getElem?_eq_getElem hj];exact List.getElem_mem hj)
     have HBL13:=Lib.hid (λc=>HBL.out k 13 c)
     rw[hv] at HCO
     unfold maxLen at hcm
     clear HI hcells cO hv ho1
     obtain⟨m,hm⟩:∃m,(own k).length=m:=⟨_,rfl⟩
     rw[hm] at HCE HCS HNX HGB ho2 hcl HCO
     clear hm
     generalize own k=L at *
     generalize bcnt (nT T k).B 13=bc at *
     clear HTB HOC HOR HCX HBW HW4 HBG HP HMT HM0 HML HMS HBC HBL HNB
     go_wp2_with fail
     go_loopg [10] m (λgh s10 wx=>∃j:Nat,j+gh=m∧s10= .int .i64 (j:Int)∧Hid (Keeps [w.heap.size+1+1] W0 wx∧Blk wx (w.heap.size+1+1) (i64s (tallyF 256 λc=>mR k c+bc c+(L.take j).count c)).toArray 100))
     case atStart=>exact⟨0,by omega,rfl,HI0.out⟩
     case round=>
      clear HI0
      obtain⟨j,hj,rfl,HI⟩:=hrel
      have cO:=HCO.out wr HI.out.1
      cases gk with
      |zero=>
       obtain rfl:j=m:=by omega
       have HF:Hid (Keeps [w.heap.size+1+1] W0 wr∧Blk wr (w.heap.size+1+1) (i64s (tallyF 256 λc=>mR (k+1) c)).toArray 100):=⟨HI.out.1,HNX.out _ HI.out.2⟩
       clear HI HNX HCS HCT HGB HCE HCO
       go_wp2_with fail
       go_roundg gg
       case measure=>omega
       case rel=>exact⟨k+1,by omega,by go_num,HF.out⟩
      |succ g2=>
       have hjm:j<m:=by omega
       have hji:(j:Int)<(m:Int):=by omega
       have hj0:(0:Int)≤(j:Int):=by omega
       obtain⟨off2,rfl,d1⟩:=HCE.out j hjm
       have c1:=d1 wr HI.out.1
       have hy:=HGB.out j hjm
       have hcs:=λc=>HCS.out j (by omega) c
       have hmk:=HMK.out (L.getD j 0)
       have hct:=HCT.out j (L.getD j 0)
       have hbl:=HBL13.out (L.getD j 0)
       generalize L.getD j 0=y at *
       have c2:=blk_row HI.out.2 (j:=y) hy
       obtain⟨z,hz⟩:∃z,mR k y+bc y+(L.take j).count y=z:=⟨_,rfl⟩
       rw[hz] at c2
       have hzb:z≤2000:=by omega
       have HNB2:Hid (∀x:Int,x=((z+1:Nat):Int)→Blk (wr.setCell ⟨w.heap.size+1+1,y,none⟩ (.int .i64 x)) (w.heap.size+1+1) (i64s (tallyF 256 λc=>mR k c+bc c+(L.take (j+1)).count c)).toArray 100):=λx hx=>blk_bump HI.out.2 y (λq hq=>by
        rw[hcs q]
        by_cases e:q=y
        ·subst e;rw[if_pos rfl,if_pos rfl];omega
        ·rw[if_neg e,if_neg e]) (by rw[hx,hz])
       have f2:=HI.out.2.frozen y
       have HKW:=Lib.hid HI.out.1
       have hyi:(0:Int)≤(y:Int):=by omega
       have hy2:(y:Int)<256:=by omega
       clear HI hcs hz hmk hbl hct HCS HCT HGB HCE HCO HNX d1
       go_wp2_with fail
       go_roundg g2
       case measure=>omega
       case rel=>exact⟨j+1,by omega,by go_num,HKW.out.setCell (.inl (by simp)) _,HNB2.out _ (by go_num)⟩
  |zero=>
   obtain rfl:k=32:=by omega
   have HCXW:Hid (∀wx,Keeps [] wr wx→∀k,k<3128→wx.cell? ⟨gx,off+k,none⟩=some (.int .u64 (X.getD k 0))):=λwx hk=>HCX.out wx (HI.out.1.trans hk (by simp))
   have HBM:=Lib.hid HI.out.2
   have HKW:Hid (Keeps [] w wr):=HK0.out.trans HI.out.1 (by intro x hx;rw[List.mem_singleton] at hx;omega)
   have HKF:Hid (∀wx,Keeps [] wr wx→Keeps [] w wx):=λwx hk=>HKW.out.trans' hk
   clear HI HTB HOC HOR HCX HBC HBL HNB HOW hk HK0
   rw[HW4.out] at HBW
   go_wp2_with fail
   refine wp_region_last (l:=[_,_,_,_,_,_,_,_,_,_,_,_,_]) (o:=_) (S:=λwx=>Keeps [] wr wx) (by kernel_rfl) rfl (by kernel_rfl) (λd _ _ _ _ h=>by cases d<;>exact h) ((Keeps.refl _ _).drew) (by kernel_rfl) (by kernel_rfl) ?_
   repeat (refine EachList.cons ?_ (EachIf.val rfl ?h) ?_;(case h=>(intro wx hx;have q0:=HCXW.out wx hx 816 (by omega);have q1:=HCXW.out wx hx 817 (by omega);have q2:=HCXW.out wx hx 818 (by omega);have q3:=HCXW.out wx hx 819 (by omega);clear hx;go_simp;rfl));simp only[Act.put,List.setIfInBounds_toArray,List.set_cons_zero,List.set_cons_succ])
   refine EachList.done λwx hx=> ?_
   have HKX:=Lib.hid hx
   clear hx
   go_wp2_with fail
   refine(HBW.out wx).mono ?_;rintro e w6 ⟨gb,rfl,hob,hgb,hk6⟩
   have HKB:Hid (Keeps [] wr w6):=HKX.out.trans' hk6
   have HK6:=Lib.hid (HKF.out _ HKB.out)
   have HBL:Hid (bits.length=256):=by
    have :=hob.len
    rw[bools_len] at this
    show _=_
    omega
   have HMC:Hid (∀wx,Keeps [] w6 wx→∀c,c<256→wx.cell? ⟨w.heap.size+1+1,c,none⟩=some (.int .i64 (mR 32 c:Int))∧wx.cell? ⟨gb,c,none⟩=some (.bool (usedN X c))):=λwx hk c hc=>by
    refine⟨blk_row (HBM.out.keep (HKB.out.trans' hk) (by simp)) hc,?_⟩
    have h1:=bools_getO (hob.keep hk (by simp)) HBL.out hc
    rw[HBG.out c hc] at h1
    exact h1.2.1
   have HM32:=Lib.hid (λc=>HML.out 32 c (by omega))
   clear hob hgb hk6 HCXW HBM HKF HKB HKX HBW HW4 HBG HML HMS HKW HBL
   go_wp2_with fail
   go_loopg [12] 255 (λgh s12 wz=>Hid (Keeps [] w6 wz)∧∃c:Nat,c+gh=256∧s12= .int .i64 (c:Int)∧Hid (1≤c∧∀b:Nat,1≤b→b<c→mT b≤1∧(usedN X b=true↔mT b=1)))
   case atStart=>exact⟨Keeps.refl _ _,1,by omega,rfl,Nat.le_refl _,λb h1 h2=>by omega⟩
   case round=>
    obtain⟨HKW,c,hc,rfl,HI⟩:=hrel
    cases gk with
    |zero=>
     obtain rfl:c=256:=by omega
     have c0:=(HMC.out wr HKW.out 0 (by omega)).2
     have HF:=Lib.hid (HP.out (!usedN X 0) wr ⟨λh=>λb hb=>by
      by_cases e:b=0
      ·subst e
       rw[HM0.out]
       have hu:usedN X 0=false:=by simpa using h
       rw[hu]
       exact⟨by omega,by simp⟩
      ·exact HI.out.2 b (by omega) hb,λh=>by
      have h0:=(h 0 (by omega)).2
      rw[HM0.out] at h0
      cases hu:usedN X 0
      ·rfl
      ·have :=h0.1 hu
       omega⟩ (HK6.out.trans' HKW.out))
     clear HI HP HMC HM32 HM0 HMT HKW HK6
     generalize usedN X 0=u at *
     go_wp2_with fail
     go_ret
     exact HF.out
    |succ g2=>
     have hc256:c<256:=by omega
     have hci:(c:Int)<256:=by omega
     have hc00:(0:Int)≤(c:Int):=by omega
     have HCC:Hid (∀wx,Keeps [] wr wx→wx.cell? ⟨w.heap.size+1+1,c,none⟩=some (.int .i64 (mR 32 c:Int))∧wx.cell? ⟨gb,c,none⟩=some (.bool (usedN X c))):=λwx hk=>HMC.out wx (HKW.out.trans' hk) c hc256
     have hmt:=HMT.out c (by have :=HI.out.1;omega)
     have hm:=HM32.out c
     have HNX:Hid ((mT c≤1∧(usedN X c=true↔mT c=1))→1≤c+1∧∀b:Nat,1≤b→b<c+1→mT b≤1∧(usedN X b=true↔mT b=1)):=λhh=>⟨by omega,λb h1 hb=>by
      by_cases e:b=c
      ·rw[e];exact hh
      ·exact HI.out.2 b h1 (by omega)⟩
     have HNO:Hid (¬(mT c≤1∧(usedN X c=true↔mT c=1))→¬∀b:Nat,b<256→mT b≤1∧(usedN X b=true↔mT b=1)):=λhh ha=>hh (ha c hc256)
     have HK7:=Lib.hid (λwx (hk:Keeps [] wr wx)=>HK6.out.trans' (HKW.out.trans' hk))
     have HKS:=Lib.hid (λwx (hk:Keeps [] wr wx)=>HKW.out.trans' hk)
     rw[hmt] at HCC hm
     clear HI HM32 HMC HMT HM0 hmt HKW HK6
     generalize usedN X c=u at *
     generalize mT c=z at *
     have hzb:z≤2000:=by omega
     clear hm
     by_cases h1:1<z
     ·have h1i:(1:Int)<(z:Int):=by omega
      have HNF:=Lib.hid (HNO.out λh=>by omega)
      clear HNX HNO h1
      go_wp2_with fail
      refine wp_region_each (S:=λwx=>Keeps [] wr wx) (by kernel_rfl) (by kernel_rfl) (λd _ _ _ _ h=>by cases d<;>exact h) ((Keeps.refl _ _).drew) (by kernel_rfl) ?_
      repeat (first
       |(refine EachList.cons ?_ (EachIf.val rfl ?h) ?_;(case h=>(intro wx hx;obtain⟨q0,q1⟩:=HCC.out wx hx;clear hx;go_simp;rfl));simp only[Act.put,List.setIfInBounds_toArray,List.set_cons_zero,List.set_cons_succ])
       |(refine EachList.cons undef (EachIf.off rfl) ?_;simp only[Act.put,List.setIfInBounds_toArray,List.set_cons_zero,List.set_cons_succ]))
      refine EachList.done λwx hx=> ?_
      have HF:=Lib.hid (HP.out false wx ⟨(λh=>by cases h),λhh=>absurd hh HNF.out⟩ (HK7.out wx hx))
      clear hx HNF HP HCC HK7 HKS
      go_wp2_with fail
      go_ret
      exact HF.out
     ·have h1i:¬(1:Int)<(z:Int):=by omega
      have hz:z=0∨z=1:=by omega
      clear h1 h1i hzb
      rcases hz with rfl|rfl<;>cases u
      all_goals
       go_wp2_with fail
       refine wp_region_each (S:=λwx=>Keeps [] wr wx) (by kernel_rfl) (by kernel_rfl) (λd _ _ _ _ h=>by cases d<;>exact h) ((Keeps.refl _ _).drew) (by kernel_rfl) ?_
       repeat (first
        |(refine EachList.cons ?_ (EachIf.val rfl ?h) ?_;(case h=>(intro wx hx;obtain⟨q0,q1⟩:=HCC.out wx hx;clear hx;go_simp;rfl));simp only[Act.put,List.setIfInBounds_toArray,List.set_cons_zero,List.set_cons_succ])
        |(refine EachList.cons undef (EachIf.off rfl) ?_;simp only[Act.put,List.setIfInBounds_toArray,List.set_cons_zero,List.set_cons_succ]))
       refine EachList.done λwx hx=> ?_
      ·have HN:=Lib.hid (HNX.out ⟨by omega,by simp⟩)
       have HKN:=Lib.hid (HKS.out wx hx)
       clear hx HNX HNO HP HCC HK7 HKS
       go_wp2_with fail
       go_roundg g2
       case measure=>omega
       case rel=>exact⟨HKN.out,c+1,by omega,by go_num,HN.out⟩
      ·have HF:=Lib.hid (HP.out false wx ⟨(λh=>by cases h),λhh=>absurd hh (HNO.out λh=>by simp at h)⟩ (HK7.out wx hx))
       clear hx HNX HNO HP HCC HK7 HKS
       go_wp2_with fail
       go_ret
       exact HF.out
      ·have HF:=Lib.hid (HP.out false wx ⟨(λh=>by cases h),λhh=>absurd hh (HNO.out λh=>by simp at h)⟩ (HK7.out wx hx))
       clear hx HNX HNO HP HCC HK7 HKS
       go_wp2_with fail
       go_ret
       exact HF.out
      ·have HN:=Lib.hid (HNX.out ⟨by omega,by simp⟩)
       have HKN:=Lib.hid (HKS.out wx hx)
       clear hx HNX HNO HP HCC HK7 HKS
       go_wp2_with fail
       go_roundg g2
       case measure=>omega
       case rel=>exact⟨HKN.out,c+1,by omega,by go_num,HN.out⟩
def rtailP (X:List Int) (n:Ino) (k:Nat):Prop:=∀j:Nat,j<64→0<n.B.getD k 0→n.S≤64*(k:Int)+j→byt (X.getD (1080+8*(n.B.getD k 0).toNat+j/8) 0).toNat (j%8)=0
theorem rtail_iff {X:List Int} {n:Ino} (h0:∀k,0≤n.B.getD k 0):tailP X n↔(n.K=1→∀k,k<13→rtailP X n k):=by
 constructor
 ·intro h hK k hk j hj hb hs
  exact h hK k hk (by omega) j hj hs
 ·intro h hK k hk hb j hj hs
  exact h hK k hk j hj (by have :=h0 k;omega) hs
theorem tail_facts {k j yn p:Nat} {k64 si y8 y18 d8 pi:Int} (hk:k<13) (hj:j<64) (hy:yn<256) (hp:1080+8*yn+j/8=p) (h1:64*(k:Int)=k64) (h2:k64+(j:Int)=si) (h3:8*(yn:Int)=y8) (h4:1080+y8=y18) (h5:d8=((j/8:Nat):Int)) (h6:y18+d8=pi) (h7:p<3128):
  wrap64 k64=k64∧wrap64 si=si∧wrap64 y8=y8∧wrap64 y18=y18∧wrap64 pi=pi∧pi<3128∧0≤pi∧pi.toNat=p:=by
 have hpi:pi=(p:Int):=by omega
 unfold wrap64
 refine⟨by omega,by omega,by omega,by omega,by omega,by omega,by omega,by omega⟩
set_option maxRecDepth 100000 in
set_option maxHeartbeats 8000000 in
theorem refTails_at {w:World} {v:Value} {gx:Nat} {X:List Int} {T:List (Ino×Value)} (hR:Reads w v gx (u64s X)) (hX:X.length=3128) (h64:In64 X) (hok:TabOk T) (hlen:T.length=32)
  (hnum:∀i k,0≤(nT T i).B.getD k 0∧(nT T i).B.getD k 0<256):
  Calls Tryz.prog 33 #[v,.agg (tabC T)] w (BelowPost w (tailsP X T)):=by
 obtain⟨off,cap,rfl,hc1,hc2,hgl,hcell⟩:=words_open hR hX
 have hk0:=(Keeps.refl [] w).alloc (.cells (tabC T) 39)
 have htv:TabAtV (w.alloc (.cells (tabC T) 39)) w.heap.size T:=⟨Blk.new w _ _,hok,hlen⟩
 obtain⟨W0,hW0⟩:∃W0,w.alloc (.cells (tabC T) 39)=W0:=⟨_,rfl⟩
 rw[hW0] at hk0 htv
 have HW0:=Lib.hid hW0
 have HCX:Hid (∀k,k<3128→W0.cell? ⟨gx,off+k,none⟩=some (.int .u64 ((X.getD k 0).toNat:Int))):=λk hk=>by
  rw[World.cell?_of_block (w:=w) (a:=⟨gx,off+k,none⟩) (hk0.block gx hgl (by simp)),hcell k hk,Int.toNat_of_nonneg (h64 k).1]
 have HK1:Hid (∀i,i<32→W0.cell? ⟨w.heap.size,i*18+1,none⟩=some (.int .i64 (nT T i).K)∧W0.cell? ⟨w.heap.size,i*18+3,none⟩=some (.int .i64 (nT T i).S)∧∀k,k<13→W0.cell? ⟨w.heap.size,i*18+4+k,none⟩=some (.int .i64 ((nT T i).B.getD k 0))):=λi hi=>by
  have hz:=inoAt (vT T i) (nT_len hok i)
  refine⟨by rw[htv.field hi (j:=1) (by omega)];exact hz.f1,by rw[htv.field hi (j:=3) (by omega)];exact hz.f3,λk hk=> ?_⟩
  rw[Nat.add_assoc,htv.field hi (by omega)]
  exact hz.f4 k hk
 have HBY:Hid (∀p j:Nat,j<8→∀wx,Calls Tryz.prog 55 #[.int .u64 ((X.getD p 0).toNat:Int),.int .i64 (j:Int)] wx λe w'=>e= .returned (.int .u8 (byt (X.getD p 0).toNat j:Nat))∧wx=w'):=λp j hj wx=>refByte_at _ j (by have :=h64 p;omega) (by omega) wx
 have HNB:=Lib.hid hnum
 have HP:Hid (∀(r:Bool),(r=true↔∀i:Nat,i<32→(nT T i).K=1→∀k,k<13→rtailP X (nT T i) k)→BelowPost w (tailsP X T) (.returned (.bool r)) W0):=λr hr=>⟨r,rfl,hr.trans ⟨λh i hi=>(rtail_iff λk=>(hnum i k).1).2 (h i hi),λh i hi=>(rtail_iff λk=>(hnum i k).1).1 (h i hi)⟩,hk0⟩
 unfold maxLen at hc2
 clear hR hX h64 hnum hcell hk0 htv hW0 hgl hlen hok
 generalize tailsP X T=pP at *
 generalize tabC T=ZT at *
 go_enter Tryz.func33,Tryz.ntmps33
 go_wp2_with fail
 try rw[HW0.out]
 go_loopg [5] 32 (λgh s5 wx=>W0=wx∧∃i:Nat,i+gh=32∧s5= .int .i64 (i:Int)∧Hid (∀q:Nat,q<i→(nT T q).K=1→∀k,k<13→rtailP X (nT T q) k))
 case atStart=>exact⟨rfl,0,by omega,rfl,λq hq=>by omega⟩
 case round=>
  obtain⟨rfl,i,hi,rfl,HI⟩:=hrel
  cases gk with
  |zero=>
   obtain rfl:i=32:=by omega
   have HF:=Lib.hid (HP.out true ⟨λ_=>HI.out,λ_=>rfl⟩)
   clear HI HP HK1 HBY HNB HCX
   go_wp2_with fail
   go_ret
   exact HF.out
  |succ gg=>
   have hii:(i:Int)<32:=by omega
   have hi0:(0:Int)≤(i:Int):=by omega
   have hi32:i<32:=by omega
   obtain⟨c1,c3,hcB⟩:=HK1.out i hi32
   have HCB:=Lib.hid hcB
   have HNBI:=Lib.hid (HNB.out i)
   have HNX:Hid (((nT T i).K=1→∀k,k<13→rtailP X (nT T i) k)→∀q:Nat,q<i+1→(nT T q).K=1→∀k,k<13→rtailP X (nT T q) k):=λhh q hq=>by
    by_cases e:q=i
    ·rw[e];exact hh
    ·exact HI.out q (by omega)
   have HNO:Hid (∀k,k<13→(nT T i).K=1→¬rtailP X (nT T i) k→¬∀q:Nat,q<32→(nT T q).K=1→∀k,k<13→rtailP X (nT T q) k):=λk hk hK hn ha=>hn (ha i hi32 hK k hk)
   clear hcB HK1 HNB HI
   generalize nT T i=n at *
   by_cases hK:n.K=1
   ·rw[hK] at c1
    have HNO2:=Lib.hid (λk hk=>HNO.out k hk hK)
    have HNX2:=Lib.hid (λhh=>HNX.out λ_=>hh)
    clear HNO HNX
    go_wp2_with fail
    go_loopg [6] 13 (λgh s6 wx=>W0=wx∧∃k:Nat,k+gh=13∧s6= .int .i64 (k:Int)∧Hid (∀q:Nat,q<k→rtailP X n q))
    case atStart=>exact⟨rfl,0,by omega,rfl,λq hq=>by omega⟩
    case round=>
     obtain⟨rfl,k,hk,rfl,HJ⟩:=hrel
     cases gk with
     |zero=>
      obtain rfl:k=13:=by omega
      have HN:=Lib.hid (HNX2.out HJ.out)
      clear HJ HNX2 HNO2 HBY HCX HCB HP HNBI
      go_wp2_with fail
      go_roundg gg
      case measure=>omega
      case rel=>exact⟨rfl,i+1,by omega,by go_num,HN.out⟩
     |succ g2=>
      have hki:(k:Int)<13:=by omega
      have hk00:(0:Int)≤(k:Int):=by omega
      have hk13:k<13:=by omega
      have cB:=HCB.out k hk13
      have hy:=HNBI.out k
      have HNX3:Hid ((∀j:Nat,j<64→(0:Int)<n.B.getD k 0→n.S≤64*(k:Int)+j→byt (X.getD (1080+8*(n.B.getD k 0).toNat+j/8) 0).toNat (j%8)=0)→∀q:Nat,q<k+1→rtailP X n q):=λhh q hq=>by
       by_cases e:q=k
       ·rw[e];exact hh
       ·exact HJ.out q (by omega)
      have HNO3:Hid (¬(∀j:Nat,j<64→(0:Int)<n.B.getD k 0→n.S≤64*(k:Int)+j→byt (X.getD (1080+8*(n.B.getD k 0).toNat+j/8) 0).toNat (j%8)=0)→¬∀q:Nat,q<32→(nT T q).K=1→∀k,k<13→rtailP X (nT T q) k):=HNO2.out k hk13
      clear HJ HNX2 HNO2 HCB HNBI
      generalize n.B.getD k 0=y at *
      obtain⟨yn,rfl⟩:=Int.eq_ofNat_of_zero_le hy.1
      rw[Int.toNat_natCast] at HNX3 HNO3
      have hyn:yn<256:=by omega
      generalize n.S=S at *
      by_cases hy0:yn=0
      ·subst hy0
       have HN:=Lib.hid (HNX3.out λj _ h=>by omega)
       clear HNX3 HNO3 HBY HCX HP
       go_wp2_with fail
       go_loopg [7] 0 (λgh s7 wx=>W0=wx∧gh=0∧s7= .int .i64 0)
       case atStart=>exact⟨rfl,rfl,rfl⟩
       case round=>
        obtain⟨rfl,rfl,rfl⟩:=hrel
        go_wp2_with fail
        go_roundg g2
        case measure=>omega
        case rel=>exact⟨rfl,k+1,by omega,by go_num,HN.out⟩
      ·have hyi:(0:Int)<(yn:Int):=by omega
       have HY:=Lib.hid hyi
       clear hy0
       go_wp2_with fail
       go_loopg [7] 64 (λgh s7 wx=>W0=wx∧∃j:Nat,j+gh=64∧s7= .int .i64 (j:Int)∧Hid (∀q:Nat,q<j→(0:Int)<(yn:Int)→S≤64*(k:Int)+q→byt (X.getD (1080+8*yn+q/8) 0).toNat (q%8)=0))
       case atStart=>exact⟨rfl,0,by omega,rfl,λq hq=>by omega⟩
       case round=>
        obtain⟨rfl,j,hj,rfl,HL⟩:=hrel
        cases gk with
        |zero=>
         obtain rfl:j=64:=by omega
         have HN:=Lib.hid (HNX3.out HL.out)
         clear HL HNX3 HNO3 HBY HCX HP
         go_wp2_with fail
         go_roundg g2
         case measure=>omega
         case rel=>exact⟨rfl,k+1,by omega,by go_num,HN.out⟩
        |succ g3=>
         have hj64:j<64:=by omega
         have hji:(j:Int)<64:=by omega
         have hpp:1080+8*yn+j/8<3128:=by omega
         have cX:=HCX.out (1080+8*yn+j/8) hpp
         have HB1:=Lib.hid (HBY.out (1080+8*yn+j/8) (j%8) (by omega))
         have HNX4:Hid ((S≤64*(k:Int)+j→byt (X.getD (1080+8*yn+j/8) 0).toNat (j%8)=0)→∀q:Nat,q<j+1→(0:Int)<(yn:Int)→S≤64*(k:Int)+q→byt (X.getD (1080+8*yn+q/8) 0).toNat (q%8)=0):=λhh q hq h1 h2=>by
          by_cases e:q=j
          ·subst e;exact hh h2
          ·exact HL.out q (by omega) h1 h2
         have HNO4:Hid (S≤64*(k:Int)+j→byt (X.getD (1080+8*yn+j/8) 0).toNat (j%8)≠0→¬∀q:Nat,q<32→(nT T q).K=1→∀k,k<13→rtailP X (nT T q) k):=λh1 h2=>HNO3.out λhh=>h2 (hh j hj64 HY.out h1)
         obtain⟨p,hp⟩:∃p,1080+8*yn+j/8=p:=⟨_,rfl⟩
         rw[hp] at cX HB1 HNX4 HNO4 hpp
         obtain⟨k64,hk64⟩:∃k64:Int,64*(k:Int)=k64:=⟨_,rfl⟩
         obtain⟨si,hsi⟩:∃si:Int,k64+(j:Int)=si:=⟨_,rfl⟩
         obtain⟨y8,hy8⟩:∃y8:Int,8*(yn:Int)=y8:=⟨_,rfl⟩
         obtain⟨y18,hy18⟩:∃y18:Int,1080+y8=y18:=⟨_,rfl⟩
         obtain⟨d8,hd8⟩:∃d8:Int,(j:Int).tdiv 8=d8:=⟨_,rfl⟩
         have hd8':d8=((j/8:Nat):Int):=hd8.symm
         obtain⟨pi,hpi⟩:∃pi:Int,y18+d8=pi:=⟨_,rfl⟩
         obtain⟨w1,w2,w3,w4,w5,w6,w7,w8⟩:=tail_facts hk13 hj64 hyn hp hk64 hsi hy8 hy18 hd8' hpi hpp
         have hm8:(j:Int).tmod 8=((j%8:Nat):Int):=rfl
         have HNX5:Hid ((S≤si→byt (X.getD p 0).toNat (j%8)=0)→∀q:Nat,q<j+1→(0:Int)<(yn:Int)→S≤64*(k:Int)+q→byt (X.getD (1080+8*yn+q/8) 0).toNat (q%8)=0):=λhh=>HNX4.out λh=>hh (by rw[←hsi,←hk64];exact h)
         rw[hk64,hsi] at HNO4
         clear HNX4
         clear hd8'
         clear HL HNX3 HNO3 HBY HCX hp hpp
         generalize j%8=j8 at *
         generalize (X.getD p 0).toNat=WD at *
         by_cases hs:S≤si
         ·generalize byt WD j8=bv at *
          by_cases hbv:bv=0
          ·subst hbv
           have HN:=Lib.hid (HNX5.out λ_=>rfl)
           clear HNX5 HNO4 HP
           go_wp2_with fail
           refine(HB1.out _).mono ?_;rintro e w1 ⟨rfl,rfl⟩
           clear HB1
           go_wp2_with fail
           go_roundg g3
           case measure=>omega
           case rel=>exact⟨rfl,j+1,by omega,by go_num,HN.out⟩
          ·have hbn:(((bv:Nat):Int) != 0)=true:=bne_iff_ne.2 (by omega)
           have HF:=Lib.hid (HP.out false ⟨(λh=>by cases h),λh=>absurd h (HNO4.out hs hbv)⟩)
           clear HNX5 HNO4 HP hbv
           go_wp2_with fail
           refine(HB1.out _).mono ?_;rintro e w1 ⟨rfl,rfl⟩
           clear HB1
           go_wp2_with fail
           go_ret
           exact HF.out
         ·have HN:=Lib.hid (HNX5.out λh=>absurd h hs)
          have hd2:decide (S≤si)=false:=decide_eq_false hs
          clear HNX5 HNO4 HP HB1
          go_wp2_with fail
          go_roundg g3
          case measure=>omega
          case rel=>exact⟨rfl,j+1,by omega,by go_num,HN.out⟩
   ·have hb:(n.K==1)=false:=by simpa using hK
    have HN:=Lib.hid (HNX.out λh=>absurd h hK)
    clear HNX HNO HBY HCX HCB HP HNBI hK
    generalize n.K=K at *
    go_wp2_with fail
    go_loopg [6] 0 (λgh s6 wx=>W0=wx∧gh=0∧s6= .int .i64 0)
    case atStart=>exact⟨rfl,rfl,rfl⟩
    case round=>
     obtain⟨rfl,rfl,rfl⟩:=hrel
     go_wp2_with fail
     go_roundg gg
     case measure=>omega
     case rel=>exact⟨rfl,i+1,by omega,by go_num,HN.out⟩
theorem ledE_pos {E:List (ByteArray×Int)} {i:Nat}:∀{j:Nat},j≤E.length→(0<ledE E j i↔∃q,q<j∧eno E q=(i:Int))
 |0,_=>by rw[ledE_zero];exact⟨λh=>by omega,λ⟨q,hq,_⟩=>by omega⟩
 |j+1,hj=>by
  have ih:=ledE_pos (E:=E) (i:=i) (j:=j) (by omega)
  rw[ledE_succ (by omega)]
  constructor
  ·intro h
   by_cases e:eno E j=(i:Int)
   ·exact⟨j,by omega,e⟩
   ·rw[if_neg e] at h
    obtain⟨q,hq,he⟩:=ih.1 (by omega)
    exact⟨q,by omega,he⟩
  ·rintro⟨q,hq,he⟩
   by_cases e:q=j
   ·subst e
    rw[if_pos he]
    omega
   ·have :=ih.2 ⟨q,by omega,he⟩
    omega
theorem ledTo_pos {T:List (Ino×Value)} {i:Nat}:∀k,(0<ledTo T k i↔∃q,q<k∧∃j,j<(nT T q).E.length∧eno (nT T q).E j=(i:Int))
 |0=>⟨λh=>absurd h (Nat.lt_irrefl 0),λ⟨q,hq,_⟩=>by omega⟩
 |k+1=>by
  have ih:=ledTo_pos (T:=T) (i:=i) k
  have h1:=ledE_pos (E:=(nT T k).E) (i:=i) (Nat.le_refl _)
  show 0<ledTo T k i+ledE (nT T k).E (nT T k).E.length i↔_
  constructor
  ·intro h
   by_cases e:0<ledTo T k i
   ·obtain⟨q,hq,r⟩:=ih.1 e
    exact⟨q,by omega,r⟩
   ·exact⟨k,by omega,h1.1 (by omega)⟩
  ·rintro⟨q,hq,r⟩
   by_cases e:q=k
   ·subst e
    have :=h1.2 r
    omega
   ·have :=ih.2 ⟨q,by omega,r⟩
    omega
theorem free_iff {X:List Int} {T:List (Ino×Value)} {own:Nat→List Nat} (h:Gots X T own) (ha:allGotP X T) {i:Nat} (hi:i<32):FreeP X (i:Int)↔(nT T i).F=0:=by
 constructor
 ·intro hf
  rcases h.form i with ⟨-,-,h1⟩|⟨h1,-⟩
  ·exact absurd hf h1.notFree
  ·exact h1
 ·intro hf
  rcases ha i hi with h1|h1
  ·exact h1
  ·exact absurd hf h1
theorem lead_ref {X:List Int} {T:List (Ino×Value)} {own:Nat→List Nat} (h:Gots X T own) (ha:allGotP X T):leadP X T↔(nT T 0).K=2∧∀k,k<32→∀j,j<(nT T k).E.length→(nT T (eno (nT T k).E j).toNat).F≠0:=by
 unfold leadP ledT
 constructor
 ·rintro⟨h1,h2⟩
  refine⟨h1,λk hk j hj hf=> ?_⟩
  obtain⟨y,hy⟩:∃y:Nat,eno (nT T k).E j=(y:Int)∧y<32:=by
   have :=h.tabN (k:Int) (eno (nT T k).E j) ((succL_mem hk).2 ⟨j,hj,rfl⟩)
   exact⟨(eno (nT T k).E j).toNat,by omega,by omega⟩
  rw[hy.1,Int.toNat_natCast] at hf
  exact h2 y hy.2 ((ledTo_pos 32).2 ⟨k,hk,j,hj,hy.1⟩) ((free_iff h ha hy.2).2 hf)
 ·rintro⟨h1,h2⟩
  refine⟨h1,λi hi hc hf=> ?_⟩
  obtain⟨k,hk,j,hj,e⟩:=(ledTo_pos 32).1 hc
  have :=h2 k hk j hj
  rw[e,Int.toNat_natCast] at this
  exact this ((free_iff h ha hi).1 hf)
theorem reach_ref {X:List Int} {T:List (Ino×Value)} {own:Nat→List Nat} (h:Gots X T own) (ha:allGotP X T):reachP X T↔∀i:Nat,i<32→(nT T i).F≠0→Reach T 0 (i:Int):=by
 unfold reachP
 constructor
 ·intro hh i hi hf
  exact hh i hi λe=>hf ((free_iff h ha hi).1 e)
 ·intro hh i hi hf
  exact hh i hi λe=>hf ((free_iff h ha hi).2 e)
theorem Gots.num {X:List Int} {T:List (Ino×Value)} {own:Nat→List Nat} (h:Gots X T own) (i k:Nat):0≤(nT T i).B.getD k 0∧(nT T i).B.getD k 0<256:=by
 rcases h.form i with ⟨-,-,h1⟩|⟨-,h1,-⟩
 ·exact right_len h1.right h1.len k
 ·rw[h1]
  unfold inoZ
  show 0≤(List.replicate 13 (0:Int)).getD k 0∧(List.replicate 13 (0:Int)).getD k 0<256
  rw[List.getD_eq_getElem?_getD,List.getElem?_replicate]
  split<;>simp
theorem Gots.kind {X:List Int} {T:List (Ino×Value)} {own:Nat→List Nat} (h:Gots X T own) (i:Nat):(nT T i).K=0∨(nT T i).K=1∨(nT T i).K=2:=by
 rcases h.form i with ⟨-,-,h1⟩|⟨-,h1,-⟩
 ·rcases h1.right.2.2 with h|h
  ·exact .inr (.inl h.1)
  ·exact .inr (.inr h.1)
 ·rw[h1];exact .inl rfl
theorem Gots.fpos {X:List Int} {T:List (Ino×Value)} {own:Nat→List Nat} (h:Gots X T own) (i:Nat):0≤(nT T i).F:=by
 rcases h.form i with ⟨-,-,h1⟩|⟨h1,-⟩
 ·have :=stored_F h1;omega
 ·omega
def WrongPost (w:World) (P:Nat→Prop) (e:Ending) (w':World):Prop:=∃k:Nat,e= .returned (.int .i64 (k:Int))∧FirstP P k∧k≤7∧Keeps [] w w'
set_option maxRecDepth 100000 in
set_option maxHeartbeats 16000000 in
theorem refWrong_at {w:World} {v:Value} {gx:Nat} {X:List Int} {T:List (Ino×Value)} {V:List Value} {own:Nat→List Nat} {good:Bool} (hR:Reads w v gx (u64s X)) (hX:X.length=3128) (h64:In64 X) (hok:TabOk T) (hlen:T.length=32) (hE:TabE w T)
  (hO:OwnE w V own) (hG:Gots X T own) (hgood:good=true↔allGotP X T):
  Calls Tryz.prog 12 #[v,.agg (tabC T),.agg V.toArray,.bool good] w (WrongPost w (PointP X T own)):=by
 obtain⟨off,cap,rfl,hc1,hc2,hgl,hcell⟩:=words_open hR hX
 have hk1:Keeps [] w ((w.alloc (.cells (tabC T) 39)).alloc (.cells V.toArray 41)):=((Keeps.refl [] w).alloc _).alloc _
 have htv:TabAtV ((w.alloc (.cells (tabC T) 39)).alloc (.cells V.toArray 41)) w.heap.size T:=⟨(Blk.new w _ _).alloc _,hok,hlen⟩
 have hbo:=Blk.new (w.alloc (.cells (tabC T) 39)) V.toArray 41
 rw[World.size_alloc] at hbo
 obtain⟨W0,hW0⟩:∃W0,(w.alloc (.cells (tabC T) 39)).alloc (.cells V.toArray 41)=W0:=⟨_,rfl⟩
 rw[hW0] at hk1 htv hbo
 have HW0:=Lib.hid hW0
 have HSU:Hid (∀wx,Keeps [] W0 wx→Calls Tryz.prog 30 #[.slice (some ⟨gx,off,none⟩) 3128 cap] wx (BelowPost wx (PointP X T own 0))):=λwx hk=>refSuper_at (hR.keep (hk1.trans' hk) (by simp)) hX
 have HBK:Hid (∀wx,Keeps [] W0 wx→Calls Tryz.prog 32 #[.slice (some ⟨gx,off,none⟩) 3128 cap,.agg (tabC T),.agg V.toArray] wx (BelowPost wx (PointP X T own 5))):=λwx hk=>refBlocks_at (hR.keep (hk1.trans' hk) (by simp)) hX h64 hok hlen (hO.keep (hk1.trans' hk)) (λi hi=>hG.all i hi) hG.num
 have HTA:Hid (∀wx,Keeps [] W0 wx→Calls Tryz.prog 33 #[.slice (some ⟨gx,off,none⟩) 3128 cap,.agg (tabC T)] wx (BelowPost wx (PointP X T own 6))):=λwx hk=>refTails_at (hR.keep (hk1.trans' hk) (by simp)) hX h64 hok hlen hG.num
 have HBE:Hid (∀wx,Keeps [] W0 wx→∀i:Nat,Calls Tryz.prog 31 #[.agg (tabC T),.int .i64 0,.int .i64 (i:Int)] wx (BelowPost wx (Reach T 0 (i:Int)))):=λwx hk i=>refBelow_at hok hlen (hE.keep (hk1.trans' hk)) hG.tabN 0 (i:Int)
 have HCO:Hid (∀wx,Keeps [] W0 wx→∀i:Nat,Calls Tryz.prog 14 #[.agg (tabC T),.int .i64 (i:Int)] wx λe w'=>e= .returned (.int .i64 (ledT T i:Int))∧Keeps [] wx w'):=λwx hk i=>refCount_at hok hlen (hE.keep (hk1.trans' hk)) (m:=24) hG.elen (by omega) i
 have HLT:Hid (∀wx,Keeps [] W0 wx→(loadVar 39 ⟨w.heap.size,0,none⟩).run Tryz.prog wx= .ok (.agg (tabC T)) wx):=λwx hk=>(htv.keep hk (by simp)).load
 have HLV:Hid (∀wx,Keeps [] W0 wx→(loadVar 41 ⟨w.heap.size+1,0,none⟩).run Tryz.prog wx= .ok (.agg V.toArray) wx):=λwx hk=>load_own (hbo.keep hk (by simp)) hO.1
 have HCE:Hid (∀wx,Keeps [] W0 wx→∀i,i<32→wx.cell? ⟨w.heap.size,i*18,none⟩=some (.int .i64 (nT T i).F)∧wx.cell? ⟨w.heap.size,i*18+1,none⟩=some (.int .i64 (nT T i).K)∧wx.cell? ⟨w.heap.size,i*18+2,none⟩=some (.int .i64 (nT T i).L)∧wx.cell? ⟨w.heap.size,i*18+17,none⟩=some (vT T i)):=λwx hk i hi=>by
  have ht:=htv.keep hk (by simp)
  have hz:=inoAt (vT T i) (nT_len hok i)
  exact⟨ht.form hi,by rw[ht.field hi (j:=1) (by omega)];exact hz.f1,by rw[ht.field hi (j:=2) (by omega)];exact hz.f2,by rw[ht.field hi (j:=17) (by omega)];exact hz.f5⟩
 have HEE:Hid (∀i,i<32→∃g a cp,vT T i= .slice a (nT T i).E.length cp∧(nT T i).E.length≤cp∧cp≤maxLen∧∀j,j<(nT T i).E.length→∃of,a=some ⟨g,of,none⟩∧∀wx,Keeps [] W0 wx→wx.cell? ⟨g,of+j*2+1,none⟩=some (.int .i64 (eno (nT T i).E j))):=λi hi=>by
  obtain⟨g,hg⟩:=hE i hi
  obtain⟨a,cp,e,h1,h2,h3⟩:=hg.open
  refine⟨g,a,cp,e,h1,h2,λj hj=> ?_⟩
  obtain⟨h4,of,h5,-,h6⟩:=h3 j hj
  exact⟨of,h5,λwx hk=>(World.cell?_of_block (w:=w) (a:=⟨g,of+j*2+1,none⟩) (((hk1.trans' hk)).block g h4 (by simp))).trans h6⟩
 have HNU:Hid (∀i,i<32→∀j,j<(nT T i).E.length→0≤eno (nT T i).E j∧eno (nT T i).E j<32):=λi hi j hj=>hG.tabN (i:Int) _ ((succL_mem hi).2 ⟨j,hj,rfl⟩)
 have HK0:=Lib.hid hk1
 have HLE:Hid (PointP X T own 1→(PointP X T own 2↔(nT T 0).K=2∧∀k,k<32→∀j,j<(nT T k).E.length→(nT T (eno (nT T k).E j).toNat).F≠0)):=λha=>lead_ref hG ha
 have HRE:Hid (PointP X T own 1→(PointP X T own 4↔∀i:Nat,i<32→(nT T i).F≠0→Reach T 0 (i:Int))):=λha=>reach_ref hG ha
 have HLI:Hid (PointP X T own 3↔∀i:Nat,i<32→LinkP i (nT T i) (ledT T i)):=Iff.rfl
 have HGD:Hid (good=true↔PointP X T own 1):=hgood
 have HKI:Hid (∀i,(nT T i).K=0∨(nT T i).K=1∨(nT T i).K=2):=hG.kind
 have HFP:Hid (∀i,0≤(nT T i).F):=hG.fpos
 clear hR hX h64 hok hlen hE hO hG hgood hcell hk1 htv hbo hW0 hgl
 unfold maxLen at hc2
 generalize PointP X T own=pP at *
 have HW:Hid (∀(k:Nat) wx,FirstP pP k→k≤7→Keeps [] W0 wx→WrongPost w pP (.returned (.int .i64 (k:Int))) wx):=λk wx h1 h2 h3=>⟨k,rfl,h1,h2,HK0.out.trans' h3⟩
 clear HK0
 generalize tabC T=ZT at *
 generalize V.toArray=ZV at *
 go_enter Tryz.func12,Tryz.ntmps12
 go_wp2_with fail
 try rw[HW0.out]
 refine(HSU.out _ (Keeps.refl _ _)).mono ?_;rintro e w1 ⟨r0,rfl,hr0,hk1⟩
 have HK1:=Lib.hid hk1
 have HR0:=Lib.hid hr0
 clear hk1 hr0 HSU
 cases r0
 ·have HF:=Lib.hid (HW.out 1 w1 (.inr ⟨by omega,by omega,λh=>(by cases HR0.out.2 h),λj hj=>by omega⟩) (by omega) HK1.out)
  clear HW HR0 HBK HTA HBE HCO HLT HLV HCE HEE HNU HLE HRE HLI HGD HKI HFP
  go_wp2_with fail
  go_ret
  exact HF.out
 have HP0:Hid (pP 0):=HR0.out.1 rfl
 clear HR0
 cases good
 ·have HF:=Lib.hid (HW.out 2 w1 (.inr ⟨by omega,by omega,λh=>(by cases HGD.out.2 h),λj hj=>by
   obtain rfl:j=0:=by omega
   exact HP0.out⟩) (by omega) HK1.out)
  clear HW HBK HTA HBE HCO HLT HLV HCE HEE HNU HLE HRE HLI HGD HKI HFP HP0
  go_wp2_with fail
  go_ret
  exact HF.out
 have HP1:Hid (pP 1):=HGD.out.1 rfl
 have HLE2:=Lib.hid (HLE.out HP1.out)
 have HRE2:=Lib.hid (HRE.out HP1.out)
 have HNO3:Hid (∀wx,Keeps [] W0 wx→¬pP 2→WrongPost w pP (.returned (.int .i64 3)) wx):=λwx hk hn=>HW.out 3 wx (.inr ⟨by omega,by omega,hn,λj hj=>by
  rcases (show j=0∨j=1 by omega) with rfl|rfl
  ·exact HP0.out
  ·exact HP1.out⟩) (by omega) hk
 clear HGD HLE HRE
 obtain⟨-,cK0,-,-⟩:=HCE.out w1 HK1.out 0 (by omega)
 rw[Nat.zero_mul,Nat.zero_add] at cK0
 generalize hK0:(nT T 0).K=K0 at *
 by_cases hk2:K0=2
 rotate_left
 ·have hb:(K0 != 2)=true:=bne_iff_ne.2 hk2
  have HF:=Lib.hid (HNO3.out w1 HK1.out λh=>hk2 (HLE2.out.1 h).1)
  clear HW HBK HTA HBE HCO HLT HLV HCE HEE HNU HRE2 HLE2 HLI HKI HFP HP0 HP1 HNO3 hk2
  go_wp2_with fail
  go_ret
  exact HF.out
 subst hk2
 go_wp2_with fail
 clear cK0
 go_loopg [9] 32 (λgh s9 wx=>w1=wx∧∃k:Nat,k+gh=32∧s9= .int .i64 (k:Int)∧Hid (∀q,q<k→∀j,j<(nT T q).E.length→(nT T (eno (nT T q).E j).toNat).F≠0))
 case atStart=>exact⟨rfl,0,by omega,rfl,λq hq=>by omega⟩
 case round=>
  obtain⟨rfl,k,hk,rfl,HI⟩:=hrel
  cases gk with
  |succ gg=>
   have hki:(k:Int)<32:=by omega
   have hk0:(0:Int)≤(k:Int):=by omega
   have hk32:k<32:=by omega
   obtain⟨-,-,-,c17⟩:=HCE.out w1 HK1.out k hk32
   obtain⟨g,a,cp,hv,hcp,hcm,hcl⟩:=HEE.out k hk32
   rw[hv] at c17
   have HCL:=Lib.hid hcl
   have HNK:=Lib.hid (HNU.out k hk32)
   have HNX:Hid ((∀j,j<(nT T k).E.length→(nT T (eno (nT T k).E j).toNat).F≠0)→∀q,q<k+1→∀j,j<(nT T q).E.length→(nT T (eno (nT T q).E j).toNat).F≠0):=λhh q hq=>by
    by_cases e:q=k
    ·rw[e];exact hh
    ·exact HI.out q (by omega)
   have HNO:Hid (∀j,j<(nT T k).E.length→(nT T (eno (nT T k).E j).toNat).F=0→WrongPost w pP (.returned (.int .i64 3)) w1):=λj hj he=>HNO3.out w1 HK1.out λh=>(HLE2.out.1 h).2 k hk32 j hj he
   have HCF:=Lib.hid (λi hi=>(HCE.out w1 HK1.out i hi).1)
   clear hcl hv HI HW HBK HTA HBE HCO HLT HLV HCE HEE HNU HRE2 HLE2 HLI HKI HFP HP0 HP1 HNO3
   unfold maxLen at hcm
   generalize (nT T k).E=E at *
   obtain⟨m,hm⟩:∃m,E.length=m:=⟨_,rfl⟩
   rw[hm] at c17 hcp HCL HNK HNX HNO
   clear hm
   go_wp2_with fail
   go_loopg [10] m (λgh s10 wx=>w1=wx∧∃j:Nat,j+gh=m∧s10= .int .i64 (j:Int)∧Hid (∀q,q<j→(nT T (eno E q).toNat).F≠0))
   case atStart=>exact⟨rfl,0,by omega,rfl,λq hq=>by omega⟩
   case round=>
    obtain⟨rfl,j,hj,rfl,HJ⟩:=hrel
    cases gk with
    |zero=>
     obtain rfl:j=m:=by omega
     have HN:=Lib.hid (HNX.out HJ.out)
     clear HJ HNX HNO HCL HNK HCF
     go_wp2_with fail
     go_roundg gg
     case measure=>omega
     case rel=>exact⟨rfl,k+1,by omega,by go_num,HN.out⟩
    |succ g2=>
     have hjm:j<m:=by omega
     have hji:(j:Int)<(m:Int):=by omega
     have hj0:(0:Int)≤(j:Int):=by omega
     obtain⟨of,rfl,hc⟩:=HCL.out j hjm
     have cj:=hc w1 HK1.out
     have hy:=HNK.out j hjm
     have HJX:Hid ((nT T (eno E j).toNat).F≠0→∀q,q<j+1→(nT T (eno E q).toNat).F≠0):=λhh q hq=>by
      by_cases e:q=j
      ·rw[e];exact hh
      ·exact HJ.out q (by omega)
     have HJN:=Lib.hid (HNO.out j hjm)
     clear hc HJ HNX HNO HCL HNK
     generalize eno E j=yi at *
     obtain⟨y,rfl⟩:=Int.eq_ofNat_of_zero_le hy.1
     rw[Int.toNat_natCast] at HJX HJN
     have hy32:y<32:=by omega
     have hyi:(y:Int)<32:=by omega
     have hy0:(0:Int)≤(y:Int):=by omega
     have cF:=HCF.out y hy32
     clear hy HCF
     generalize (nT T y).F=F at *
     by_cases hF:F=0
     ·subst hF
      have HF:=Lib.hid (HJN.out rfl)
      clear HJX HJN
      go_wp2_with fail
      go_ret
      exact HF.out
     ·have hb:(F==0)=false:=by simpa using hF
      have HN:=Lib.hid (HJX.out hF)
      clear HJX HJN hF
      go_wp2_with fail
      go_roundg g2
      case measure=>omega
      case rel=>exact⟨rfl,j+1,by omega,by go_num,HN.out⟩
  |zero=>
   obtain rfl:k=32:=by omega
   have HP2:Hid (pP 2):=HLE2.out.2 ⟨(by first|trivial|rfl),HI.out⟩
   have HNO4:Hid (∀wx,Keeps [] W0 wx→¬pP 3→WrongPost w pP (.returned (.int .i64 4)) wx):=λwx hk hn=>HW.out 4 wx (.inr ⟨by omega,by omega,hn,λj hj=>by
    rcases (show j=0∨j=1∨j=2 by omega) with rfl|rfl|rfl
    ·exact HP0.out
    ·exact HP1.out
    ·exact HP2.out⟩) (by omega) hk
   clear HI HNO3 HLE2 HNU HEE hk
   go_wp2_with fail
   go_loopg [11] 32 (λgh s11 wx=>∃k:Nat,k+gh=32∧s11= .int .i64 (k:Int)∧Hid (Keeps [] W0 wx∧∀q,q<k→LinkP q (nT T q) (ledT T q)))
   case atStart=>exact⟨0,by omega,rfl,HK1.out,λq hq=>by omega⟩
   case round=>
    clear HK1
    obtain⟨k,hk,rfl,HI⟩:=hrel
    cases gk with
    |succ gg=>
     have hki:(k:Int)<32:=by omega
     have hk0:(0:Int)≤(k:Int):=by omega
     have hk32:k<32:=by omega
     have HL1:=Lib.hid (HLT.out _ HI.out.1)
     have HC1:=Lib.hid (HCO.out _ HI.out.1 k)
     have HCK:=Lib.hid (λwx (hk:Keeps [] wr wx)=>(HCE.out wx (HI.out.1.trans' hk) k hk32).2)
     have HNX:Hid (LinkP k (nT T k) (ledT T k)→∀q,q<k+1→LinkP q (nT T q) (ledT T q)):=λhh q hq=>by
      by_cases e:q=k
      ·rw[e];exact hh
      ·exact HI.out.2 q (by omega)
     have HNO:Hid (∀wx,Keeps [] wr wx→¬LinkP k (nT T k) (ledT T k)→WrongPost w pP (.returned (.int .i64 4)) wx):=λwx hk hn=>HNO4.out wx (HI.out.1.trans' hk) λh=>hn (HLI.out.1 h k hk32)
     have HKK:=Lib.hid (λwx (hk:Keeps [] wr wx)=>HI.out.1.trans' hk)
     have hK3:=HKI.out k
     clear HI HW HBK HTA HBE HCO HLT HLV HCE HRE2 HLI HKI HFP HP0 HP1 HP2 HNO4
     unfold LinkP at HNX HNO
     generalize (nT T k).K=K at *
     generalize (nT T k).L=L at *
     obtain⟨ci,hci⟩:∃ci:Int,(ledT T k:Int)=ci:=⟨_,rfl⟩
     have HCI:Hid (0≤ci∧(ledT T k:Int)=ci):=⟨by omega,hci⟩
     rw[hci] at HC1
     clear hci
     go_wp2_with((with_reducible show wpList _ _ _ (⟨_,.load 39 (.tmp 5),_,_,_,_⟩::_) _ _);refine wpList_load_any rfl 39 (.tmp 5) rfl _ rfl _ HL1.out ?_)
     refine HC1.out.mono ?_;rintro e w3 ⟨rfl,hk3⟩
     obtain⟨cK,cL,-⟩:=HCK.out w3 hk3
     have HN3:=Lib.hid (HNO.out w3 hk3)
     have HK3:=Lib.hid (HKK.out w3 hk3)
     clear HC1 HL1 HCK HNO HKK hk3
     rcases hK3 with rfl|rfl|rfl
     ·have hq:True:=trivial
      have HN:=Lib.hid (HNX.out ⟨(λh=>by omega),(λh=>by omega)⟩)
      clear HNX HN3 HCI
      go_wp2_with fail
      go_roundg gg
      case measure=>omega
      case rel=>exact⟨k+1,by omega,by go_num,HK3.out,HN.out⟩
     ·by_cases e1:ci<1
      ·have hq:True:=trivial
       have HF:=Lib.hid (HN3.out λh=>by have :=(h.1 (by first|trivial|rfl)).2;have :=HCI.out;omega)
       clear HNX HN3 HCI HK3
       go_wp2_with fail
       go_ret
       exact HF.out
      ·have hd1:decide (ci<1)=false:=by rw[decide_eq_false_iff_not];omega
       by_cases e2:ci=L
       ·have hb:(ci != L)=false:=by rw[e2];simp
        have HN:=Lib.hid (HNX.out ⟨λ_=>⟨HCI.out.2.trans e2,by have :=HCI.out;omega⟩,(λh=>by omega)⟩)
        clear e2 HNX HN3 HCI
        go_wp2_with fail
        go_roundg gg
        case measure=>omega
        case rel=>exact⟨k+1,by omega,by go_num,HK3.out,HN.out⟩
       ·have hb:(ci != L)=true:=bne_iff_ne.2 e2
        have HF:=Lib.hid (HN3.out λh=>e2 (HCI.out.2.symm.trans (h.1 (by first|trivial|rfl)).1))
        clear e2 HNX HN3 HCI HK3
        go_wp2_with fail
        go_ret
        exact HF.out
     ·by_cases e1:L=1
      ·subst e1
       by_cases e0:k=0
       ·subst e0
        by_cases e2:ci=0
        ·subst e2
         have HN:=Lib.hid (HNX.out ⟨(λh=>by omega),λ_=>⟨(by first|trivial|rfl),λ_=>by have :=HCI.out;omega,λh=>absurd (by first|trivial|rfl) h⟩⟩)
         clear HNX HN3 HCI
         go_wp2_with fail
         go_roundg gg
         case measure=>omega
         case rel=>exact⟨0+1,by omega,by go_num,HK3.out,HN.out⟩
        ·have hb:(ci != 0)=true:=bne_iff_ne.2 e2
         have HF:=Lib.hid (HN3.out λh=>e2 (by have :=(h.2 (by first|trivial|rfl)).2.1 (by first|trivial|rfl);have :=HCI.out;omega))
         clear e2 HNX HN3 HCI HK3
         go_wp2_with fail
         go_ret
         exact HF.out
       ·have hkb:((k:Int)==0)=false:=by rw[beq_eq_false_iff_ne];omega
        have hkp:(0:Int)<(k:Int):=by omega
        by_cases e2:ci=1
        ·subst e2
         have HN:=Lib.hid (HNX.out ⟨(λh=>by omega),λ_=>⟨(by first|trivial|rfl),λh=>absurd h e0,λ_=>by have :=HCI.out;omega⟩⟩)
         clear HNX HN3 HCI
         go_wp2_with fail
         go_roundg gg
         case measure=>omega
         case rel=>exact⟨k+1,by omega,by go_num,HK3.out,HN.out⟩
        ·have hb:(ci != 1)=true:=bne_iff_ne.2 e2
         have HF:=Lib.hid (HN3.out λh=>e2 (by have :=(h.2 (by first|trivial|rfl)).2.2 e0;have :=HCI.out;omega))
         clear e2 HNX HN3 HCI HK3
         go_wp2_with fail
         go_ret
         exact HF.out
      ·have hb:(L != 1)=true:=bne_iff_ne.2 e1
       have HF:=Lib.hid (HN3.out λh=>e1 (h.2 (by first|trivial|rfl)).1)
       clear e1 HNX HN3 HCI HK3
       go_wp2_with fail
       go_ret
       exact HF.out
    |zero=>
     obtain rfl:k=32:=by omega
     have HP3:Hid (pP 3):=HLI.out.2 HI.out.2
     have HK2:=Lib.hid HI.out.1
     have HNO5:Hid (∀wx,Keeps [] W0 wx→¬pP 4→WrongPost w pP (.returned (.int .i64 5)) wx):=λwx hk hn=>HW.out 5 wx (.inr ⟨by omega,by omega,hn,λj hj=>by
      rcases (show j=0∨j=1∨j=2∨j=3 by omega) with rfl|rfl|rfl|rfl
      ·exact HP0.out
      ·exact HP1.out
      ·exact HP2.out
      ·exact HP3.out⟩) (by omega) hk
     clear HI HNO4 HLI HCO HKI hk
     go_wp2_with fail
     go_loopg [13] 32 (λgh s13 wx=>∃k:Nat,k+gh=32∧s13= .int .i64 (k:Int)∧Hid (Keeps [] W0 wx∧∀q:Nat,q<k→(nT T q).F≠0→Reach T 0 (q:Int)))
     case atStart=>exact⟨0,by omega,rfl,HK2.out,λq hq=>by omega⟩
     case round=>
      clear HK2
      obtain⟨k,hk,rfl,HI⟩:=hrel
      cases gk with
      |succ gg=>
       have hki:(k:Int)<32:=by omega
       have hk0:(0:Int)≤(k:Int):=by omega
       have hk32:k<32:=by omega
       have HL1:=Lib.hid (HLT.out _ HI.out.1)
       have HB1:=Lib.hid (HBE.out _ HI.out.1 k)
       have cF:=(HCE.out wr HI.out.1 k hk32).1
       have HNX:Hid (((nT T k).F≠0→Reach T 0 (k:Int))→∀q:Nat,q<k+1→(nT T q).F≠0→Reach T 0 (q:Int)):=λhh q hq=>by
        by_cases e:q=k
        ·rw[e];exact hh
        ·exact HI.out.2 q (by omega)
       have HNO:Hid (∀wx,Keeps [] wr wx→¬((nT T k).F≠0→Reach T 0 (k:Int))→WrongPost w pP (.returned (.int .i64 5)) wx):=λwx hk hn=>HNO5.out wx (HI.out.1.trans' hk) λh=>hn (HRE2.out.1 h k hk32)
       have HKK:=Lib.hid HI.out.1
       have hFp:=HFP.out k
       clear HI HW HBK HTA HBE HLT HLV HCE HRE2 HFP HP0 HP1 HP2 HP3 HNO5
       generalize (nT T k).F=F at *
       generalize Reach T 0 (k:Int)=pR at *
       by_cases hF:0<F
       ·have hFn:F≠0:=by omega
        have HFN:=Lib.hid hFn
        clear hFn hFp
        go_wp2_with((with_reducible show wpList _ _ _ (⟨_,.load 39 (.tmp 5),_,_,_,_⟩::_) _ _);refine wpList_load_want (by first|rfl|simp[Region.wanted,yielded]) 39 (.tmp 5) rfl _ rfl _ HL1.out ?_)
        refine HB1.out.mono ?_;rintro e w3 ⟨r,rfl,hr,hk3⟩
        cases r
        ·have HF:=Lib.hid (HNO.out w3 hk3 λh=>(by cases hr.2 (h HFN.out)))
         clear HNX HNO HKK hr hk3 HB1 HL1 HFN
         go_wp2_with fail
         go_ret
         exact HF.out
        ·have HN:=Lib.hid (HNX.out λ_=>hr.1 rfl)
         have HK3:=Lib.hid (HKK.out.trans' hk3)
         clear HNX HNO HKK hr hk3 HB1 HL1 HFN
         go_wp2_with fail
         go_roundg gg
         case measure=>omega
         case rel=>exact⟨k+1,by omega,by go_num,HK3.out,HN.out⟩
       ·obtain rfl:F=0:=by omega
        have HN:=Lib.hid (HNX.out λh=>absurd rfl h)
        clear HNX HNO HB1 HL1 hF hFp
        go_wp2_with fail
        go_roundg gg
        case measure=>omega
        case rel=>exact⟨k+1,by omega,by go_num,HKK.out,HN.out⟩
      |zero=>
       obtain rfl:k=32:=by omega
       have HP4:Hid (pP 4):=HRE2.out.2 HI.out.2
       have HKK:=Lib.hid HI.out.1
       have HL1:=Lib.hid (HLT.out _ HI.out.1)
       have HV1:=Lib.hid (HLV.out _ HI.out.1)
       have HB1:=Lib.hid (HBK.out _ HI.out.1)
       clear HI HNO5 HRE2 HBE HCE HFP HBK HLV hk
       go_wp2_with(first|((with_reducible show wpList _ _ _ (⟨_,.load 39 (.tmp 5),_,_,_,_⟩::_) _ _);refine wpList_load_any rfl 39 (.tmp 5) rfl _ rfl _ HL1.out ?_)|((with_reducible show wpList _ _ _ (⟨_,.load 41 (.tmp 6),_,_,_,_⟩::_) _ _);refine wpList_load_any rfl 41 (.tmp 6) rfl _ rfl _ HV1.out ?_))
       refine HB1.out.mono ?_;rintro e w3 ⟨r,rfl,hr,hk3⟩
       have HK3:=Lib.hid (HKK.out.trans' hk3)
       have HR:=Lib.hid hr
       have HL3:=Lib.hid (HLT.out _ HK3.out)
       have HT3:=Lib.hid (HTA.out _ HK3.out)
       clear hr hk3 HKK HL1 HV1 HB1 HTA HLT
       cases r
       ·have HF:=Lib.hid (HW.out 6 w3 (.inr ⟨by omega,by omega,λh=>(by cases HR.out.2 h),λj hj=>by
         rcases (show j=0∨j=1∨j=2∨j=3∨j=4 by omega) with rfl|rfl|rfl|rfl|rfl
         ·exact HP0.out
         ·exact HP1.out
         ·exact HP2.out
         ·exact HP3.out
         ·exact HP4.out⟩) (by omega) HK3.out)
        clear HW HR HP0 HP1 HP2 HP3 HP4 HK3 HL3 HT3
        go_wp2_with fail
        go_ret
        exact HF.out
       ·have HP5:Hid (pP 5):=HR.out.1 rfl
        clear HR
        go_wp2_with((with_reducible show wpList _ _ _ (⟨_,.load 39 (.tmp 5),_,_,_,_⟩::_) _ _);refine wpList_load_any rfl 39 (.tmp 5) rfl _ rfl _ HL3.out ?_)
        refine HT3.out.mono ?_;rintro e w4 ⟨r,rfl,hr,hk4⟩
        have hall:∀j,j<6→pP j:=λj hj=>by
         rcases (show j=0∨j=1∨j=2∨j=3∨j=4∨j=5 by omega) with rfl|rfl|rfl|rfl|rfl|rfl
         ·exact HP0.out
         ·exact HP1.out
         ·exact HP2.out
         ·exact HP3.out
         ·exact HP4.out
         ·exact HP5.out
        cases r
        ·have HF:=Lib.hid (HW.out 7 w4 (.inr ⟨by omega,by omega,λh=>(by cases hr.2 h),λj hj=>hall j (by omega)⟩) (by omega) (HK3.out.trans' hk4))
         clear HW HP0 HP1 HP2 HP3 HP4 HP5 HK3 HL3 HT3 hr hk4 hall
         go_wp2_with fail
         go_ret
         exact HF.out
        ·have HF:=Lib.hid (HW.out 0 w4 (.inl ⟨rfl,λj hj=>by
          by_cases e:j=6
          ·rw[e];exact hr.1 rfl
          ·exact hall j (by omega)⟩) (by omega) (HK3.out.trans' hk4))
         clear HW HP0 HP1 HP2 HP3 HP4 HP5 HK3 HL3 HT3 hr hk4 hall
         go_wp2_with fail
         go_ret
         exact HF.out
theorem zero_words (w:World):(zeroValue 61).run Tryz.prog w= .ok (.agg (u64s (padW [])).toArray) w:=by kernel_rfl
theorem store_array {w:World} {g:Nat} {X:List Int} (hb:Blk w g (u64s X).toArray 61) (lx:X.length=3128) (Y:List Int) (ly:Y.length=3128):
  ∃w',(storeVar 61 ⟨g,0,none⟩ (.agg (u64s Y).toArray)).run Tryz.prog w= .ok () w'∧Blk w' g (u64s Y).toArray 61∧Keeps [g] w w':=by
 refine⟨_,run_storeVar_cells g 0 (u64s Y) _ (by rw[u64s_len,ly];exact size_words) hb (by rw[List.size_toArray,u64s_len,u64s_len];omega) (u64s_one Y),?_,(Keeps.refl _ _).setRow (by simp) _⟩
 have e:((u64s X).toArray.toList.take 0++u64s Y++(u64s X).toArray.toList.drop (0+(u64s Y).length)).toArray=(u64s Y).toArray:=by
  rw[List.take_zero,List.nil_append,List.drop_of_length_le (by rw[u64s_len,u64s_len];omega),List.append_nil]
 rw[e]
 exact setRow_blk hb
theorem blk_reads {w:World} {g T:Nat} {Y:List Int} {n:Nat} (hb:Blk w g (u64s Y).toArray T) (hn:Y.length=n) (hm:n≤maxLen):Reads w (.slice (some ⟨g,0,none⟩) n n) g (u64s Y):=by
 refine⟨some ⟨g,0,none⟩,n,by rw[u64s_len,hn],by rw[u64s_len,hn];exact Nat.le_refl _,hm,λ_=>⟨hb.lt,0,rfl,λj hj=> ?_⟩⟩
 rw[hb.cell,Nat.zero_add]
 simp
set_option maxHeartbeats 1000000 in
theorem txWords_raw {w:World} {b gp:Nat} {B X:List Int} {us:List (Int×Int)} (h:ShRaw w b gp B X us):
  Calls Tryz.prog 9 #[.pointer (some ⟨b,0,none⟩)] w (MadeWords w X):=by
 obtain⟨lb,lx,vp,h1,h2,h3⟩:=h
 have HL:=Lib.hid (load_words h1 lb lx)
 have hz:=zero_words
 obtain⟨w2,hr2,hb2,hk2⟩:=store_array (Blk.new w (u64s (padW [])).toArray 61) (padW_len []) X lx
 have HR2:=Lib.hid hr2
 have HM:Hid (MadeWords w X (.returned (.slice (some ⟨w.heap.size,0,none⟩) 3128 3128)) w2):=
  ⟨_,w.heap.size,rfl,blk_reads hb2 lx (by simp[maxLen]),Nat.le_refl _,((Keeps.refl [] w).alloc _).trans hk2 (by simp)⟩
 clear h1 h2 h3 hr2 hb2 hk2 lb lx
 generalize (u64s (padW [])).toArray=Z at *
 generalize (u64s X).toArray=Y at *
 go_enter Tryz.func9,Tryz.ntmps9
 go_wp2_with(first|((with_reducible show wpList _ _ _ (⟨_,.load 61 (.tmp 6),_,_,_,_⟩::_) _ _);refine wpList_load_any rfl 61 (.tmp 6) rfl _ rfl _ HL.out ?_)|((with_reducible show wpList _ _ _ (⟨_,.store 61 (.tmp 3) (.tmp 7),_,_,_,_⟩::_) _ _);refine wpList_store_any rfl 61 (.tmp 3) (.tmp 7) rfl _ rfl _ rfl _ HR2.out ?_))
 go_ret
 exact HM.out
theorem txWords_at {w:World} {b gp:Nat} {B:List Int} {ps:List (Int×Int)} (h:ShAt w b gp B ps):
  Calls Tryz.prog 9 #[.pointer (some ⟨b,0,none⟩)] w (MadeWords w (putAll B ps)):=txWords_raw h.raw
end Go.Proofs.YtphojondgfjmgaaGreatDoor
