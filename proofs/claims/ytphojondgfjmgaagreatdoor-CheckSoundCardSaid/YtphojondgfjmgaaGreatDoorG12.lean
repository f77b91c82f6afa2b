/-
  Layer 7 (fmt2): seeming. Layer 7 (fmt2): Read. Layer 7 (fmt2), plain: what is laid is read again. Layer 8 (inode), plain: where an inode lies, whatever its format; what giving back and putting make of the words. Layer 8 (inode), plain: what putting an inode makes of the words. Layer 7 (fmt2): Read, the walk. Layer 8 (inode): isInode, formatOf, what a format does at a place, Free.
-/
import Derived.Test.YtphojondgfjmgaaGreatDoorG01
import Derived.Test.YtphojondgfjmgaaGreatDoorG11
import Derived.Test.YtphojondgfjmgaaGreatDoorG07
import Derived.Test.YtphojondgfjmgaaGreatDoorG08
import Derived.Test.YtphojondgfjmgaaGreatDoorG09
import Derived.Test.YtphojondgfjmgaaGreatDoorG10
namespace Go.Proofs.YtphojondgfjmgaaGreatDoor
open Go.RowKit
def SeemsP (X L:List Int) (n:Ino) (own:List Nat):Prop:=
 ((tagN L).K=1∧∃l,SeemFile X L l own∧n={ tagN L with B:=l })∨
 ((tagN L).K=2∧∃E E',seemD X L=some (own,E)∧SeemOk own E∧E'.Perm E∧(∀i j,i<j→j<E'.length→Op.bytesLess (enm E' j).toList (enm E' i).toList=false)∧n={ tagN L with E:=E' })
def SeemingPost (w:World) (X L:List Int) (e:Ending) (w':World):Prop:=
 ∃n v g own vo go ok,e= .returned (.tuple #[.agg (inoC n v),vo,.bool ok])∧n.B.length=13∧EReads w' v g n.E∧w.heap.size≤g∧RowI w' vo go own∧w.heap.size≤go∧Keeps [] w w'∧
  (ok=true→SeemsP X L n own∧own.length≤24∧(∀c,c∈own→0<c∧c<256)∧n.E.length≤72∧∀k,k<n.E.length→(enm n.E k).size≤7)∧(ok=false→∀n' own',¬SeemsP X L n' own')
theorem perm_size {E E':List (ByteArray×Int)} {own:List Nat} (h:SeemOk own E) (hp:E'.Perm E):E'.length≤72∧∀k,k<E'.length→(enm E' k).size≤7:=by
 refine⟨by have :=hp.length_eq;have :=h.ents;have :=h.len;omega,λk hk=> ?_⟩
 exact h.size _ (hp.mem_iff.1 (e_mem hk))
theorem seemF_num {X L l:List Int} {own:List Nat} (h:SeemFile X L l own):own.length≤24∧∀c,c∈own→0<c∧c<256:=by
 rcases h with ⟨-,rfl,-⟩|⟨b,-,h1,h2,rfl,-⟩
 ·exact⟨by simp,λc hc=>by simp at hc⟩
 ·exact⟨by simp,λc hc=>by rw[List.mem_singleton] at hc;omega⟩
set_option maxRecDepth 100000 in
set_option maxHeartbeats 8000000 in
theorem seeming_at {w:World} {b gp:Nat} {B:List Int} {ps:List (Int×Int)} (hSh:ShAt w b gp B ps) (hX64:W64 (putAll B ps)) {L:List Int} (hL:L.length=8) (hL64:W64 L):
  Calls Tryz.prog 83 #[.pointer (some ⟨b,0,none⟩),.agg (u64s L).toArray] w (SeemingPost w (putAll B ps) L):=by
 obtain⟨W0,hW0⟩:∃W0,W0=(w.alloc (.cells (u64s L).toArray 74)).alloc (.cells (inoC inoZ (.slice none 0 0)) 37):=⟨_,rfl⟩
 have hb3:Blk W0 w.heap.size (u64s L).toArray 74 :=by
  rw[hW0]
  exact(Blk.new w _ _).alloc _
 have hbR:Blk W0 (w.heap.size+1) (inoC inoZ (.slice none 0 0)) 37 :=by
  have :=Blk.new (w.alloc (.cells (u64s L).toArray 74)) (inoC inoZ (.slice none 0 0)) 37
  have e:(w.alloc (.cells (u64s L).toArray 74)).heap.size=w.heap.size+1:=by simp
  rw[e] at this
  rw[hW0]
  exact this
 have hk0:Keeps [] w W0:=by
  rw[hW0]
  exact((Keeps.refl _ _).alloc _).alloc _
 have hzv:=zero_ino
 have HL0:=Lib.hid (load_r8 hb3 hL)
 have HTG:=Lib.hid (tagged_at L hL (hL64 0) (hL64 1) W0)
 have HW0:=Lib.hid hW0
 have HK0:=Lib.hid hk0
 have HB3:=Lib.hid hb3
 have HBR:=Lib.hid hbR
 have HSF:Hid (∀wx,Keeps [] w wx→Calls Tryz.prog 98 #[.pointer (some ⟨b,0,none⟩),.agg (u64s L).toArray] wx (SeemFPost wx (putAll B ps) L)):=λwx hk=>by
  have h7:=hL64 7
  by_cases h:L.getD 7 0<9223372036854775808
  ·exact seemFile_none hL hL64 h
  ·by_cases hb:L.getD 7 0-9223372036854775808=0∨256≤L.getD 7 0-9223372036854775808
   ·exact seemFile_bad hL (bi:=L.getD 7 0-9223372036854775808) (by omega) (by omega) hb h7.2
   ·exact seemFile_some (hSh.keep hk (by simp) (by simp)) hX64 hL hL64 (c:=(L.getD 7 0-9223372036854775808).toNat) (by omega) (by omega) (by omega)
 have HSD:Hid (∀wx,Keeps [] w wx→Calls Tryz.prog 99 #[.pointer (some ⟨b,0,none⟩),.agg (u64s L).toArray] wx (SeemDPost wx (putAll B ps) L)):=λwx hk=>seemDir_at (hSh.keep hk (by simp) (by simp)) hX64 hL hL64
 have HL:=Lib.hid hL
 have hs0:W0.heap.size=w.heap.size+1+1:=by rw[hW0];simp
 have hB13:(tagN L).B.length=13:=by simp[tagN]
 have HTL:Hid ((tagN L).E=[]∧(tagN L).B=List.replicate 13 0):=⟨rfl,rfl⟩
 clear hb3 hbR hk0 hW0 hSh hX64 hL hL64
 generalize putAll B ps=X at *
 generalize hzl:(u64s L).toArray=ZL at *
 have HZL:=Lib.hid hzl
 clear hzl
 obtain⟨n0,hn0⟩:∃n0,n0=tagN L:=⟨_,rfl⟩
 rw[←hn0] at HTG hB13 HTL
 have HN0:=Lib.hid hn0
 clear hn0
 generalize hz0:inoC inoZ (.slice none 0 0)=Z0 at *
 have HZ0:=Lib.hid hz0
 clear hz0
 have hz18:Z0.size=18:=by rw[←HZ0.out];rfl
 go_enter Tryz.func83,Tryz.ntmps83
 go_wp2_with((with_reducible show wpList _ _ _ (⟨_,.load 74 (.tmp 3),_,_,_,_⟩::_) _ _);rw[←HW0.out];refine wpList_load_any rfl 74 (.tmp 3) rfl _ rfl _ HL0.out ?_)
 refine HTG.out.mono ?_;rintro e w1 ⟨rfl,hk1⟩
 obtain⟨w2,hS1,hb7,hk2⟩:=store_whole (P:= Tryz.prog) (ty:= 37) (cs:=inoL n0 (.slice none 0 0)) (by rw[inoL_len,hB13];exact size_ino) (Blk.new w1 Z0 37) (by rw[hz18,inoL_len,hB13]) (inoL_one rfl)
 have hz1:=hk1.size
 have hb7':Blk w2 w1.heap.size (inoC n0 (.slice none 0 0)) 37 :=hb7
 have cK:w2.cell? ⟨w1.heap.size,1,none⟩=some (.int .i64 n0.K):=by rw[hb7'.cell];exact(inoAt _ hB13).f1
 have HK2:Hid (Keeps [] W0 w2):=(hk1.alloc (.cells Z0 37)).trans hk2 (by intro x hx;rw[List.mem_singleton] at hx;omega)
 have HFIN:Hid (∀wz n v g own vo go ok,Keeps [w1.heap.size] w2 wz→Blk wz w1.heap.size (inoC n v) 37→n.B.length=13→EReads wz v g n.E→w.heap.size≤g→(n.E.length≠0→g≠w.heap.size+1)→RowI wz vo go own→w.heap.size≤go→go≠w.heap.size+1→
   (ok=true→SeemsP X L n own∧own.length≤24∧(∀c,c∈own→0<c∧c<256)∧n.E.length≤72∧∀k,k<n.E.length→(enm n.E k).size≤7)→(ok=false→∀n' own',¬SeemsP X L n' own')→
   (loadVar 37 ⟨w1.heap.size,0,none⟩).run Tryz.prog wz= .ok (.agg (inoC n v)) wz∧∃w',(storeVar 37 ⟨w.heap.size+1,0,none⟩ (.agg (inoC n v))).run Tryz.prog wz= .ok () w'∧(loadVar 37 ⟨w.heap.size+1,0,none⟩).run Tryz.prog w'= .ok (.agg (inoC n v)) w'∧SeemingPost w X L (.returned (.tuple #[.agg (inoC n v),vo,.bool ok])) w'):=by
  intro wz n v g own vo go ok hk hb hn hE hg hgR hO hgo hgoR h1 h2
  have hv1:v.oneCell'=true:=by
   obtain⟨a,c,rfl,-⟩:=hE
   rfl
  obtain⟨w',q1,q2,q3⟩:=store_whole (P:= Tryz.prog) (ty:= 37) (cs:=inoL n v) (by rw[inoL_len,hn];exact size_ino) ((HBR.out.keep HK2.out (by simp)).keep hk (by rw[List.mem_singleton];omega)) (by rw[hz18,inoL_len,hn]) (inoL_one hv1)
  refine⟨load_ino hb hn,w',q1,load_ino q2 hn,n,v,g,own,vo,go,ok,rfl,hn,hE.keep q3 (λh0=>by rw[List.mem_singleton];exact hgR h0),hg,hO.keep q3 (by rw[List.mem_singleton];exact hgoR),hgo,?_,h1,h2⟩
  exact((HK0.out.trans' HK2.out).trans hk (by intro x hx;rw[List.mem_singleton] at hx;omega)).trans q3 (by intro x hx;rw[List.mem_singleton] at hx;omega)
 have HS1:=Lib.hid hS1
 have HB7:=Lib.hid hb7'
 have HL3:Hid ((loadVar 74 ⟨w.heap.size,0,none⟩).run Tryz.prog w2= .ok (.agg ZL) w2):=by
  have :=HB3.out.keep HK2.out (by simp)
  rw[←HZL.out] at this ⊢
  exact load_r8 this HL.out
 have HZ1:=Lib.hid hz1
 have HKW2:=Lib.hid (HK0.out.trans' HK2.out)
 clear hS1 hb7 hb7' hk2 hk1 hz1 HTG HL0
 generalize hg7:w1.heap.size=g7 at *
 by_cases hK1:n0.K=1
 ·rw[hK1] at cK
  go_wp2_with(first|((with_reducible show wpList _ _ _ (⟨_,.store 37 (.tmp 7) (.tmp 11),_,_,_,_⟩::_) _ _);refine wpList_store_any rfl 37 (.tmp 7) (.tmp 11) rfl _ rfl _ rfl _ HS1.out ?_)|((with_reducible show wpList _ _ _ (⟨_,.load 74 (.tmp 3),_,_,_,_⟩::_) _ _);refine wpList_load_any rfl 74 (.tmp 3) rfl _ rfl _ HL3.out ?_))
  refine(HSF.out _ HKW2.out).mono ?_
  rintro e w3 ⟨l,vo,go,own,ok,rfl,hl13,hro,hgo,hown,hk3,h1,h2⟩
  obtain⟨w4,hS4,hb4,hk4⟩:=store_B (HB7.out.keep hk3 (by simp)) hB13 hl13
  have hz2:w.heap.size+1<w2.heap.size:=by have :=HK2.out.size;omega
  obtain⟨hld,w5,hS5,hL5,hP5⟩:=HFIN.out w4 { n0 with B:=l } (.slice none 0 0) w.heap.size own vo go ok ((hk3.mono (by simp)).trans' hk4) hb4 hl13 (by
   show EReads w4 _ _ n0.E
   rw[HTL.out.1]
   exact EReads.nil _ _) (Nat.le_refl _) (by
   show n0.E.length≠0→_
   rw[HTL.out.1]
   intro h;exact absurd rfl h) (hro.keep hk4 (by have :=HB7.out.lt;rw[List.mem_singleton];omega)) (by have :=HKW2.out.size;omega) (by omega) (λhok=>by
    have hs:=h1 hok
    refine⟨.inl ⟨by rw[←HN0.out];exact hK1,l,hs,by rw[←HN0.out]⟩,(seemF_num hs).1,(seemF_num hs).2,?_,?_⟩
    ·show n0.E.length≤72
     rw[HTL.out.1];simp
    ·show ∀k,k<n0.E.length→_
     rw[HTL.out.1];intro k hk;simp at hk) (λhok n' own' hs=>by
    rcases hs with ⟨-,l',hs,-⟩|⟨hK2,-⟩
    ·exact h2 hok l' own' hs
    ·rw[←HN0.out] at hK2;omega)
  have HS4:=Lib.hid hS4
  have HLD:=Lib.hid hld
  have HS5:=Lib.hid hS5
  have HL5:=Lib.hid hL5
  have HP5:=Lib.hid hP5
  clear hS4 hb4 hk4 hld hS5 hL5 hP5 hro hgo hown hk3 h1 h2
  generalize inoC { n0 with B:=l } (.slice none 0 0)=ZN at *
  go_wp2_with(first|((with_reducible show wpList _ _ _ (⟨_,.store 34 (.tmp 23) (.tmp 20),_,_,_,_⟩::_) _ _);refine wpList_store_any rfl 34 (.tmp 23) (.tmp 20) rfl _ rfl _ rfl _ HS4.out ?_)|((with_reducible show wpList _ _ _ (⟨_,.load 37 (.tmp 7),_,_,_,_⟩::_) _ _);refine wpList_load_any rfl 37 (.tmp 7) rfl _ rfl _ HLD.out ?_)|((with_reducible show wpList _ _ _ (⟨_,.store 37 (.tmp 4) (.tmp 34),_,_,_,_⟩::_) _ _);refine wpList_store_any rfl 37 (.tmp 4) (.tmp 34) rfl _ rfl _ rfl _ HS5.out ?_))
  exact bodyPost_ret (results_cell3 Tryz.results83 rfl HL5.out rfl rfl) rfl HP5.out
 ·by_cases hK2:n0.K=2
  ·rw[hK2] at cK
   have hz2:w.heap.size+1<w2.heap.size:=by have :=HK2.out.size;omega
   go_wp2_with(first|((with_reducible show wpList _ _ _ (⟨_,.store 37 (.tmp 7) (.tmp 11),_,_,_,_⟩::_) _ _);refine wpList_store_any rfl 37 (.tmp 7) (.tmp 11) rfl _ rfl _ rfl _ HS1.out ?_)|((with_reducible show wpList _ _ _ (⟨_,.load 74 (.tmp 3),_,_,_,_⟩::_) _ _);refine wpList_load_any rfl 74 (.tmp 3) rfl _ rfl _ HL3.out ?_))
   refine(HSD.out _ HKW2.out).mono ?_
   rintro e w3 (⟨own,E,E',ve,ge,vo,go,rfl,hsd,hso,hpm,hst,hre,hge,hro,hgo,hk3⟩|⟨rfl,hsd,hk3⟩)
   ·have hb3':=HB7.out.keep hk3 (by simp)
    have hb4:=store_E (u:=ve) (E:=E') hb3' hB13
    have hk4:Keeps [g7] w3 (w3.setCell ⟨g7,17,none⟩ ve):=(Keeps.refl _ _).setCell (.inl (by simp)) _
    have hps:=perm_size hso hpm
    have hlt7:=HB7.out.lt
    obtain⟨hld,w5,hS5,hL5,hP5⟩:=HFIN.out (w3.setCell ⟨g7,17,none⟩ ve) { n0 with E:=E' } ve ge own vo go true ((hk3.mono (by simp)).trans' hk4) hb4 hB13 (hre.keep hk4 (λ_=>by rw[List.mem_singleton];omega)) (by omega) (λ_=>by omega) (hro.keep hk4 (by rw[List.mem_singleton];omega)) (by omega) (by omega) (λ_=>⟨.inr ⟨by rw[←HN0.out];exact hK2,E,E',hsd,hso,hpm,hst,by rw[←HN0.out]⟩,hso.len,hso.num,hps.1,hps.2⟩) (λh=>by cases h)
    have c17:w3.cell? ⟨g7,17,none⟩=some (.slice none 0 0):=by rw[hb3'.cell];exact inoC_E _ hB13
    have f17:w3.frozen? ⟨g7,17,none⟩=false:=hb3'.frozen 17
    obtain⟨ae,ce,rfl,-,-,-⟩:=hre.open
    have HLD:=Lib.hid hld
    have HS5:=Lib.hid hS5
    have HL5:=Lib.hid hL5
    have HP5:=Lib.hid hP5
    clear hb3' hb4 hk4 hps hld hS5 hL5 hP5 hsd hso hpm hst hre hge hro hgo hk3
    generalize inoC { n0 with E:=E' } (.slice ae E'.length ce)=ZN at *
    go_wp2_with(first|((with_reducible show wpList _ _ _ (⟨_,.load 37 (.tmp 7),_,_,_,_⟩::_) _ _);refine wpList_load_any rfl 37 (.tmp 7) rfl _ rfl _ HLD.out ?_)|((with_reducible show wpList _ _ _ (⟨_,.store 37 (.tmp 4) (.tmp 34),_,_,_,_⟩::_) _ _);refine wpList_store_any rfl 37 (.tmp 4) (.tmp 34) rfl _ rfl _ rfl _ HS5.out ?_))
    exact bodyPost_ret (results_cell3 Tryz.results83 rfl HL5.out rfl rfl) rfl HP5.out
   ·have hb3':=HB7.out.keep hk3 (by simp)
    have hb4:=store_E (u:= .slice none 0 0) (E:=[]) hb3' hB13
    have hk4:Keeps [g7] w3 (w3.setCell ⟨g7,17,none⟩ (.slice none 0 0)):=(Keeps.refl _ _).setCell (.inl (by simp)) _
    obtain⟨hld,w5,hS5,hL5,hP5⟩:=HFIN.out (w3.setCell ⟨g7,17,none⟩ (.slice none 0 0)) { n0 with E:=[] } (.slice none 0 0) w.heap.size [] (.slice none 0 0) w.heap.size false ((hk3.mono (by simp)).trans' hk4) hb4 hB13 (EReads.nil _ _) (Nat.le_refl _) (λh=>absurd rfl h) (RowI.nil _ _) (Nat.le_refl _) (by omega) (λh=>by cases h) (λ_ n' own' hs=>by
     rcases hs with ⟨hK1',-⟩|⟨-,E,E',hs,-⟩
     ·rw[←HN0.out] at hK1';omega
     ·rw[hsd] at hs;cases hs)
    have c17:w3.cell? ⟨g7,17,none⟩=some (.slice none 0 0):=by rw[hb3'.cell];exact inoC_E _ hB13
    have f17:w3.frozen? ⟨g7,17,none⟩=false:=hb3'.frozen 17
    have HLD:=Lib.hid hld
    have HS5:=Lib.hid hS5
    have HL5:=Lib.hid hL5
    have HP5:=Lib.hid hP5
    clear hb3' hb4 hk4 hld hS5 hL5 hP5 hsd hk3
    generalize inoC { n0 with E:=[] } (.slice none 0 0)=ZN at *
    go_wp2_with(first|((with_reducible show wpList _ _ _ (⟨_,.load 37 (.tmp 7),_,_,_,_⟩::_) _ _);refine wpList_load_any rfl 37 (.tmp 7) rfl _ rfl _ HLD.out ?_)|((with_reducible show wpList _ _ _ (⟨_,.store 37 (.tmp 4) (.tmp 34),_,_,_,_⟩::_) _ _);refine wpList_store_any rfl 37 (.tmp 4) (.tmp 34) rfl _ rfl _ rfl _ HS5.out ?_))
    exact bodyPost_ret (results_cell3 Tryz.results83 rfl HL5.out rfl rfl) rfl HP5.out
  ·have hK1':(n0.K==1)=false:=by simpa using hK1
   have hK2':(n0.K==2)=false:=by simpa using hK2
   obtain⟨hld,w5,hS5,hL5,hP5⟩:=HFIN.out w2 n0 (.slice none 0 0) w.heap.size [] (.slice none 0 0) w.heap.size false (Keeps.refl _ _) HB7.out hB13 (by rw[HTL.out.1];exact EReads.nil _ _) (Nat.le_refl _) (by rw[HTL.out.1];intro h;exact absurd rfl h) (RowI.nil _ _) (Nat.le_refl _) (by omega) (λh=>by cases h) (λ_ n' own' hs=>by
    rcases hs with ⟨h1,-⟩|⟨h1,-⟩
    ·rw[←HN0.out] at h1;exact hK1 h1
    ·rw[←HN0.out] at h1;exact hK2 h1)
   have HLD:=Lib.hid hld
   have HS5:=Lib.hid hS5
   have HL5:=Lib.hid hL5
   have HP5:=Lib.hid hP5
   clear hld hS5 hL5 hP5
   generalize n0.K=K at *
   go_wp2_with(first|((with_reducible show wpList _ _ _ (⟨_,.store 37 (.tmp 7) (.tmp 11),_,_,_,_⟩::_) _ _);refine wpList_store_any rfl 37 (.tmp 7) (.tmp 11) rfl _ rfl _ rfl _ HS1.out ?_)|((with_reducible show wpList _ _ _ (⟨_,.load 37 (.tmp 7),_,_,_,_⟩::_) _ _);refine wpList_load_any rfl 37 (.tmp 7) rfl _ rfl _ HLD.out ?_)|((with_reducible show wpList _ _ _ (⟨_,.store 37 (.tmp 4) (.tmp 34),_,_,_,_⟩::_) _ _);refine wpList_store_any rfl 37 (.tmp 4) (.tmp 34) rfl _ rfl _ rfl _ HS5.out ?_))
   exact bodyPost_ret (results_cell3 Tryz.results83 rfl HL5.out rfl rfl) rfl HP5.out
def ReadP (X:List Int) (i:Int) (n:Ino) (own:List Nat):Prop:=
 (0≤i∧i<32)∧SeemsP X (inoAtX X i) n own∧n.F=2∧RightP n∧own.length=needF n∧IsLaidP X (inoAtX X i) n own
def Read2Post (w:World) (X:List Int) (i:Int) (e:Ending) (w':World):Prop:=
 ∃n v g own vo go ok,e= .returned (.tuple #[.agg (inoC n v),vo,.bool ok])∧n.B.length=13∧EReads w' v g n.E∧w.heap.size≤g∧RowI w' vo go own∧w.heap.size≤go∧Keeps [] w w'∧
  (ok=true→ReadP X i n own∧own.length≤24∧(∀c,c∈own→0<c∧c<256)∧n.E.length≤72∧∀k,k<n.E.length→(enm n.E k).size≤7)∧(ok=false→n=inoZ∧own=[]∧∀n' own',¬ReadP X i n' own')
theorem SeemsP.inj {X L:List Int} {n n':Ino} {own own':List Nat} (h:SeemsP X L n own) (h':SeemsP X L n' own'):own'=own∧(n=n'∨(tagN L).K=2):=by
 rcases h with ⟨h1,l,h2,rfl⟩|⟨h1,E,E',h2,-⟩
 ·rcases h' with ⟨g1,l',g2,rfl⟩|⟨g1,-⟩
  ·obtain⟨rfl,rfl⟩:=h2.inj g2
   exact⟨rfl,.inl rfl⟩
  ·omega
 ·rcases h' with ⟨g1,-⟩|⟨g1,F,F',g2,-⟩
  ·omega
  ·rw[h2] at g2
   cases g2
   exact⟨rfl,.inr h1⟩
theorem sorted_eq {lt:ByteArray×Int→ByteArray×Int→Bool}:∀(l2 l1:List (ByteArray×Int)),l1.Perm l2→l1.Pairwise (λa b=>lt b a=false)→l2.Pairwise (λa b=>lt a b=true)→l1=l2
 | [],l1,hp,_,_=>hp.eq_nil
 |b::t2,[],hp,_,_=>by have :=hp.length_eq;simp at this
 |b::t2,a::t1,hp,h1,h2=>by
  rw[List.pairwise_cons] at h1 h2
  by_cases e:a=b
  ·subst e
   rw[sorted_eq t2 t1 (List.Perm.cons_inv hp) h1.2 h2.2]
  ·exfalso
   have ha:a∈t2:=by
    rcases List.mem_cons.1 (hp.mem_iff.1 (List.mem_cons_self ..)) with h|h
    ·exact absurd h e
    ·exact h
   have hb:b∈t1:=by
    rcases List.mem_cons.1 (hp.mem_iff.2 (List.mem_cons_self ..)) with h|h
    ·exact absurd h.symm e
    ·exact h
   have e1:=h2.1 a ha
   have e2:=h1.1 b hb
   rw[e1] at e2
   cases e2
theorem getE (E:List (ByteArray×Int)) (i:Nat) (h:i<E.length):E[i]=(enm E i,eno E i):=by
 simp[enm,eno,List.getD_eq_getElem?_getD,h]
theorem dir_sorted {n:Ino} (h:DirP n):n.E.Pairwise (λa b=>Op.bytesLess a.1.toList b.1.toList=true):=by
 have hadj:∀k,k+1<n.E.length→Op.bytesLess (enm n.E k).toList (enm n.E (k+1)).toList=true:=λk hk=>by
  have h1:=(h.2.2.2 (k+1) hk).2.2 (by omega)
  rw[Nat.add_sub_cancel,leB,Bool.or_eq_false_iff] at h1
  exact less_total _ _ h1.1 (λe=>by have :=h1.2;rw[e] at this;simp at this)
 have hall:∀d i,i+1+d<n.E.length→Op.bytesLess (enm n.E i).toList (enm n.E (i+1+d)).toList=true:=by
  intro d
  induction d with
  |zero=>exact λi hi=>hadj i hi
  |succ d ih=>exact λi hi=>less_trans _ _ _ (ih i (by omega)) (hadj (i+1+d) hi)
 rw[List.pairwise_iff_getElem]
 intro i j hi hj hij
 rw[getE _ i hi,getE _ j hj]
 have :=hall (j-i-1) i (by omega)
 rwa[show i+1+(j-i-1)=j by omega] at this
theorem SeemsP.uniq {X L:List Int} {n n':Ino} {own own':List Nat} (h:SeemsP X L n own) (h':SeemsP X L n' own') (hR:RightP n'):n'=n∧own'=own:=by
 rcases h with ⟨h1,l,h2,rfl⟩|⟨h1,E,E',h2,-,h3,h4,rfl⟩
 ·rcases h' with ⟨g1,l',g2,rfl⟩|⟨g1,-⟩
  ·obtain⟨rfl,rfl⟩:=h2.inj g2
   exact⟨rfl,rfl⟩
  ·omega
 ·rcases h' with ⟨g1,-⟩|⟨g1,F,F',g2,-,g3,g4,rfl⟩
  ·omega
  ·rw[h2] at g2
   cases g2
   have hd:DirP { tagN L with E:=F' }:=(hR.2.2.resolve_left (λh=>by have :(tagN L).K=1:=h.1;omega)).2
   have e:E'=F':=by
    refine sorted_eq (lt:=λa b=>Op.bytesLess a.1.toList b.1.toList) F' E' (h3.trans g3.symm) ?_ (dir_sorted hd)
    rw[List.pairwise_iff_getElem]
    intro i j hi hj hij
    rw[getE _ i hi,getE _ j hj]
    exact h4 i j hij hj
   subst e
   exact⟨rfl,rfl⟩
def GoodE (E:List (ByteArray×Int)):Prop:=∀k,k<E.length→goodN (bl (enm E k))=true∧0≤eno E k∧eno E k≤31
theorem blk_ents {c:List (ByteArray×Int)} (h3:c.length≤3) (hg:GoodE c) (x:Int):cntE (blkX (wordsE c) x)=c.length∧EntsLOk (entsOfR (blkX (wordsE c) x)) (cntE (blkX (wordsE c) x))∧entsL (entsOfR (blkX (wordsE c) x)) (cntE (blkX (wordsE c) x))=c:=by
 have hcnt:cntE (blkX (wordsE c) x)=c.length:=by
  refine cntE_stop h3 (λj hj=> ?_) ?_
  ·rw[blkX_succ,Nat.mul_comm,(wordsE_get c j hj).1]
   have :=word_big (hg j hj).1
   omega
  ·rcases (show c.length=3∨c.length<3 by omega) with h|h
   ·exact .inl h
   ·right
    rw[blkX_succ,List.getD_eq_getElem?_getD,List.getElem?_eq_none (by rw[wordsE_len];omega)]
    rfl
 have hget:∀i,i<2*c.length→(entsOfR (blkX (wordsE c) x)).getD i 0=(wordsE c).getD i 0:=λi hi=>by
  rw[←blkX_succ (wordsE c) x i,entsOfR,hcnt,List.getD_eq_getElem?_getD,List.getElem?_take,if_pos hi,List.getElem?_drop,List.getD_eq_getElem?_getD,Nat.add_comm]
 have hw:∀k,k<c.length→(entsOfR (blkX (wordsE c) x)).getD (k*2) 0=((wordV (bl (enm c k)):Nat):Int)∧(entsOfR (blkX (wordsE c) x)).getD (k*2+1) 0=eno c k∧nameN (wordV (bl (enm c k)))=some (bl (enm c k)):=λk hk=>by
  rw[hget _ (by omega),hget _ (by omega)]
  obtain⟨e1,e2⟩:=wordsE_get c k hk
  refine⟨e1,e2,?_⟩
  unfold wordV
  rw[if_pos (hg k hk).1]
  exact nameN_wordN (hg k hk).1 (bl_lt _)
 refine⟨hcnt,λk hk=> ?_,?_⟩
 ·rw[hcnt] at hk
  obtain⟨e1,e2,e3⟩:=hw k hk
  rw[e1,e2,Int.toNat_natCast,e3]
  have :=(hg k hk).2
  exact⟨rfl,by omega⟩
 ·refine e_ext (by rw[entsL_len,hcnt]) λk hk=> ?_
  rw[entsL_len,hcnt] at hk
  obtain⟨e1,e2,e3⟩:=hw k hk
  obtain⟨g1,g2⟩:=entsL_get (entsOfR (blkX (wordsE c) x)) (cntE (blkX (wordsE c) x)) k (by rw[hcnt];exact hk)
  rw[g1,g2,e1,e2,Int.toNat_natCast,e3]
  exact⟨strN_bl _,rfl⟩
theorem spr_good {n:Ino} (hD:DirP n) (b:Nat):GoodE (sprE n.E b):=λk hk=>by
 obtain⟨j,hj,e1,e2⟩:=spr_mem hk
 rw[e1,e2]
 exact⟨(hD.2.2.2 j hj).1,(hD.2.2.2 j hj).2.1⟩
theorem ch_good {l:List (ByteArray×Int)} (h:GoodE l) (x:Nat):GoodE (chE l x):=λk hk=>by
 obtain⟨h1,e1,e2⟩:=chE_get l x k hk
 rw[e1,e2]
 exact h _ h1
def catE (E:List (ByteArray×Int)):Nat→List (ByteArray×Int)
 |0=>[]
 |b+1=>catE E b++sprE E b
theorem ch_take (l:List (ByteArray×Int)) (j:Nat):l.take (3*j)++chE l j=l.take (3*(j+1)):=by
 unfold chE
 rw[show 3*(j+1)=3*j+3 by omega,List.take_add]
theorem take_snocN {l:List Nat} {j:Nat} (h:j<l.length):l.take j++[l.getD j 0]=l.take (j+1):=by
 rw[List.take_succ_eq_append_getElem h]
 simp[List.getD_eq_getElem?_getD,h]
theorem chain_laid {X R:List Int} {n:Ino} {own:List Nat} (hK:n.K=2) (hD:DirP n) (ho:own.length=fstN n.E 4) (h24:own.length≤24) (hm:∀c∈own,c≠0∧c<256) (hL:IsLaidP X R n own) {b:Nat} (hb:b<4):
  ∀d j fuel,j+d=dN n.E b→d<fuel→chainD X fuel (if j<dN n.E b then ((own.getD (fstN n.E b+j) 0:Nat):Int) else 0) (own.take (fstN n.E b+j)) (catE n.E b++(sprE n.E b).take (3*j))=some (own.take (fstN n.E (b+1)),catE n.E (b+1)):=by
 have hfm:=fstN_mono n.E (show b+1≤4 by omega)
 intro d
 induction d with
 |zero=>
  intro j fuel hj hf
  obtain⟨f,rfl⟩:∃f,fuel=f+1:=⟨fuel-1,by omega⟩
  obtain rfl:j=dN n.E b:=by omega
  rw[if_neg (Nat.lt_irrefl _),chainD,if_pos rfl,fstN,catE,List.take_of_length_le (l:=sprE n.E b) (by unfold dN;omega)]
 |succ d ih=>
  intro j fuel hj hf
  obtain⟨f,rfl⟩:∃f,fuel=f+1:=⟨fuel-1,by omega⟩
  have hjd:j<dN n.E b:=by omega
  have hjo:fstN n.E b+j<own.length:=by rw[ho];rw[fstN] at hfm;omega
  have hc:=hm _ (getD_mem hjo)
  have hblk:=hL.1 _ hjo
  unfold blocksF at hblk
  rw[if_pos hK,dirTo_get n.E own hjd hb] at hblk
  have hlen:(own.take (fstN n.E b+j)).length=fstN n.E b+j:=by rw[List.length_take];omega
  obtain⟨e1,e2,e3⟩:=blk_ents (c:=chE (sprE n.E b) j) (by rw[chE_len];omega) (ch_good (spr_good hD b) j) (if j+1<dN n.E b then ((own.getD (fstN n.E b+(j+1)) 0:Nat):Int) else 0)
  have hnext:X.getD (1080+8*own.getD (fstN n.E b+j) 0) 0=if j+1<dN n.E b then ((own.getD (fstN n.E b+(j+1)) 0:Nat):Int) else 0:=by
   have :=rowL_get X (1080+8*own.getD (fstN n.E b+j) 0) 0 (by omega)
   rw[←hblk] at this
   exact this.symm
  rw[if_pos hjd,chainD,if_neg (by omega),hlen,if_neg (by omega),Int.toNat_natCast]
  have hok:blkOk X (own.getD (fstN n.E b+j) 0):=by
   unfold blkOk
   rw[←hblk]
   exact e2
  have hE:blkE X (own.getD (fstN n.E b+j) 0)=chE (sprE n.E b) j:=by
   unfold blkE
   rw[←hblk]
   exact e3
  rw[if_pos hok,hE,hnext,take_snocN hjo,List.append_assoc,ch_take]
  exact ih (j+1) f (by omega) (by omega)
theorem catE_len (E:List (ByteArray×Int)):∀b,(catE E b).length≤3*fstN E b
 |0=>by simp[catE]
 |b+1=>by
  have :=catE_len E b
  rw[catE,fstN,List.length_append,dN]
  omega
theorem fst_le (E:List (ByteArray×Int)):fstN E 4*3≤(catE E 4).length+8:=by
 simp only[catE,fstN,dN,List.length_append,List.nil_append]
 omega
theorem spr_perm:∀E:List (ByteArray×Int),E.Perm (catE E 4)
 | []=>by simp[catE,sprE]
 |p::E=>by
  have ih:=spr_perm E
  have hl:=bkt_lt p
  simp only[catE,List.nil_append] at ih ⊢
  have hs:∀b,sprE (p::E) b=if bkt p=b then p::sprE E b else sprE E b:=λb=>by
   unfold sprE
   rw[List.filter_cons]
   simp
  rw[hs 0,hs 1,hs 2,hs 3]
  generalize sprE E 0=A at *
  generalize sprE E 1=B at *
  generalize sprE E 2=C at *
  generalize sprE E 3=D at *
  refine(List.Perm.cons p ih).trans ?_
  rcases (show bkt p=0∨bkt p=1∨bkt p=2∨bkt p=3 by omega) with h|h|h|h
  ·simp[h]
  ·simp only[h]
   simp only[List.append_assoc,Nat.one_ne_zero,Nat.reduceEqDiff,↓reduceIte]
   exact List.perm_middle.symm
  ·simp only[h]
   simp only[List.append_assoc,Nat.reduceEqDiff,↓reduceIte]
   have :=(List.perm_middle (a:=p) (l₁:=A++B) (l₂:=C++D)).symm
   simpa using this
  ·simp only[h]
   simp only[List.append_assoc,Nat.reduceEqDiff,↓reduceIte]
   have :=(List.perm_middle (a:=p) (l₁:=A++B++C) (l₂:=D)).symm
   simpa using this
theorem seemTo_laid {X:List Int} {n:Ino} {own:List Nat} (hK:n.K=2) (hD:DirP n) (ho:own.length=fstN n.E 4) (h24:own.length≤24) (hm:∀c∈own,c≠0∧c<256) (hL:IsLaidP X (rowF n own) n own):
  ∀b,b≤4→seemTo X (rowF n own) b=some (own.take (fstN n.E b),catE n.E b)
 |0,_=>by simp[seemTo,fstN,catE]
 |b+1,hb=>by
  have hfm:=fstN_mono n.E (show b+1≤4 by omega)
  rw[fstN] at hfm
  rw[seemTo,seemTo_laid hK hD ho h24 hm hL b (by omega)]
  show chainD X (25-(own.take (fstN n.E b)).length) ((rowF n own).getD (2+b) 0) (own.take (fstN n.E b)) (catE n.E b)=_
  have :=chain_laid hK hD ho h24 hm hL (show b<4 by omega) (dN n.E b) 0 (25-fstN n.E b) (by omega) (by omega)
  rw[Nat.add_zero,Nat.mul_zero,List.take_zero,List.append_nil] at this
  rw[(rowF_dir hK (show b<4 by omega)).1,List.length_take,Nat.min_eq_left (by omega)]
  exact this
theorem tag_two {R:List Int} {n:Ino} (hR:RightP n) (h0:R.getD 0 0=tagW n) (h1:R.getD 1 0=n.S):tagN R=⟨n.F,n.K,n.L,n.S,List.replicate 13 0,[]⟩:=by
 rw[←tag_laid hR [] 0]
 unfold tagN
 rw[h0,h1]
 rfl
theorem app5 {A:List Int} (h:A.length=5) (x:Int):(A++[x]).getD 5 0=x∧(A++[x]).take 5=A:=by
 constructor
 ·rw[List.getD_eq_getElem?_getD,List.getElem?_append_right (by omega),h]
  rfl
 ·rw[List.take_append_of_le_length (by omega),List.take_of_length_le (by omega)]
theorem two_drop (a b:Int) (l:List Int):(a::b::l).drop 2=l∧(a::b::l).getD 7 0=l.getD 5 0:=⟨rfl,rfl⟩
theorem read2_laid {X:List Int} {i:Int} {n:Ino} {own:List Nat} (hB:n.B.length=13) (hok:Lay2P i n) (ho:own.length=needF n) (hm:∀c∈own,c≠0∧c<256) (hL:IsLaidP X (inoAtX X i) n own):ReadP X i n own:=by
 obtain⟨hi,hF,hR⟩:=hok
 refine⟨hi,?_,hF,hR,ho,hL⟩
 have hrow:=hL.2
 rw[←hrow] at hL ⊢
 have htag:=tag_two hR (rowF_head n own).1 (rowF_head n own).2
 rcases hR.2.2 with ⟨hK,hf⟩|⟨hK,hD⟩
 ·left
  rw[htag]
  refine⟨hK,n.B,?_,?_⟩
  ·have hr:rowF n own=fileRow n own:=if_neg (by omega)
   have hb:blocksF n own=fileBlocks n:=if_neg (by omega)
   have h13:(runsL n.B).length≤13:=runsTo_len n.B 13
   have hnum:∀k,k<13→0≤n.B.getD k 0∧n.B.getD k 0<256:=λk hk=>(hf.2.2.2 k hk).1
   rw[need_file hf] at ho
   by_cases h6:(runsL n.B).length≤6
   ·left
    have hfr:fileRow n own=tagW n::n.S::(runsL n.B++List.replicate (6-(runsL n.B).length) 0):=if_pos h6
    rw[if_neg (by omega)] at ho
    rw[hr,hfr]
    refine⟨?_,List.eq_nil_of_length_eq_zero ho,?_⟩
    ·rw[(two_drop _ _ _).2,List.getD_eq_getElem?_getD]
     by_cases h5:5<(runsL n.B).length
     ·rw[List.getElem?_append_left h5,List.getElem?_eq_getElem h5]
      exact(runs_64 (List.getElem_mem h5)).2
     ·rw[List.getElem?_append_right (by omega),List.getElem?_replicate]
      split<;>simp
    ·rw[(two_drop _ _ _).1]
     have :=nums_again hB hnum (6-(runsL n.B).length)
     rwa[show(runsL n.B).length+(6-(runsL n.B).length)=6 by omega] at this
   ·right
    have hfr:fileRow n own=tagW n::n.S::((runsL n.B).take 5++[9223372036854775808+((own.getD 0 0:Nat):Int)]):=if_neg h6
    have hfb:fileBlocks n=[(runsL n.B).drop 5++List.replicate (13-(runsL n.B).length) 0]:=if_neg h6
    rw[if_pos (by omega)] at ho
    obtain⟨c,rfl⟩:=List.length_eq_one_iff.1 ho
    have hc:=hm c (by simp)
    have hblk:=hL.1 0 (by simp)
    rw[hb,hfb] at hblk
    have hblk:(runsL n.B).drop 5++List.replicate (13-(runsL n.B).length) 0=rowL X (1080+8*c):=hblk
    have ht5:((runsL n.B).take 5).length=5:=by rw[List.length_take];omega
    rw[hr,hfr]
    have hg:[c].getD 0 0=c:=rfl
    rw[hg]
    obtain⟨a1,a2⟩:=app5 ht5 (9223372036854775808+((c:Nat):Int))
    obtain⟨d1,d2⟩:=two_drop (tagW n) n.S ((runsL n.B).take 5++[9223372036854775808+((c:Nat):Int)])
    refine⟨c,?_,by omega,hc.2,rfl,?_⟩
    ·rw[d2,a1]
    ·rw[d1,a2,←hblk,←List.append_assoc,List.take_append_drop]
     have :=nums_again hB hnum (13-(runsL n.B).length)
     rwa[show(runsL n.B).length+(13-(runsL n.B).length)=13 by omega] at this
  ·have hE:n.E=[]:=List.eq_nil_of_length_eq_zero hf.2.1
   cases n
   simp at hE
   subst hE
   rfl
 ·right
  rw[htag]
  have hfo:=ho
  rw[need_dir hD] at hfo
  have hp:=spr_perm n.E
  have hpl:=hp.length_eq
  have hfl:=fst_le n.E
  have h24:=hD.1
  have hcl:=catE_len n.E 4
  have hs:=seemTo_laid hK hD hfo (by omega) hm hL 4 (Nat.le_refl _)
  rw[←hfo,List.take_length] at hs
  refine⟨hK,catE n.E 4,n.E,hs,⟨by omega,λc hc=> ?_,by omega,λp hp'=> ?_⟩,hp,λi j hij hj=> ?_,?_⟩
  ·have :=hm c hc
   omega
  ·have hpe:=hp.mem_iff.2 hp'
   obtain⟨k,hk,rfl⟩:=List.getElem_of_mem hpe
   rw[getE _ k hk]
   have :=(goodN_len (hD.2.2.2 k hk).1).2
   rw[bl_len] at this
   exact this
  ·have hso:=List.pairwise_iff_getElem.1 (dir_sorted hD) i j (by omega) hj hij
   rw[getE _ i (by omega),getE _ j hj] at hso
   cases h:Op.bytesLess (enm n.E j).toList (enm n.E i).toList
   ·rfl
   ·have :=less_trans _ _ _ hso h
    rw[less_irrefl] at this
    cases this
  ·have hb:=hD.2.2.1
   cases n
   simp at hb
   subst hb
   rfl
theorem read2_nodup {X:List Int} {i:Int} {n:Ino} {own:List Nat} (h:ReadP X i n own):own.Nodup:=by
 obtain⟨hi,hs,hF,hR,ho,hL⟩:=h
 rcases hR.2.2 with ⟨hK,hf⟩|⟨hK,hD⟩
 ·rw[need_file hf] at ho
  have :own.length≤1:=by rw[ho];split<;>omega
  match own,this with
  | [],_=>exact List.nodup_nil
  | [c],_=>simp
  |_::_::_,h=>simp at h
 ·rw[need_dir hD] at ho
  have hfirst:∀m,m<own.length→∃b j,b<4∧3*j<(sprE n.E b).length∧m=fstN n.E b+j∧X.getD (1080+8*own.getD m 0+1) 0=((wordV (bl (enm (sprE n.E b) (3*j))):Nat):Int):=λm hml=>by
   obtain⟨b,j,hb,hj,rfl⟩:=fst_cover n.E (ho▸hml)
   have h3:3*j<(sprE n.E b).length:=by unfold dN at hj;omega
   refine⟨b,j,hb,h3,rfl,?_⟩
   have hblk:=hL.1 _ hml
   unfold blocksF at hblk
   rw[if_pos hK,dirTo_get n.E own hj hb] at hblk
   have h1:=rowL_get X (1080+8*own.getD (fstN n.E b+j) 0) 1 (by omega)
   rw[←hblk,blkD,blkX_succ,blk_word _ _ _ (by omega),if_pos ⟨by omega,by omega⟩,if_pos rfl] at h1
   exact h1.symm
  rw[List.nodup_iff_pairwise_ne,List.pairwise_iff_getElem]
  intro i1 i2 h1 h2 h12 he
  obtain⟨b,j,hb,hj,e1,w1⟩:=hfirst i1 h1
  obtain⟨b',j',hb',hj',e2,w2⟩:=hfirst i2 h2
  have hge:own.getD i1 0=own.getD i2 0:=by simp[List.getD_eq_getElem?_getD,h1,h2,he]
  rw[hge,w2] at w1
  have hw:wordV (bl (enm (sprE n.E b') (3*j')))=wordV (bl (enm (sprE n.E b) (3*j))):=by omega
  have g1:=(spr_good hD b _ hj).1
  have g2:=(spr_good hD b' _ hj').1
  unfold wordV at hw
  rw[if_pos g1,if_pos g2] at hw
  have hn1:=nameN_wordN g1 (bl_lt _)
  rw[←hw,nameN_wordN g2 (bl_lt _)] at hn1
  have hbl:bl (enm (sprE n.E b') (3*j'))=bl (enm (sprE n.E b) (3*j)):=Option.some.inj hn1
  have hbk:∀q k,k<(sprE n.E q).length→bucketN (bl (enm (sprE n.E q) k))=q:=λq k hk=>by
   have :=(List.mem_filter.1 (e_mem hk)).2
   exact beq_iff_eq.1 this
  have hbb:b=b':=by rw[←hbk b _ hj,←hbk b' _ hj',hbl]
  subst hbb
  have hnm:enm (sprE n.E b) (3*j')=enm (sprE n.E b) (3*j):=by rw[←strN_bl (enm (sprE n.E b) (3*j')),hbl,strN_bl]
  have hso:(sprE n.E b).Pairwise (λx y=>Op.bytesLess x.1.toList y.1.toList=true):=(dir_sorted hD).filter _
  have hlt:=List.pairwise_iff_getElem.1 hso (3*j) (3*j') hj hj' (by omega)
  rw[getE _ _ hj,getE _ _ hj',hnm,less_irrefl] at hlt
  cases hlt
def FreeP (X:List Int) (i:Int):Prop:=inoAtX X i=List.replicate 8 0
instance (X:List Int) (i:Int):Decidable (FreeP X i):=by unfold FreeP;infer_instance
def needA (n:Ino):Nat:=if n.F=2 then needF n else needN n
structure StoreP (X:List Int) (i:Int) (n:Ino) (own:List Nat):Prop where
 rng:0≤i∧i<32
 len:n.B.length=13
 right:RightP n
 mem:∀c∈own,c≠0∧c<256
 nodup:own.Nodup
 laid:(n.F=1∧own.length=needN n∧LaidAt X (824+8*i.toNat) n own)∨(n.F=2∧own.length=needF n∧IsLaidP X (inoAtX X i) n own)
theorem StoreP.ownLen {X:List Int} {i:Int} {n:Ino} {own:List Nat} (h:StoreP X i n own):own.length=needA n:=by
 unfold needA
 rcases h.laid with ⟨h1,h2,-⟩|⟨h1,h2,-⟩
 ·rw[if_neg (by omega),h2]
 ·rw[if_pos h1,h2]
theorem needN_le {n:Ino} (hR:RightP n):needN n≤7:=by
 have hbl:=blocks_le hR
 have :=need_le n
 omega
theorem needA_le {n:Ino} (hR:RightP n):needA n≤32:=by
 have h1:=needN_le hR
 have h2:=needF_le hR
 unfold needA
 split<;>omega
theorem StoreP.tag {X:List Int} {i:Int} {n:Ino} {own:List Nat} (h:StoreP X i n own):(inoAtX X i).getD 0 0=tagW n:=by
 rcases h.laid with ⟨-,-,h3⟩|⟨-,-,h3⟩
 ·unfold inoAtX
  rw[h3.row]
  rfl
 ·rw[←h3.2]
  exact(rowF_head n own).1
theorem tagW_mod {n:Ino} (h:RightP n):tagW n%256=n.F∧0<tagW n:=by
 obtain⟨hF,hL,hK⟩:=h
 have hK2:n.K=1∨n.K=2:=hK.imp (·.1) (·.1)
 unfold tagW
 omega
theorem StoreP.format {X:List Int} {i:Int} {n:Ino} {own:List Nat} (h:StoreP X i n own):(inoAtX X i).getD 0 0%256=n.F:=by
 rw[h.tag]
 exact(tagW_mod h.right).1
theorem StoreP.notFree {X:List Int} {i:Int} {n:Ino} {own:List Nat} (h:StoreP X i n own):¬FreeP X i:=λhf=>by
 have h1:=h.tag
 have h2:=(tagW_mod h.right).2
 rw[hf] at h1
 simp at h1
 omega
theorem StoreP.uniq {X:List Int} {i:Int} {n n':Ino} {own own':List Nat} (h:StoreP X i n own) (h':StoreP X i n' own'):n'=n∧own'=own:=by
 have hf:=h.format
 have hf':=h'.format
 rcases h.laid with ⟨a1,a2,a3⟩|⟨a1,a2,a3⟩
 ·rcases h'.laid with ⟨b1,b2,b3⟩|⟨b1,b2,b3⟩
  ·obtain⟨-,c1,c2⟩:=read_laid h.len h.right a1 a2 h.mem a3
   obtain⟨-,d1,d2⟩:=read_laid h'.len h'.right b1 b2 h'.mem b3
   exact⟨by rw[←d1,c1],by rw[←d2,c2]⟩
  ·omega
 ·rcases h'.laid with ⟨b1,b2,b3⟩|⟨b1,b2,b3⟩
  ·omega
  ·have r1:=read2_laid h.len ⟨h.rng,a1,h.right⟩ a2 h.mem a3
   have r2:=read2_laid h'.len ⟨h'.rng,b1,h'.right⟩ b2 h'.mem b3
   exact r1.2.1.uniq r2.2.1 h'.right
theorem store_one {X:List Int} {i:Int} (h64:In64 X) (hi:0≤i∧i<32) (h:ReadOk X (inoAtX X i)):StoreP X i (readI X (inoAtX X i)) (ownI X (inoAtX X i)):=by
 obtain⟨h1,h2,h3,h4,h5,h6,h7⟩:=laid_read h64 (q:=824+8*i.toNat) h
 exact⟨hi,h3,h1,h5,h6,.inl ⟨h2,h4,h7⟩⟩
theorem store_two {X:List Int} {i:Int} {n:Ino} {own:List Nat} (hB:n.B.length=13) (hm:∀c∈own,0<c∧c<256) (h:ReadP X i n own):StoreP X i n own:=by
 have hn:=read2_nodup h
 obtain⟨h1,h2,h3,h4,h5,h6⟩:=h
 exact⟨h1,hB,h4,λc hc=>by have :=hm c hc;omega,hn,.inr ⟨h3,h5,h6⟩⟩
theorem store_one_of {X:List Int} {i:Int} {n:Ino} {own:List Nat} (h:StoreP X i n own) (hF:n.F=1):ReadOk X (inoAtX X i)∧readI X (inoAtX X i)=n∧ownI X (inoAtX X i)=own:=by
 rcases h.laid with ⟨a1,a2,a3⟩|⟨a1,a2,a3⟩
 ·exact read_laid h.len h.right a1 a2 h.mem a3
 ·omega
theorem store_two_of {X:List Int} {i:Int} {n:Ino} {own:List Nat} (h:StoreP X i n own) (hF:n.F=2):ReadP X i n own:=by
 rcases h.laid with ⟨a1,a2,a3⟩|⟨a1,a2,a3⟩
 ·omega
 ·exact read2_laid h.len ⟨h.rng,a1,h.right⟩ a2 h.mem a3
theorem rowL_same {X Y:List Int} {p:Nat} (h:∀j,j<8→Y.getD (p+j) 0=X.getD (p+j) 0):rowL Y p=rowL X p:=by
 unfold rowL
 apply List.map_congr_left
 intro j hj
 exact h j (List.mem_range.1 hj)
theorem StoreP.same {X Y:List Int} {i:Int} {n:Ino} {own:List Nat} (h:StoreP X i n own) (h1:∀j,j<8→Y.getD (824+8*i.toNat+j) 0=X.getD (824+8*i.toNat+j) 0)
  (h2:∀c∈own,∀j,j<8→Y.getD (1080+8*c+j) 0=X.getD (1080+8*c+j) 0):StoreP Y i n own:=by
 have e1:rowL Y (824+8*i.toNat)=rowL X (824+8*i.toNat):=rowL_same h1
 have e2:∀m,m<own.length→rowL Y (1080+8*own.getD m 0)=rowL X (1080+8*own.getD m 0):=λm hm=>rowL_same (h2 _ (getD_mem hm))
 refine⟨h.rng,h.len,h.right,h.mem,h.nodup,?_⟩
 rcases h.laid with ⟨a1,a2,a3⟩|⟨a1,a2,a3⟩
 ·exact .inl ⟨a1,a2,by rw[e1];exact a3.row,λm hm=>by rw[e2 m hm];exact a3.own m hm⟩
 ·refine .inr ⟨a1,a2,λm hm=>by rw[e2 m hm];exact a3.1 m hm,?_⟩
  unfold inoAtX
  rw[e1]
  exact a3.2
theorem FreeP.same {X Y:List Int} {i:Int} (h:FreeP X i) (h1:∀j,j<8→Y.getD (824+8*i.toNat+j) 0=X.getD (824+8*i.toNat+j) 0):FreeP Y i:=by
 unfold FreeP inoAtX at *
 rw[rowL_same h1]
 exact h
def givePs (X:List Int):List Nat→List (Int×Int)
 | []=>[]
 |b::l=>setPs X b false++givePs (putAll X (setPs X b false)) l
theorem givePs_snoc (l:List Nat) (b:Nat):∀X:List Int,givePs X (l++[b])=givePs X l++setPs (putAll X (givePs X l)) b false:=by
 induction l with
 |nil=>intro X;show setPs X b false++[]=_;rw[List.append_nil];rfl
 |cons c l ih=>
  intro X
  show setPs X c false++givePs _ (l++[b])=(setPs X c false++givePs _ l)++setPs (putAll X (setPs X c false++givePs _ l)) b false
  rw[ih,putAll_append,List.append_assoc]
theorem setPs_le (X:List Int) (b:Nat) (u:Bool):(setPs X b u).length≤1:=by
 unfold setPs
 split<;>simp
theorem givePs_len (l:List Nat):∀X:List Int,(givePs X l).length≤l.length:=by
 induction l with
 |nil=>intro X;exact Nat.le_refl _
 |cons b l ih=>
  intro X
  show(setPs X b false++givePs _ l).length≤_
  have h1:=setPs_le X b false
  have h2:=ih (putAll X (setPs X b false))
  rw[List.length_append,List.length_cons]
  omega
theorem givePs_state (l:List Nat):∀X:List Int,In64 X→X.length=3128→
  In64 (putAll X (givePs X l))∧(∀c,c<256→c≠0→usedN (putAll X (givePs X l)) c=(usedN X c && !decide (c∈l)))∧(∀k,820≤k→(putAll X (givePs X l)).getD k 0=X.getD k 0):=by
 induction l with
 |nil=>intro X h hl;exact⟨h,λc _ _=>by simp[givePs,putAll],λk _=>rfl⟩
 |cons b l ih=>
  intro X h hl
  have h1:In64 (putAll X (setPs X b false)):=h.put (setPs_in h b false)
  have h2:(putAll X (setPs X b false)).length=3128:=by rw[putAll_len,hl]
  obtain⟨k1,k2,k3⟩:=ih _ h1 h2
  have e:putAll X (givePs X (b::l))=putAll (putAll X (setPs X b false)) (givePs (putAll X (setPs X b false)) l):=putAll_append _ _ _
  rw[e]
  refine⟨k1,λc hc hc0=> ?_,λk hk=> ?_⟩
  ·rw[k2 c hc hc0]
   by_cases hb:b=0∨256≤b
   ·have :setPs X b false=[]:=if_pos hb
    rw[this]
    have hne:¬c=b:=by omega
    simp[putAll,hne]
   ·rw[usedN_set h hl b (by omega) (by omega)]
    by_cases hcb:c=b
    ·simp[hcb]
    ·simp[hcb]
  ·rw[k3 k hk]
   refine putAll_other _ _ _ λp hp=> ?_
   unfold setPs at hp
   split at hp
   ·simp at hp
   ·rw[List.mem_singleton] at hp
    subst hp
    show((816+b/64:Nat):Int).toNat≠k
    omega
theorem bits_same {X Y:List Int} (h:∀k,k<820→Y.getD k 0=X.getD k 0):(∀c,c<256→usedN Y c=usedN X c)∧freeL Y=freeL X:=by
 have hu:∀c,c<256→usedN Y c=usedN X c:=λc hc=>by
  unfold usedN bw
  rw[h _ (by omega)]
 refine⟨hu,?_⟩
 unfold freeL freeTo
 apply List.filter_congr
 intro c hc
 rw[hu c (List.mem_range.1 hc)]
def layA (X:List Int) (i:Nat) (n:Ino) (own:List Nat):List (Int×Int):=if n.F=2 then lay2Ps X i n own else layPs X i n own
structure PutEff (X:List Int) (i:Int) (n:Ino) (own:List Nat) (X':List Int) (own':List Nat):Prop where
 st:StoreP X' i n own'
 w64:In64 X'
 len:X'.length=3128
 used:∀c,c<256→c≠0→usedN X' c=((usedN X c && !decide (c∈own))||decide (c∈own'))
 free:∀c∈own',(usedN X c && !decide (c∈own))=false
 other:∀k,820≤k→¬(824+8*i.toNat≤k∧k<824+8*i.toNat+8)→¬(1080≤k∧(k-1080)/8∈own')→X'.getD k 0=X.getD k 0
 count:(freeL X').length+needA n=(freeL (putAll X (givePs X own))).length
theorem lay_used {X:List Int} (h64:In64 X) (hX:X.length=3128) {own:List Nat} (hm:∀c∈own,c≠0∧c<256) {qs:List (Int×Int)} (hq:∀p∈qs,820≤p.1.toNat):
  (∀c,c<256→usedN (putAll X (takePs X own++qs)) c=(usedN X c||decide (c∈own)))∧freeL (putAll X (takePs X own++qs))=freeL (putAll X (takePs X own)):=by
 rw[putAll_append]
 obtain⟨h1,h2⟩:=bits_same (X:=putAll X (takePs X own)) (Y:=putAll (putAll X (takePs X own)) qs) λk hk=>putAll_other _ _ _ λp hp=>by have :=hq p hp;omega
 exact⟨λc hc=>by rw[h1 c hc,(takePs_state own X h64 hX hm).2.2 c hc],h2⟩
theorem lay_eff {X:List Int} (h64:In64 X) (hX:X.length=3128) {i:Int} {n:Ino} (hB:n.B.length=13) (hi:0≤i∧i<32) (hR:RightP n) (hn:needA n≤(freeL X).length):
  PutEff X i n [] (putAll X (layA X i.toNat n ((freeL X).take (needA n)))) ((freeL X).take (needA n)):=by
 have hol:=own_len hn
 have hm:∀c∈(freeL X).take (needA n),c≠0∧c<256:=own_in
 have hnd:((freeL X).take (needA n)).Nodup:=own_nodup
 have hfr:∀c∈(freeL X).take (needA n),(usedN X c && !decide (c∈([]:List Nat)))=false:=λc hc=>by
  rw[(freeTo_mem.1 (List.mem_of_mem_take hc)).2.2]
  rfl
 obtain⟨-,-,hdr⟩:=freeL_take h64 hX (needA n)
 have hcount:∀Y,freeL Y=freeL (putAll X (takePs X ((freeL X).take (needA n))))→(freeL Y).length+needA n=(freeL (putAll X (givePs X []))).length:=λY hY=>by
  rw[hY,hdr,List.length_drop]
  show _=(freeL X).length
  omega
 have hF:n.F=1∨n.F=2:=hR.1
 have hused:∀c,c<256→∀b:Bool,(usedN X c||b)=((usedN X c && !decide (c∈([]:List Nat)))||b):=λc _ b=>by simp
 rcases hF with hF|hF
 ·have hneed:needA n=needN n:=if_neg (by omega)
  have hlay:∀own,layA X i.toNat n own=layPs X i.toNat n own:=λown=>if_neg (by omega)
  rw[hneed] at hn hol hm hnd hfr hcount ⊢
  rw[hlay]
  obtain⟨a1,a2,a3⟩:=laid_all h64 hX hB ⟨hi,hF,hR⟩ hn
  have hbl:=blocks_le hR
  have hcn:=need_le n
  have hlen:blocksN n.E.length≤((freeL X).take (needN n)).length:=by omega
  obtain⟨u1,u2⟩:=lay_used h64 hX hm (qs:=rowsPs i.toNat n ((freeL X).take (needN n))) λp hp=>by
   rcases rowsPs_mem hlen hp with ⟨h,-⟩|⟨h,-⟩<;>omega
  exact⟨⟨hi,hB,hR,hm,hnd,.inl ⟨hF,hol,a1⟩⟩,a2,by rw[putAll_len,hX],λc hc _=>by rw[←hused c hc];exact u1 c hc,hfr,a3,by rw[hneed];exact hcount _ u2⟩
 ·have hneed:needA n=needF n:=if_pos hF
  have hlay:∀own,layA X i.toNat n own=lay2Ps X i.toNat n own:=λown=>if_pos hF
  rw[hneed] at hn hol hm hnd hfr hcount ⊢
  rw[hlay]
  obtain⟨a1,a2,a3⟩:=laid2_all h64 hX ⟨hi,hF,hR⟩ hn
  obtain⟨u1,u2⟩:=lay_used h64 hX hm (qs:=blkPs (blocksF n ((freeL X).take (needF n))) ((freeL X).take (needF n)) ((freeL X).take (needF n)).length++rowPs (824+8*i.toNat) (rowF n ((freeL X).take (needF n))) 8) λp hp=>by
   rcases List.mem_append.1 hp with hp|hp
   ·obtain⟨m,j,-,-,h,-⟩:=blkPs_mem hp
    omega
   ·obtain⟨j,-,h,-⟩:=rowPs_mem hp
    omega
  exact⟨⟨hi,hB,hR,hm,hnd,.inr ⟨hF,hol,a1⟩⟩,a2,by rw[putAll_len,hX],λc hc _=>by rw[←hused c hc];exact u1 c hc,hfr,a3,by rw[hneed];exact hcount _ u2⟩
def putPs (X:List Int) (i:Nat) (n:Ino) (own:List Nat):List (Int×Int):=
 givePs X own++layA (putAll X (givePs X own)) i n ((freeL (putAll X (givePs X own))).take (needA n))
theorem put_eff {X:List Int} (h64:In64 X) (hX:X.length=3128) {i:Int} {n:Ino} {own:List Nat} (hB:n.B.length=13) (hi:0≤i∧i<32) (hR:RightP n) (hn:needA n≤(freeL (putAll X (givePs X own))).length):
  PutEff X i n own (putAll X (putPs X i.toNat n own)) ((freeL (putAll X (givePs X own))).take (needA n)):=by
 obtain⟨g1,g2,g3⟩:=givePs_state own X h64 hX
 have gl:(putAll X (givePs X own)).length=3128:=by rw[putAll_len,hX]
 have he:=lay_eff g1 gl hB hi hR hn
 have hm:∀c∈(freeL (putAll X (givePs X own))).take (needA n),c≠0∧c<256:=own_in
 unfold putPs
 rw[putAll_append]
 obtain⟨Y,hY⟩:∃Y,Y=putAll X (givePs X own):=⟨_,rfl⟩
 rw[←hY] at g1 g2 g3 gl he hm ⊢
 refine⟨he.st,he.w64,he.len,λc hc h0=> ?_,λc hc=> ?_,λk hk h1 h2=> ?_,?_⟩
 ·rw[he.used c hc h0,g2 c hc h0]
  simp
 ·have :=he.free c hc
  have hcc:=hm c hc
  rw[g2 c hcc.2 hcc.1] at this
  simpa using this
 ·rw[he.other k hk h1 h2,g3 k hk]
 ·rw[←hY]
  exact he.count
theorem PutEff.keeps {X X':List Int} {i j:Int} {n m:Ino} {own own' om:List Nat} (h:PutEff X i n own X' own') (hj:StoreP X j m om) (hij:i≠j) (hu:∀c∈om,usedN X c=true) (hd:∀c∈om,c∉own):StoreP X' j m om:=by
 have hi:=h.st.rng
 have hjr:=hj.rng
 have hno:∀c∈om,c∉own':=λc hc hc'=>by
  have :=h.free c hc'
  rw[hu c hc] at this
  simp[hd c hc] at this
 refine hj.same (λk hk=>h.other _ (by omega) (by omega) (λhx=>by omega)) λc hc k hk=>h.other _ (by omega) (by omega) λhx=> ?_
 have :(1080+8*c+k-1080)/8=c:=by omega
 rw[this] at hx
 exact hno c hc hx.2
set_option maxRecDepth 100000 in
set_option maxHeartbeats 8000000 in
theorem read2_at {w:World} {b gp:Nat} {B:List Int} {ps:List (Int×Int)} (hSh:ShAt w b gp B ps) (hX64:W64 (putAll B ps)) (i:Int):
  Calls Tryz.prog 61 #[.pointer (some ⟨b,0,none⟩),.int .i64 i] w (Read2Post w (putAll B ps) i):=by
 have hb4:=Blk.new w (inoC inoZ (.slice none 0 0)) 37
 obtain⟨W0,hW0⟩:∃W0,W0=w.alloc (.cells (inoC inoZ (.slice none 0 0)) 37):=⟨_,rfl⟩
 rw[←hW0] at hb4
 have hk0:Keeps [] w W0:=by
  rw[hW0]
  exact(Keeps.refl _ _).alloc _
 have hs0:W0.heap.size=w.heap.size+1:=by rw[hW0];simp
 have hzv:=zero_ino
 have hz8v:=zero_r8
 have HI:=Lib.hid (txInode_at i)
 have HBAD:Hid (∀wz,Keeps [] W0 wz→(∀n' own',¬ReadP (putAll B ps) i n' own')→∃w',(storeVar 37 ⟨w.heap.size,0,none⟩ (.agg (inoC inoZ (.slice none 0 0)))).run Tryz.prog wz= .ok () w'∧(loadVar 37 ⟨w.heap.size,0,none⟩).run Tryz.prog w'= .ok (.agg (inoC inoZ (.slice none 0 0))) w'∧Read2Post w (putAll B ps) i (.returned (.tuple #[.agg (inoC inoZ (.slice none 0 0)),.slice none 0 0,.bool false])) w'):=λwz hk hn=>by
  obtain⟨w',q1,q2,q3⟩:=store_whole (P:= Tryz.prog) (ty:= 37) (cs:=inoL inoZ (.slice none 0 0)) size_ino (hb4.keep hk (by simp)) rfl (inoL_one rfl)
  exact⟨w',q1,load_ino q2 rfl,inoZ,_,w.heap.size,[],_,w.heap.size,false,rfl,rfl,EReads.nil _ _,Nat.le_refl _,RowI.nil _ _,Nat.le_refl _,(hk0.trans' hk).trans q3 (by intro x hx;rw[List.mem_singleton] at hx;omega),λh=>(by cases h),λ_=>⟨rfl,rfl,hn⟩⟩
 have HW0:=Lib.hid hW0
 have HK0:=Lib.hid hk0
 have HB4:=Lib.hid hb4
 have HSH:=Lib.hid hSh
 have HX64:=Lib.hid hX64
 clear hb4 hk0 hW0 hSh hX64
 generalize hXX:putAll B ps=X at *
 have HXX:=Lib.hid hXX
 clear hXX
 generalize hz0:inoC inoZ (.slice none 0 0)=Z0 at *
 have HZ0:=Lib.hid hz0
 clear hz0
 have hz18:Z0.size=18:=by rw[←HZ0.out];rfl
 by_cases hi:0≤i∧i<32
 ·have hin:inodeN i=((824+8*i.toNat:Nat):Int):=by rw[inodeN,if_neg (by omega)];omega
  rw[hin] at HI
  have hp0:¬((824+8*i.toNat:Nat):Int)<0:=by omega
  have HROW:=Lib.hid (rowAt_at (HSH.out.keep HK0.out (by simp) (by simp)) (824+8*i.toNat) (by omega))
  rw[HXX.out] at HROW
  have hr8:=rowL_len X (824+8*i.toNat)
  obtain⟨r,hr⟩:∃r,r=rowL X (824+8*i.toNat):=⟨_,rfl⟩
  have hrI:inoAtX X i=r:=by rw[hr];rfl
  have HR64:Hid (W64 r):=by rw[hr];exact W64.row HX64.out _
  rw[←hr] at HROW hr8
  have HRI:=Lib.hid hrI
  clear hr hrI hin
  generalize hpi:((824+8*i.toNat:Nat):Int)=pi at *
  clear hpi
  generalize hz8:(u64s (List.replicate 8 0)).toArray=Z8 at *
  have HZ8:=Lib.hid hz8
  clear hz8
  go_enter Tryz.func61,Tryz.ntmps61
  go_wp2_with fail
  refine(HI.out _).mono ?_;rintro e wy ⟨rfl,rfl⟩
  go_wp2_with fail
  refine(HI.out _).mono ?_;rintro e wy ⟨rfl,rfl⟩
  go_wp2_with fail
  rw[←HW0.out]
  refine HROW.out.mono ?_;rintro e w1 ⟨rfl,hk1⟩
  obtain⟨w2,hS1,hb7,hk2⟩:=store_whole (P:= Tryz.prog) (ty:= 74) (cs:=u64s r) (by rw[u64s_len,hr8];exact size_r8) (Blk.new w1 Z8 74) (by rw[←HZ8.out];simp[u64s_len,hr8]) (u64s_one _)
  have hz1:=hk1.size
  have HK2:Hid (Keeps [] W0 w2):=(hk1.alloc (.cells Z8 74)).trans hk2 (by intro x hx;rw[List.mem_singleton] at hx;omega)
  have HB7:=Lib.hid hb7
  have HS1:=Lib.hid hS1
  have HLR:Hid (∀wx,Keeps [] w2 wx→(loadVar 74 ⟨w1.heap.size,0,none⟩).run Tryz.prog wx= .ok (.agg (u64s r).toArray) wx):=λwx hk=>load_r8 (HB7.out.keep hk (by simp)) hr8
  have HKW2:=Lib.hid (HK0.out.trans' HK2.out)
  have HSE:=seeming_at (HSH.out.keep HKW2.out (by simp) (by simp)) (by rw[HXX.out];exact HX64.out) hr8 HR64.out
  rw[HXX.out] at HSE
  have HSEE:=Lib.hid HSE
  clear hS1 hb7 hk2 hk1 hz1 HROW HSE
  generalize hg7:w1.heap.size=g7 at *
  have HLR0:=Lib.hid (HLR.out w2 (Keeps.refl _ _))
  go_wp2_with(first|((with_reducible show wpList _ _ _ (⟨_,.store 74 (.tmp 7) (.tmp 18),_,_,_,_⟩::_) _ _);refine wpList_store_any rfl 74 (.tmp 7) (.tmp 18) rfl _ rfl _ rfl _ HS1.out ?_)|((with_reducible show wpList _ _ _ (⟨_,.load 74 (.tmp 7),_,_,_,_⟩::_) _ _);refine wpList_load_any rfl 74 (.tmp 7) rfl _ rfl _ HLR0.out ?_))
  refine HSEE.out.mono ?_
  rintro e w3 ⟨n,v,g,own,vo,go,ok,rfl,hB13,hE,hg,hO,hgo,hk3,h1,h2⟩
  obtain⟨w4,hS4,hb8,hk4⟩:=store_whole (P:= Tryz.prog) (ty:= 37) (cs:=inoL n v) (by rw[inoL_len,hB13];exact size_ino) (Blk.new w3 Z0 37) (by rw[hz18,inoL_len,hB13]) (inoL_one (by obtain⟨a,c,rfl,-⟩:=hE;rfl))
  have hz3:=hk3.size
  have HK4:Hid (Keeps [] w2 w4):=(hk3.alloc (.cells Z0 37)).trans hk4 (by intro x hx;rw[List.mem_singleton] at hx;omega)
  have hb8':Blk w4 w3.heap.size (inoC n v) 37 :=hb8
  have cF:w4.cell? ⟨w3.heap.size,0,none⟩=some (.int .i64 n.F):=by rw[hb8'.cell];exact(inoAt _ hB13).f0
  have HLN:Hid (∀wx,Keeps [] w4 wx→(loadVar 37 ⟨w3.heap.size,0,none⟩).run Tryz.prog wx= .ok (.agg (inoC n v)) wx):=λwx hk=>load_ino (hb8'.keep hk (by simp)) hB13
  have hk34:Keeps [w3.heap.size] w3 w4:=((Keeps.refl [w3.heap.size] w3).alloc (.cells Z0 37)).trans' hk4
  have hE4:EReads w4 v g n.E:=hE.keep hk34 (λh0=>by
   have :=hE.apart (l:=[w3.heap.size]) (λx hx=>by rw[List.mem_singleton] at hx;omega) h0
   exact this)
  have hO4:∃go',RowI w4 vo go' own∧w2.heap.size≤go':=hO.away hgo hk34 (λx hx=>by rw[List.mem_singleton] at hx;omega)
  obtain⟨go',hO4,hgo'⟩:=hO4
  have HE4:=Lib.hid hE4
  have HO4:=Lib.hid hO4
  have HS4:Hid ((storeVar 37 ⟨w3.heap.size,0,none⟩ (.agg (inoC n v))).run Tryz.prog (w3.alloc (.cells Z0 37))= .ok () w4):=hS4
  have H1:=Lib.hid h1
  have H2:=Lib.hid h2
  have HBN:=Lib.hid hB13
  have HG:=Lib.hid hg
  have HGO:=Lib.hid hgo'
  have HZ3:=Lib.hid hz3
  clear hS4 hb8 hb8' hk4 hk34 hE4 hO4 hE hO hg hgo hgo' hk3 h1 h2 hB13 hz3 HSEE
  generalize hg8:w3.heap.size=g8 at *
  have HUN:Hid (ok=true→∀n' own',ReadP X i n' own'→n'=n∧own'=own):=λhok n' own' h=>by
   have :=h.2.1
   rw[HRI.out] at this
   exact(H1.out hok).1.uniq this h.2.2.2.1
  cases ok with
  |false=>
   obtain⟨w9,hsb,hlb,hpb⟩:=HBAD.out w4 (HK2.out.trans' HK4.out) (λn' own' h=>by have :=h.2.1;rw[HRI.out] at this;exact H2.out rfl n' own' this)
   have HSB:=Lib.hid hsb
   have HLB:=Lib.hid hlb
   have HPB:=Lib.hid hpb
   clear hsb hlb hpb HBAD H1 H2
   go_wp2_with(first|((with_reducible show wpList _ _ _ (⟨_,.store 37 (.tmp 8) (.tmp 23),_,_,_,_⟩::_) _ _);refine wpList_store_any rfl 37 (.tmp 8) (.tmp 23) rfl _ rfl _ rfl _ HS4.out ?_)|((with_reducible show wpList _ _ _ (⟨_,.store 37 (.tmp 4) (.tmp 53),_,_,_,_⟩::_) _ _);refine wpList_store_any rfl 37 (.tmp 4) (.tmp 53) rfl _ rfl _ rfl _ HSB.out ?_))
   exact bodyPost_ret (results_cell3 Tryz.results61 rfl HLB.out rfl rfl) rfl HPB.out
  |true=>
   by_cases hF:n.F=2
   ·rw[hF] at cF
    have HFE:=Lib.hid hF
    clear hF
    have HSZN:Hid (∀k,k<n.E.length→(enm n.E k).size≤9223372036854775807):=λk hk=>by have :=(H1.out rfl).2.2.2.2 k hk;omega
    have HRT:Hid (∀wx,Keeps [] w4 wx→Calls Tryz.prog 39 #[.agg (inoC n v)] wx λe w'=>e= .returned (.bool (decide (RightP n)))∧Keeps [] wx w'):=λwx hk=>right_at n v g HBN.out wx (HE4.out.keep hk (by simp)) HSZN.out
    have HND:Hid (∀wx,Keeps [] w4 wx→Calls Tryz.prog 84 #[.agg (inoC n v)] wx λe w'=>e= .returned (.int .i64 ((if RightP n then needF n else 0:Nat):Int))∧Keeps [] wx w'):=λwx hk=>need2_at n v g HBN.out wx (HE4.out.keep hk (by simp)) (by have :=(H1.out rfl).2.2.2.1;omega) HSZN.out
    have HIL:Hid (RightP n→own.length=needF n→∀wx,Keeps [] w4 wx→Calls Tryz.prog 85 #[.pointer (some ⟨b,0,none⟩),.agg (u64s r).toArray,.agg (inoC n v),vo] wx λe w'=>∃t:Bool,e= .returned (.bool t)∧(t=true↔IsLaidP X r n own)∧Keeps [] wx w'):=λhR hN wx hk=>by
     have h:=isLaid_at (R:=r) (((HSH.out.keep HKW2.out (by simp) (by simp)).keep HK4.out (by simp) (by simp)).keep hk (by simp) (by simp)) n v g HBN.out hR (HE4.out.keep hk (by simp)) vo go' own (HO4.out.keep hk (by simp)).reads hN (λc hc=>((H1.out rfl).2.2.1 c hc).2) hr8
     rw[HXX.out] at h
     exact h
    have HZN:Hid (∀wx,Keeps [] w4 wx→(loadVar 37 ⟨g8,0,none⟩).run Tryz.prog wx= .ok (.agg (inoC n v)) wx):=HLN.out
    have HV1:Hid (v.oneCell'=true):=by obtain⟨a,c,rfl,-⟩:=HE4.out;rfl
    have HGOOD:Hid (∀wz,Keeps [] w4 wz→ReadP X i n own→∃w',(storeVar 37 ⟨w.heap.size,0,none⟩ (.agg (inoC n v))).run Tryz.prog wz= .ok () w'∧(loadVar 37 ⟨w.heap.size,0,none⟩).run Tryz.prog w'= .ok (.agg (inoC n v)) w'∧Read2Post w X i (.returned (.tuple #[.agg (inoC n v),vo,.bool true])) w'):=λwz hk hrp=>by
     obtain⟨w',q1,q2,q3⟩:=store_whole (P:= Tryz.prog) (ty:= 37) (cs:=inoL n v) (by rw[inoL_len,HBN.out];exact size_ino) (((HB4.out.keep HK2.out (by simp)).keep HK4.out (by simp)).keep hk (by simp)) (by rw[hz18,inoL_len,HBN.out]) (inoL_one HV1.out)
     have hw2:=HKW2.out.size
     have hg:=HG.out
     have hgo:=HGO.out
     have hw0:=HK2.out.size
     refine⟨w',q1,load_ino q2 HBN.out,n,v,g,own,vo,go',true,rfl,HBN.out,(HE4.out.keep hk (by simp)).keep q3 (λ_=>by rw[List.mem_singleton];omega),by omega,(HO4.out.keep hk (by simp)).keep q3 (by rw[List.mem_singleton];omega),by omega,(HKW2.out.trans' (HK4.out.trans' hk)).trans q3 (by intro x hx;rw[List.mem_singleton] at hx;omega),λ_=>⟨hrp,(H1.out rfl).2⟩,λh=>by cases h⟩
    have HLR4:Hid (∀wx,Keeps [] w4 wx→(loadVar 74 ⟨g7,0,none⟩).run Tryz.prog wx= .ok (.agg (u64s r).toArray) wx):=λwx hk=>HLR.out wx (HK4.out.trans' hk)
    obtain⟨av,cv,hvo,-,-,-⟩:=ints_cellR HO4.out.reads
    subst hvo
    generalize hzn:inoC n v=ZN at *
    clear hzn
    go_wp2_with(first|((with_reducible show wpList _ _ _ (⟨_,.store 37 (.tmp 8) (.tmp 23),_,_,_,_⟩::_) _ _);refine wpList_store_any rfl 37 (.tmp 8) (.tmp 23) rfl _ rfl _ rfl _ HS4.out ?_)|((with_reducible show wpList _ _ _ (⟨_,.load 37 (.tmp 8),_,_,_,_⟩::_) _ _);refine wpList_load_want rfl 37 (.tmp 8) rfl _ rfl _ (HLN.out _ (Keeps.refl _ _)) ?_))
    refine(HRT.out _ (Keeps.refl _ _)).mono ?_;rintro e w5 ⟨rfl,hk5⟩
    have HK5:=Lib.hid hk5
    clear hk5
    by_cases hR:RightP n
    ·rw[decide_eq_true hR]
     have HRR:=Lib.hid hR
     go_wp2_with(first|((with_reducible show wpList _ _ _ (⟨_,.load 37 (.tmp 8),_,_,_,_⟩::_) _ _);refine wpList_load_want rfl 37 (.tmp 8) rfl _ rfl _ (HLN.out _ HK5.out) ?_))
     refine(HND.out _ HK5.out).mono ?_;rintro e w6 ⟨rfl,hk6⟩
     rw[if_pos hR]
     have HK6:=Lib.hid (HK5.out.trans' hk6)
     clear hk6 hR
     by_cases hN:own.length=needF n
     ·have HNN:=Lib.hid hN
      rw[←hN]
      clear hN
      go_wp2_with(first|((with_reducible show wpList _ _ _ (⟨_,.load 37 (.tmp 8),_,_,_,_⟩::_) _ _);refine wpList_load_want rfl 37 (.tmp 8) rfl _ rfl _ (HLN.out _ HK6.out) ?_)|((with_reducible show wpList _ _ _ (⟨_,.load 74 (.tmp 7),_,_,_,_⟩::_) _ _);refine wpList_load_want rfl 74 (.tmp 7) rfl _ rfl _ (HLR4.out _ HK6.out) ?_))
      refine(HIL.out HRR.out HNN.out _ HK6.out).mono ?_;rintro e w7 ⟨t,rfl,ht,hk7⟩
      have HK7:=Lib.hid (HK6.out.trans' hk7)
      have HT:=Lib.hid ht
      clear hk7 ht
      cases t with
      |false=>
       obtain⟨w9,hsb,hlb,hpb⟩:=HBAD.out w7 ((HK2.out.trans' HK4.out).trans' HK7.out) (λn' own' h=>by
        obtain⟨rfl,rfl⟩:=HUN.out (by trivial) n' own' h
        have h1:=h.2.2.2.2.2
        rw[HRI.out] at h1
        have :=HT.out.2 h1
        cases this)
       have HSB:=Lib.hid hsb
       have HLB:=Lib.hid hlb
       have HPB:=Lib.hid hpb
       clear hsb hlb hpb HBAD H1 H2 HT
       go_wp2_with(first|((with_reducible show wpList _ _ _ (⟨_,.store 37 (.tmp 4) (.tmp 53),_,_,_,_⟩::_) _ _);refine wpList_store_any rfl 37 (.tmp 4) (.tmp 53) rfl _ rfl _ rfl _ HSB.out ?_))
       exact bodyPost_ret (results_cell3 Tryz.results61 rfl HLB.out rfl rfl) rfl HPB.out
      |true=>
       obtain⟨w9,hsb,hlb,hpb⟩:=HGOOD.out w7 HK7.out ⟨hi,by rw[HRI.out];exact(H1.out (by trivial)).1,HFE.out,HRR.out,HNN.out,by rw[HRI.out];exact HT.out.1 rfl⟩
       have HSB:=Lib.hid hsb
       have HLB:=Lib.hid hlb
       have HPB:=Lib.hid hpb
       have HLN7:=Lib.hid (HLN.out _ HK7.out)
       clear hsb hlb hpb HBAD H1 H2 HT HGOOD
       go_wp2_with(first|((with_reducible show wpList _ _ _ (⟨_,.load 37 (.tmp 8),_,_,_,_⟩::_) _ _);refine wpList_load_any rfl 37 (.tmp 8) rfl _ rfl _ HLN7.out ?_)|((with_reducible show wpList _ _ _ (⟨_,.store 37 (.tmp 4) (.tmp 54),_,_,_,_⟩::_) _ _);refine wpList_store_any rfl 37 (.tmp 4) (.tmp 54) rfl _ rfl _ rfl _ HSB.out ?_))
       exact bodyPost_ret (results_cell3 Tryz.results61 rfl HLB.out rfl rfl) rfl HPB.out
     ·have hN':((own.length:Int)==((needF n:Nat):Int))=false:=by simp;omega
      obtain⟨w9,hsb,hlb,hpb⟩:=HBAD.out w6 ((HK2.out.trans' HK4.out).trans' HK6.out) (λn' own' h=>by obtain⟨rfl,rfl⟩:=HUN.out (by trivial) n' own' h;exact hN h.2.2.2.2.1)
      have HSB:=Lib.hid hsb
      have HLB:=Lib.hid hlb
      have HPB:=Lib.hid hpb
      clear hsb hlb hpb HBAD H1 H2
      go_wp2_with(first|((with_reducible show wpList _ _ _ (⟨_,.store 37 (.tmp 4) (.tmp 53),_,_,_,_⟩::_) _ _);refine wpList_store_any rfl 37 (.tmp 4) (.tmp 53) rfl _ rfl _ rfl _ HSB.out ?_))
      exact bodyPost_ret (results_cell3 Tryz.results61 rfl HLB.out rfl rfl) rfl HPB.out
    ·rw[decide_eq_false hR]
     obtain⟨w9,hsb,hlb,hpb⟩:=HBAD.out w5 ((HK2.out.trans' HK4.out).trans' HK5.out) (λn' own' h=>by obtain⟨rfl,rfl⟩:=HUN.out (by trivial) n' own' h;exact hR h.2.2.2.1)
     have HSB:=Lib.hid hsb
     have HLB:=Lib.hid hlb
     have HPB:=Lib.hid hpb
     clear hsb hlb hpb HBAD H1 H2
     go_wp2_with(first|((with_reducible show wpList _ _ _ (⟨_,.store 37 (.tmp 4) (.tmp 53),_,_,_,_⟩::_) _ _);refine wpList_store_any rfl 37 (.tmp 4) (.tmp 53) rfl _ rfl _ rfl _ HSB.out ?_))
     exact bodyPost_ret (results_cell3 Tryz.results61 rfl HLB.out rfl rfl) rfl HPB.out
   ·have hF':(n.F==2)=false:=by simpa using hF
    obtain⟨w9,hsb,hlb,hpb⟩:=HBAD.out w4 (HK2.out.trans' HK4.out) (λn' own' h=>by obtain⟨rfl,rfl⟩:=HUN.out (by trivial) n' own' h;exact hF h.2.2.1)
    have HSB:=Lib.hid hsb
    have HLB:=Lib.hid hlb
    have HPB:=Lib.hid hpb
    clear hsb hlb hpb HBAD H1 H2
    go_wp2_with(first|((with_reducible show wpList _ _ _ (⟨_,.store 37 (.tmp 8) (.tmp 23),_,_,_,_⟩::_) _ _);refine wpList_store_any rfl 37 (.tmp 8) (.tmp 23) rfl _ rfl _ rfl _ HS4.out ?_)|((with_reducible show wpList _ _ _ (⟨_,.store 37 (.tmp 4) (.tmp 53),_,_,_,_⟩::_) _ _);refine wpList_store_any rfl 37 (.tmp 4) (.tmp 53) rfl _ rfl _ rfl _ HSB.out ?_))
    exact bodyPost_ret (results_cell3 Tryz.results61 rfl HLB.out rfl rfl) rfl HPB.out
 ·have hin:inodeN i= -1:=by rw[inodeN,if_pos (by omega)]
  rw[hin] at HI
  obtain⟨w9,hsb,hlb,hpb⟩:=HBAD.out W0 (Keeps.refl _ _) (λn' own' h=>hi h.1)
  rw[HW0.out] at hsb
  have HSB:=Lib.hid hsb
  have HLB:=Lib.hid hlb
  have HPB:=Lib.hid hpb
  clear hsb hlb hpb HBAD
  go_enter Tryz.func61,Tryz.ntmps61
  go_wp2_with fail
  refine(HI.out _).mono ?_;rintro e wy ⟨rfl,rfl⟩
  go_wp2_with(first|((with_reducible show wpList _ _ _ (⟨_,.store 37 (.tmp 4) (.tmp 14),_,_,_,_⟩::_) _ _);refine wpList_store_any rfl 37 (.tmp 4) (.tmp 14) rfl _ rfl _ rfl _ HSB.out ?_))
  exact bodyPost_ret (results_cell3 Tryz.results61 rfl HLB.out rfl rfl) rfl HPB.out
set_option maxHeartbeats 400000 in
theorem isInode_at (i:Int) (w:World):Calls Tryz.prog 23 #[.int .i64 i] w λe w'=>e= .returned (.bool (decide (0≤i∧i<32)))∧w=w':=by
 have HI:=Lib.hid (txInode_at i)
 by_cases h:0≤i∧i<32
 ·rw[decide_eq_true h]
  have hn:0≤inodeN i:=by unfold inodeN;rw[if_neg (by omega)];omega
  clear h
  go_enter Tryz.func23,Tryz.ntmps23
  go_wp2_with fail
  refine(HI.out _).mono ?_;rintro e w' ⟨rfl,rfl⟩
  go_wp2_with fail
  go_ret
  exact⟨rfl,rfl⟩
 ·rw[decide_eq_false h]
  have hn:¬0≤inodeN i:=by unfold inodeN;rw[if_pos (by omega)];omega
  clear h
  go_enter Tryz.func23,Tryz.ntmps23
  go_wp2_with fail
  refine(HI.out _).mono ?_;rintro e w' ⟨rfl,rfl⟩
  go_wp2_with fail
  go_ret
  refine⟨?_,rfl⟩
  show Ending.returned (.bool (decide (0≤inodeN i)))=_
  rw[decide_eq_false (by omega)]
theorem size_fm:(Tryz.prog.info? 70).map (·.size)=some 2:=by kernel_rfl
theorem load_fm {w:World} {g:Nat} {a b:Value} (hb:Blk w g #[a,b] 70):(loadVar 70 ⟨g,0,none⟩).run Tryz.prog w= .ok (.agg #[a,b]) w:=by
 have :=run_loadVar_cells (P:= Tryz.prog) (w:=w) g 0 [a,b] Tryz.underlying70 rfl size_fm λj hj=>by
  rw[Nat.zero_add,hb.cell,←Array.getElem?_toList]
 simpa using this
theorem store_fm {w:World} {g:Nat} {a b c d:Value} (hb:Blk w g #[c,d] 70) (ha:a.oneCell'=true) (hbb:b.oneCell'=true):
  ∃w',(storeVar 70 ⟨g,0,none⟩ (.agg #[a,b])).run Tryz.prog w= .ok () w'∧Blk w' g #[a,b] 70∧Keeps [g] w w':=
 store_whole (P:= Tryz.prog) (ty:= 70) (cs:=[a,b]) size_fm hb rfl (by intro v hv;simp at hv;rcases hv with rfl|rfl<;>assumption)
def FormatPost (w:World) (k:Int) (e:Ending) (w':World):Prop:=
 Keeps [] w w'∧∃a b,a.oneCell'=true∧b.oneCell'=true∧e= .returned (.tuple #[.agg #[a,b],.bool (decide (k=1∨k=2))])∧
  (k=1→a=(.func (.func 43) #[] #[])∧b=(.func (.func 44) #[] #[]))∧(k=2→a=(.func (.func 45) #[] #[])∧b=(.func (.func 46) #[] #[]))
set_option maxHeartbeats 1000000 in
theorem formatOf_at (k:Int) (w:World):Calls Tryz.prog 25 #[.int .i64 k] w (FormatPost w k):=by
 have hb0:=Blk.new w #[.nilFunc,.nilFunc] 70
 have hk0:Keeps [] w (w.alloc (.cells #[.nilFunc,.nilFunc] 70)):=(Keeps.refl _ _).alloc _
 have HST:Hid (∀a b:Value,a.oneCell'=true→b.oneCell'=true→∃w',(storeVar 70 ⟨w.heap.size,0,none⟩ (.agg #[a,b])).run Tryz.prog (w.alloc (.cells #[.nilFunc,.nilFunc] 70))= .ok () w'∧(loadVar 70 ⟨w.heap.size,0,none⟩).run Tryz.prog w'= .ok (.agg #[a,b]) w'∧Keeps [] w w'):=λa b h1 h2=>by
  obtain⟨w',q1,q2,q3⟩:=store_fm hb0 h1 h2
  exact⟨w',q1,load_fm q2,hk0.trans q3 (by simp)⟩
 clear hb0 hk0
 by_cases h1:k=1
 ·subst h1
  obtain⟨w1,hst,hld,hk⟩:=HST.out (.func (.func 43) #[] #[]) (.func (.func 44) #[] #[]) rfl rfl
  have HS:=Lib.hid hst
  have HL:=Lib.hid hld
  have HK:=Lib.hid hk
  clear hst hld hk HST
  go_enter Tryz.func25,Tryz.ntmps25
  go_wp2_with((with_reducible show wpList _ _ _ (⟨_,.store 70 (.tmp 2) (.tmp 7),_,_,_,_⟩::_) _ _);refine wpList_store_any rfl 70 (.tmp 2) (.tmp 7) rfl _ rfl _ rfl _ HS.out ?_)
  refine bodyPost_ret (results_cell2 Tryz.results25 rfl HL.out rfl) rfl ?_
  exact⟨HK.out,_,_,rfl,rfl,rfl,λ_=>⟨rfl,rfl⟩,λh=>by omega⟩
 ·by_cases h2:k=2
  ·subst h2
   obtain⟨w1,hst,hld,hk⟩:=HST.out (.func (.func 45) #[] #[]) (.func (.func 46) #[] #[]) rfl rfl
   have HS:=Lib.hid hst
   have HL:=Lib.hid hld
   have HK:=Lib.hid hk
   clear hst hld hk HST h1
   go_enter Tryz.func25,Tryz.ntmps25
   go_wp2_with((with_reducible show wpList _ _ _ (⟨_,.store 70 (.tmp 2) (.tmp 10),_,_,_,_⟩::_) _ _);refine wpList_store_any rfl 70 (.tmp 2) (.tmp 10) rfl _ rfl _ rfl _ HS.out ?_)
   refine bodyPost_ret (results_cell2 Tryz.results25 rfl HL.out rfl) rfl ?_
   exact⟨HK.out,_,_,rfl,rfl,rfl,λh=>by omega,λ_=>⟨rfl,rfl⟩⟩
  ·obtain⟨w1,hst,hld,hk⟩:=HST.out .nilFunc .nilFunc rfl rfl
   have HS:=Lib.hid hst
   have HL:=Lib.hid hld
   have HK:=Lib.hid hk
   have e1:(k==1)=false:=by simpa using h1
   have e2:(k==2)=false:=by simpa using h2
   have HD:Hid (decide (k=1∨k=2)=false):=decide_eq_false (by omega)
   have H1:=Lib.hid h1
   have H2:=Lib.hid h2
   clear hst hld hk HST h1 h2
   go_enter Tryz.func25,Tryz.ntmps25
   go_wp2_with((with_reducible show wpList _ _ _ (⟨_,.store 70 (.tmp 2) (.tmp 11),_,_,_,_⟩::_) _ _);refine wpList_store_any rfl 70 (.tmp 2) (.tmp 11) rfl _ rfl _ rfl _ HS.out ?_)
   refine bodyPost_ret (results_cell2 Tryz.results25 rfl HL.out rfl) rfl ?_
   refine⟨HK.out,.nilFunc,.nilFunc,rfl,rfl,?_,λh=>absurd h H1.out,λh=>absurd h H2.out⟩
   rw[HD.out]
   rfl
def placeV (b:Nat) (i:Int):Value:= .agg #[.pointer (some ⟨b,0,none⟩),.int .i64 i]
def placeW (w:World) (b:Nat) (i:Int):World:=(w.alloc (.cells #[.pointer (some ⟨b,0,none⟩),.int .i64 i] 79)).alloc (.cells (inoC inoZ (.slice none 0 0)) 37)
theorem placeW_facts (w:World) (b:Nat) (i:Int):Keeps [] w (placeW w b i)∧Blk (placeW w b i) (w.heap.size+1) (inoC inoZ (.slice none 0 0)) 37 :=by
 refine⟨((Keeps.refl _ _).alloc _).alloc _,?_⟩
 have :=Blk.new (w.alloc (.cells #[.pointer (some ⟨b,0,none⟩),.int .i64 i] 79)) (inoC inoZ (.slice none 0 0)) 37
 rwa[show(w.alloc (.cells #[.pointer (some ⟨b,0,none⟩),.int .i64 i] 79)).heap.size=w.heap.size+1 by simp] at this
theorem store_read {w w1 w2:World} {g0:Nat} (hb:Blk w1 g0 (inoC inoZ (.slice none 0 0)) 37) (hw:w.heap.size≤g0) (hk0:Keeps [] w w1) (hk:Keeps [] w1 w2) {n:Ino} {v:Value} (hB:n.B.length=13) (h1:v.oneCell'=true):
  ∃w',(storeVar 37 ⟨g0,0,none⟩ (.agg (inoC n v))).run Tryz.prog w2= .ok () w'∧(loadVar 37 ⟨g0,0,none⟩).run Tryz.prog w'= .ok (.agg (inoC n v)) w'∧Keeps [g0] w2 w'∧Keeps [] w w':=by
 obtain⟨w',q1,q2,q3⟩:=store_ino (hb.keep hk (by simp)) rfl hB h1
 exact⟨w',q1,load_ino q2 hB,q3,(hk0.trans' hk).trans q3 (by intro x hx;rw[List.mem_singleton] at hx;omega)⟩
set_option maxHeartbeats 1000000 in
theorem readOld_at {w:World} {b gp:Nat} {B:List Int} {ps:List (Int×Int)} (h:ShAt w b gp B ps) (h64:In64 (putAll B ps)) (i:Int):
  Calls Tryz.prog 43 #[placeV b i] w (ReadPost w (putAll B ps) i):=by
 obtain⟨hk0,hb0⟩:=placeW_facts w b i
 have HR:=Lib.hid (read_at (h.keep hk0 (by simp) (by simp)) h64 i)
 have HB0:=Lib.hid hb0
 have hzi:=zero_ino
 have HK0:=Lib.hid hk0
 clear h h64 hk0 hb0
 unfold placeV
 generalize hpw:placeW w b i=W0 at *
 have hw0:(w.alloc (.cells #[.pointer (some ⟨b,0,none⟩),.int .i64 i] 79)).alloc (.cells (inoC inoZ (.slice none 0 0)) 37)=W0:=hpw
 have HW0:=Lib.hid hw0
 clear hpw hw0
 go_enter Tryz.func43,Tryz.ntmps43
 go_wp2_with fail
 rw[HW0.out]
 refine HR.out.mono ?_;rintro e w2 ⟨n,v,g,own,va,ga,ok,rfl,hB,hE,hg,hO,hga,ho1,ho2,hk⟩
 obtain⟨w3,hst,hld,hk3,hkk⟩:=store_read HB0.out (by omega) HK0.out hk hB (reads_one hE)
 have HS:=Lib.hid hst
 have HL:=Lib.hid hld
 have HP:Hid (ReadPost w (putAll B ps) i (.returned (.tuple #[.agg (inoC n v),va,.bool ok])) w3):=by
  have hz:=HK0.out.size
  refine⟨n,v,g,own,va,ga,ok,rfl,hB,hE.keep hk3 (λh0=> ?_),by omega,hO.keep hk3 ?_,by omega,ho1,ho2,hkk⟩
  ·have :=HB0.out.lt
   simp
   omega
  ·have :=HB0.out.lt
   simp
   omega
 clear hst hld hk3 hkk hE hO ho1 ho2 hk HR HK0 HB0
 generalize inoC n v=Z at *
 go_wp2_with((with_reducible show wpList _ _ _ (⟨_,.store 37 (.tmp 2) (.tmp 10),_,_,_,_⟩::_) _ _);refine wpList_store_any rfl 37 (.tmp 2) (.tmp 10) rfl _ rfl _ rfl _ HS.out ?_)
 exact bodyPost_ret (results_cell3 Tryz.results43 rfl HL.out rfl rfl) rfl HP.out
set_option maxHeartbeats 1000000 in
theorem readNew_at {w:World} {b gp:Nat} {B:List Int} {ps:List (Int×Int)} (h:ShAt w b gp B ps) (h64:W64 (putAll B ps)) (i:Int):
  Calls Tryz.prog 45 #[placeV b i] w (Read2Post w (putAll B ps) i):=by
 obtain⟨hk0,hb0⟩:=placeW_facts w b i
 have HR:=Lib.hid (read2_at (h.keep hk0 (by simp) (by simp)) h64 i)
 have HB0:=Lib.hid hb0
 have hzi:=zero_ino
 have HK0:=Lib.hid hk0
 clear h h64 hk0 hb0
 unfold placeV
 generalize hpw:placeW w b i=W0 at *
 have hw0:(w.alloc (.cells #[.pointer (some ⟨b,0,none⟩),.int .i64 i] 79)).alloc (.cells (inoC inoZ (.slice none 0 0)) 37)=W0:=hpw
 have HW0:=Lib.hid hw0
 clear hpw hw0
 go_enter Tryz.func45,Tryz.ntmps45
 go_wp2_with fail
 rw[HW0.out]
 refine HR.out.mono ?_;rintro e w2 ⟨n,v,g,own,va,ga,ok,rfl,hB,hE,hg,hO,hga,hk,ho1,ho2⟩
 obtain⟨w3,hst,hld,hk3,hkk⟩:=store_read HB0.out (by omega) HK0.out hk hB (reads_one hE)
 have HS:=Lib.hid hst
 have HL:=Lib.hid hld
 have HP:Hid (Read2Post w (putAll B ps) i (.returned (.tuple #[.agg (inoC n v),va,.bool ok])) w3):=by
  have hz:=HK0.out.size
  refine⟨n,v,g,own,va,ga,ok,rfl,hB,hE.keep hk3 (λh0=> ?_),by omega,hO.keep hk3 ?_,by omega,hkk,ho1,ho2⟩
  ·have :=HB0.out.lt
   simp
   omega
  ·have :=HB0.out.lt
   simp
   omega
 clear hst hld hk3 hkk hE hO ho1 ho2 hk HR HK0 HB0
 generalize inoC n v=Z at *
 go_wp2_with((with_reducible show wpList _ _ _ (⟨_,.store 37 (.tmp 2) (.tmp 10),_,_,_,_⟩::_) _ _);refine wpList_store_any rfl 37 (.tmp 2) (.tmp 10) rfl _ rfl _ rfl _ HS.out ?_)
 exact bodyPost_ret (results_cell3 Tryz.results45 rfl HL.out rfl rfl) rfl HP.out
end Go.Proofs.YtphojondgfjmgaaGreatDoor
