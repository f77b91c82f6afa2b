/-
  Layer 9: a list of inodes in memory; few. Layer 10, the laws' own: few; a sheet that is made of inodes. A range over a function: a law by Keeps, where the iterator tells what holds of that which it hands over. Nothing of the program is named here. Layer 10: got: the inodes that can be got, handed over one by one. Layer 10: the points that are asked without a range over a function: the words, whether all is got, whether all is reached. Layer 10: the points over numbers that are counted: the blocks; a row of counts; a file's last bytes.
-/
import Derived.Test.YtphojondgfjmgaaGreatDoorG18
import Derived.Test.YtphojondgfjmgaaGreatDoorG15
import Derived.Test.YtphojondgfjmgaaGreatDoorG19
import Derived.Test.YtphojondgfjmgaaGreatDoorG14
import Derived.Test.YtphojondgfjmgaaGreatDoorG12
import Derived.Test.YtphojondgfjmgaaGreatDoorG02
import Derived.Test.YtphojondgfjmgaaGreatDoorG03
import Derived.Test.YtphojondgfjmgaaGreatDoorG07
import Derived.RangeFuncNested
import Derived.RangeFuncBound
import Derived.Shelf.Abstract
import Derived.Shelf.RegionOpen
import Derived.WalkKit
import Derived.OwnWalkIn
import Derived.TacticsInMore
import Derived.LoopNIn
import Derived.LoopIn
namespace Go.Proofs.YtphojondgfjmgaaGreatDoor
open Go.RowKit
def NIns (W:World) (v:Value) (l:List (Ino×Value)):Prop:=
 (∀p∈l,p.1.B.length=13∧∃g,EReads W p.2 g p.1.E)∧∃a cap,v= .slice a l.length cap∧l.length≤cap∧cap≤maxLen∧
  (l.length≠0→∃g off,a=some ⟨g,off,none⟩∧g<W.heap.size∧∀j,j<l.length→∀c,c<18→W.cell? ⟨g,off+(j*18+c),none⟩=(inoL (nT l j) (vT l j))[c]?)
theorem NIns.get {W:World} {a:Option Addr} {cap m:Nat} {l:List (Ino×Value)} (h:NIns W (.slice a m cap) l) {j:Nat} (hj:j<l.length):∃g off,a=some ⟨g,off,none⟩∧(nT l j).B.length=13∧(∃ge,EReads W (vT l j) ge (nT l j).E)∧
  ∀wx,Keeps [] W wx→(loadVar 37 ⟨g,off+j*18,none⟩).run Tryz.prog wx= .ok (.agg (inoC (nT l j) (vT l j))) wx:=by
 obtain⟨h1,a',cap',e,h2,h3,h4⟩:=h
 cases e
 obtain⟨g,off,rfl,hg,hc⟩:=h4 (by omega)
 have hp:=h1 _ (List.getElem_mem hj)
 have e1:nT l j=l[j].1∧vT l j=l[j].2:=by
  unfold nT vT
  rw[List.getD_eq_getElem?_getD,List.getElem?_eq_getElem hj]
  exact⟨rfl,rfl⟩
 have hB:(nT l j).B.length=13:=by rw[e1.1];exact hp.1
 refine⟨g,off,rfl,hB,by rw[e1.1,e1.2];exact hp.2,λwx hk=> ?_⟩
 have hl:(inoL (nT l j) (vT l j)).length=18:=by rw[inoL_len,hB]
 refine run_loadVar_cells g (off+j*18) (inoL (nT l j) (vT l j)) Tryz.underlying37 rfl (by rw[hl];exact size_ino) λc hcc=> ?_
 rw[hl] at hcc
 rw[World.cell?_of_block (hk.block g hg (by simp)),Nat.add_assoc]
 exact hc j hj c hcc
def FewE (n:Ino):Prop:=n.E.length≤40∧∀k,k<n.E.length→(enm n.E k).size≤50
def FewsPost (w:World) (l:List (Ino×Value)) (e:Ending) (w':World):Prop:=∃b:Bool,e= .returned (.bool b)∧(b=true→l.length≤32∧∀j,j<l.length→FewE (nT l j))∧Keeps [] w w'
set_option maxRecDepth 100000 in
set_option maxHeartbeats 2000000 in
theorem few10_at {w:World} {a:Option Addr} {m cap:Nat} {l:List (Ino×Value)} (h:NIns w (.slice a m cap) l):
  Calls Tryz.prog 6 #[.slice a m cap] w (FewsPost w l):=by
 obtain⟨hml,hmc⟩:l.length=m∧m≤9223372036854775807:=by
  obtain⟨-,a',c',e,h1,h2,-⟩:=h
  cases e
  unfold maxLen at h2
  exact⟨rfl,by omega⟩
 have HG:Hid (∀j,j<m→∃g off,a=some ⟨g,off,none⟩∧(∀wx,Keeps [] w wx→(loadVar 37 ⟨g,off+j*18,none⟩).run Tryz.prog wx= .ok (.agg (inoC (nT l j) (vT l j))) wx)∧∀wx,Keeps [] w wx→Calls Tryz.prog 17 #[.agg (inoC (nT l j) (vT l j))] wx (FewPost wx (nT l j))):=λj hj=>by
  obtain⟨g,off,e,hB,⟨ge,hE⟩,hL⟩:=h.get (j:=j) (by omega)
  exact⟨g,off,e,hL,λwx hk=>refFew_at _ _ ge hB wx (hE.keep hk (by simp))⟩
 have HFP:Hid (∀(b:Bool) w',(b=true→m≤32∧∀j,j<m→FewE (nT l j))→Keeps [] w w'→FewsPost w l (.returned (.bool b)) w'):=λb w' h1 h2=>⟨b,rfl,by rw[hml];exact h1,h2⟩
 clear h hml
 go_enter Tryz.func6,Tryz.ntmps6
 go_wp2_with fail
 go_loopg [3] 32 (λgh s3 wx=>∃k:Nat,k+gh=32∧k≤m∧s3= .int .i64 (k:Int)∧Hid (Keeps [] w wx∧∀j,j<k→FewE (nT l j)))
 case atStart=>exact⟨0,rfl,by omega,rfl,Keeps.refl _ _,λj hj=>by omega⟩
 case round=>
  obtain⟨k,hk,hkm,rfl,HP⟩:=hrel
  by_cases hlt:k<m
  ·have hki:(k:Int)<(m:Int):=by omega
   have hk0:(0:Int)≤(k:Int):=by omega
   cases gk with
   |zero=>
    have h32:¬(k:Int)<32:=by omega
    have hm32:¬(m:Int)≤32:=by omega
    have HK:=Lib.hid HP.out.1
    clear HP HG
    go_wp2_with fail
    go_ret
    exact HFP.out _ _ (λh=>by cases h) HK.out
   |succ gg=>
    have h32:(k:Int)<32:=by omega
    obtain⟨g,off,rfl,hL,hF⟩:=HG.out k hlt
    have HL:=Lib.hid (hL wr HP.out.1)
    have HF:=Lib.hid (hF wr HP.out.1)
    clear hL hF
    obtain⟨Z,hZ⟩:∃Z,inoC (nT l k) (vT l k)=Z:=⟨_,rfl⟩
    rw[hZ] at HL HF
    clear hZ
    go_wp2_with((with_reducible show wpList _ _ _ (⟨_,.load 37 (.tmp 16),_,_,_,_⟩::_) _ _);refine wpList_load_any rfl 37 (.tmp 16) rfl _ rfl _ HL.out ?_)
    refine HF.out.mono ?_;rintro e w2 ⟨⟨b,rfl,hb⟩,hk2⟩
    have HK2:=Lib.hid (HP.out.1.trans' hk2)
    have HB:=Lib.hid hb
    clear hk2 hb HL HF
    cases b
    ·clear HP HG HB
     go_wp2_with fail
     go_ret
     exact HFP.out _ _ (λh=>by cases h) HK2.out
    ·have HN:Hid (∀j,j<k+1→FewE (nT l j)):=λj hj=>by
      by_cases e:j=k
      ·rw[e];exact HB.out rfl
      ·exact HP.out.2 j (by omega)
     clear HP HG HB
     go_wp2_with fail
     go_roundg gg
     case measure=>omega
     case rel=>exact⟨k+1,by omega,by omega,by go_num,HK2.out,HN.out⟩
  ·have hki:¬(k:Int)<(m:Int):=by omega
   obtain rfl:k=m:=by omega
   have HQ:=Lib.hid HP.out
   clear HP HG
   go_wp2_with fail
   go_ret
   exact HFP.out _ _ (λh=>⟨by have :=of_decide_eq_true h;omega,HQ.out.2⟩) HQ.out.1
def SheetW (W0:World) (b N:Nat) (A:List Nat) (wx:World):Prop:=
 ∃gp ps,ShAt wx b gp (padW []) ps∧gp<wx.heap.size∧W0.heap.size≤gp∧gp∉A∧ps.length≤N∧In64 (putAll (padW []) ps)∧Keeps [] W0 wx
theorem SheetW.keep {W0 wx w':World} {b N:Nat} {A:List Nat} (h:SheetW W0 b N A wx) {l:List Nat} (hk:Keeps l wx w') (hb:b∉l) (hl:∀k∈l,k∈A∧W0.heap.size≤k):SheetW W0 b N A w':=by
 obtain⟨gp,ps,h1,h2,h3,h4,h5,h6,h7⟩:=h
 exact⟨gp,ps,h1.keep hk hb (λhm=>h4 (hl _ hm).1),Nat.lt_of_lt_of_le h2 hk.size,h3,h4,h5,h6,h7.trans hk λx hx=> .inr (hl x hx).2⟩
theorem SheetW.keep0 {W0 wx w':World} {b N:Nat} {A:List Nat} (h:SheetW W0 b N A wx) (hk:Keeps [] wx w'):SheetW W0 b N A w':=h.keep hk (by simp) (by simp)
theorem SheetW.mono {W0 wx:World} {b N M:Nat} {A:List Nat} (h:SheetW W0 b N A wx) (hm:N≤M):SheetW W0 b M A wx:=by
 obtain⟨gp,ps,h1,h2,h3,h4,h5,h6,h7⟩:=h
 exact⟨gp,ps,h1,h2,h3,h4,by omega,h6,h7⟩
theorem SheetW.keeps {W0 wx:World} {b N:Nat} {A:List Nat} (h:SheetW W0 b N A wx):Keeps [] W0 wx:=by
 obtain⟨gp,ps,h1,h2,h3,h4,h5,h6,h7⟩:=h
 exact h7
theorem sw_step {W0 wx w':World} {b gp gp' N:Nat} {A:List Nat} {ps:List (Int×Int)} (hb:W0.heap.size≤b) (hg:gp'=gp∨(wx.heap.size≤gp'∧gp'<w'.heap.size)) (h2:gp<wx.heap.size) (h3:W0.heap.size≤gp) (h4:gp∉A) (hA:∀k∈A,k<wx.heap.size) (hs:ShAt w' b gp' (padW []) ps) (hN:ps.length≤N) (h64:In64 (putAll (padW []) ps)) (h7:Keeps [] W0 wx) (hk:Keeps [b,gp] wx w'):SheetW W0 b N A w':=by
 have hz:=hk.size
 have hz0:=h7.size
 refine⟨gp',ps,hs,by omega,by omega,λhm=> ?_,hN,h64,h7.trans hk (by intro y hy;simp only[List.mem_cons,List.not_mem_nil,or_false] at hy;omega)⟩
 rcases hg with rfl|hg
 ·exact h4 hm
 ·have :=hA _ hm
  omega
theorem sw_put {W0 wx:World} {b N:Nat} {A:List Nat} (hb:W0.heap.size≤b) (h:SheetW W0 b N A wx) (hN:N≤900000) (hA:∀k∈A,k<wx.heap.size) (i y:Int) (hy:0≤y∧y<18446744073709551616):
  Calls Tryz.prog 8 #[.pointer (some ⟨b,0,none⟩),.int .i64 i,.int .u64 y] wx λe w'=>e= .returned (.tuple #[])∧SheetW W0 b (N+1) A w'∧∃l,Keeps l wx w'∧∀k∈l,W0.heap.size≤k∧k∉A∨k=b:=by
 obtain⟨gp,ps,h1,h2,h3,h4,h5,h6,h7⟩:=h
 refine(txPut_at h1 (by omega) i y).mono ?_
 rintro e w' ⟨rfl,gp',hg,hs,hk⟩
 refine⟨rfl,sw_step hb hg h2 h3 h4 hA hs ?_ ?_ h7 hk,[b,gp],hk,λk hk=> ?_⟩
 ·unfold putN
  split
  ·rw[List.length_append,List.length_singleton];omega
  ·omega
 ·unfold putN
  split
  ·rw[putAll_append]
   exact h6.put (by intro p hp;rw[List.mem_singleton] at hp;subst hp;exact hy)
  ·exact h6
 ·simp only[List.mem_cons,List.not_mem_nil,or_false] at hk
  rcases hk with rfl|rfl
  ·exact .inr rfl
  ·exact .inl ⟨h3,h4⟩
theorem setPs_one (X:List Int) (b:Nat) (u:Bool):(setPs X b u).length≤1:=by
 unfold setPs
 split<;>simp
theorem sw_set {W0 wx:World} {b N:Nat} {A:List Nat} (hb:W0.heap.size≤b) (h:SheetW W0 b N A wx) (hN:N≤900000) (hA:∀k∈A,k<wx.heap.size) (i:Int) (u:Bool):
  Calls Tryz.prog 20 #[.pointer (some ⟨b,0,none⟩),.int .i64 i,.bool u] wx λe w'=>e= .returned (.tuple #[])∧SheetW W0 b (N+1) A w'∧∃l,Keeps l wx w'∧∀k∈l,W0.heap.size≤k∧k∉A∨k=b:=by
 obtain⟨gp,ps,h1,h2,h3,h4,h5,h6,h7⟩:=h
 refine(paSet_at h1 h6 (by omega) i u).mono ?_
 rintro e w' ⟨rfl,gp',hg,hs,hk⟩
 have hl:=setPs_one (putAll (padW []) ps) i.toNat u
 refine⟨rfl,sw_step hb hg h2 h3 h4 hA hs (by rw[List.length_append];omega) ?_ h7 hk,[b,gp],hk,λk hk=> ?_⟩
 ·rw[putAll_append]
  exact h6.put (setPs_in h6 _ _)
 ·simp only[List.mem_cons,List.not_mem_nil,or_false] at hk
  rcases hk with rfl|rfl
  ·exact .inr rfl
  ·exact .inl ⟨h3,h4⟩
theorem putR_64 {X:List Int} (h64:In64 X) (hX:X.length=3128) {i r:Int} {n:Ino} (hB:n.B.length=13) {qs:List (Int×Int)} (h:PutR X i n r qs):In64 (putAll X qs):=by
 rcases h with ⟨-,-,rfl⟩|⟨-,-,-,-,rfl⟩|⟨own,h1,-,h3⟩
 ·exact h64
 ·exact h64
 ·rcases h3 with ⟨-,-,rfl⟩|⟨-,hf,rfl⟩
  ·exact h64
  ·exact(put_eff h64 hX hB h1.1 h1.2 hf).w64
theorem sw_ino {W0 wx:World} {b N:Nat} {A:List Nat} (hb:W0.heap.size≤b) (hT:TabAt W0) (h:SheetW W0 b N A wx) (hN:N≤600000) (hA:∀k∈A,k<wx.heap.size) (i:Int) (n:Ino) (v:Value) (g:Nat) (hB:n.B.length=13) (hE:EReads W0 v g n.E) (hF:FewE n):
  Calls Tryz.prog 21 #[.pointer (some ⟨b,0,none⟩),.int .i64 i,.agg (inoC n v)] wx λe w'=>(∃r,e= .returned (.int .i64 r))∧SheetW W0 b (N+700) A w'∧∃l,Keeps l wx w'∧∀k∈l,W0.heap.size≤k∧k∉A∨k=b:=by
 obtain⟨gp,ps,h1,h2,h3,h4,h5,h6,h7⟩:=h
 refine(inoPut_at h1 h6 (λwy hy=>turn_tab hT hb h3 h7 hy) h2 (by omega) i n v g hB (hE.keep h7 (by simp)) (λk hk=>by have :=hF.2 k hk;omega) (turn_apart hE hb h3)).mono ?_
 rintro e w' ⟨r,qs,gp',rfl,hg,hs,hk,hq,hr⟩
 refine⟨⟨r,rfl⟩,sw_step hb hg h2 h3 h4 hA hs (by rw[List.length_append];omega) ?_ h7 hk,[b,gp],hk,λk hk=> ?_⟩
 ·rw[putAll_append]
  exact putR_64 h6 h1.raw.lx hB hr
 ·simp only[List.mem_cons,List.not_mem_nil,or_false] at hk
  rcases hk with rfl|rfl
  ·exact .inr rfl
  ·exact .inl ⟨h3,h4⟩
def MadeW (W0:World) (b gT N:Nat) (wx:World):Prop:=∃T,SheetW W0 b N [gT] wx∧TabAtV wx gT T∧TabE W0 T∧∀i,FewE (nT T i)
theorem MadeW.keep0 {W0 wx w':World} {b gT N:Nat} (h:MadeW W0 b gT N wx) (hk:Keeps [] wx w'):MadeW W0 b gT N w':=by
 obtain⟨T,h1,h2,h3,h4⟩:=h
 exact⟨T,h1.keep0 hk,h2.keep hk (by simp),h3,h4⟩
theorem MadeW.sheet {W0 wx w':World} {b gT N M:Nat} (h:MadeW W0 b gT N wx) (hb:b≠gT) (hs:SheetW W0 b M [gT] w') (hk:∃l,Keeps l wx w'∧∀k∈l,W0.heap.size≤k∧k∉[gT]∨k=b):MadeW W0 b gT M w':=by
 obtain⟨T,h1,h2,h3,h4⟩:=h
 obtain⟨l,hk,hl⟩:=hk
 refine⟨T,hs,h2.keep hk λhm=> ?_,h3,h4⟩
 rcases hl _ hm with ⟨-,h⟩|h
 ·exact h (by simp)
 ·exact hb h.symm
theorem few_zero:FewE inoZ:=⟨by simp[inoZ],λk hk=>by simp[inoZ] at hk⟩
def MadeSheetP (W0:World) (e:Ending) (w':World):Prop:=∃b,e= .returned (.pointer (some ⟨b,0,none⟩))∧W0.heap.size≤b∧SheetW W0 b 30000 [] w'
set_option maxRecDepth 100000 in
set_option maxHeartbeats 8000000 in
theorem made10_at {w:World} {a:Option Addr} {m cap:Nat} {l:List (Ino×Value)} (h:NIns w (.slice a m cap) l) (hT:TabAt w) (hm:m≤32) (hF:∀j,j<m→FewE (nT l j)) (fix:Bool):
  Calls Tryz.prog 7 #[.slice a m cap,.bool fix] w (MadeSheetP w):=by
 have hml:l.length=m:=by
  obtain⟨-,a',c',e,h1,h2,-⟩:=h
  cases e
  rfl
 have HG:Hid (∀j,j<m→∃g off,a=some ⟨g,off,none⟩∧(nT l j).B.length=13∧(∃ge,EReads w (vT l j) ge (nT l j).E)∧∀wx,Keeps [] w wx→(loadVar 37 ⟨g,off+j*18,none⟩).run Tryz.prog wx= .ok (.agg (inoC (nT l j) (vT l j))) wx):=λj hj=>h.get (j:=j) (by omega)
 have HN0:Hid (∀wx,Calls Tryz.prog 16 #[.slice none 0 0] wx (MadeSheet wx (padW []))):=λwx=>txNew_at (ws:=[]) (g:=0) ⟨none,0,rfl,Nat.le_refl _,by simp,λh=>absurd rfl h⟩
 have HT:=Lib.hid hT
 have HF:=Lib.hid hF
 clear h hml hT hF
 have hzt:=zero_tab
 obtain⟨ZT,hZT⟩:∃ZT,tabC tab0=ZT:=⟨_,rfl⟩
 have HZT:=Lib.hid hZT
 have hzt2:∀w:World,(zeroValue 39).run Tryz.prog w= .ok (.agg ZT) w:=λw=>by rw[←hZT];exact hzt w
 clear hzt hZT
 go_enter Tryz.func7,Tryz.ntmps7
 go_wp2_with fail
 refine(HN0.out _).mono ?_;rintro e w1 ⟨b,rfl,hb,hs1,hk1⟩
 have HB:Hid (w.heap.size≤b):=hb
 have HS1:Hid (SheetW w b 0 [] w1):=⟨b,[],hs1,hs1.raw.lt,hb,by simp,Nat.le_refl _,pad_64,hk1⟩
 have HP1:=Lib.hid (sw_put hb HS1.out (by omega) (by simp) 0 7596835243318849792 ⟨by omega,by omega⟩)
 clear hs1 hk1 hb HN0 HS1
 go_wp2_with fail
 refine HP1.out.mono ?_;rintro e w2 ⟨rfl,hs2,-⟩
 have HP2:=Lib.hid (sw_put HB.out hs2 (by omega) (by simp) 1 2 ⟨by omega,by omega⟩)
 clear hs2 HP1
 go_wp2_with fail
 refine HP2.out.mono ?_;rintro e w3 ⟨rfl,hs3,-⟩
 have hb3:b<w3.heap.size:=by obtain⟨gp,ps,h1,-⟩:=hs3;exact h1.raw.lt
 have HI0:Hid (MadeW w b w3.heap.size 100 (w3.alloc (.cells ZT 39))):=by
  obtain⟨gp,ps,h1,h2,h3,h4,h5,h6,h7⟩:=hs3
  have hka:Keeps [] w3 (w3.alloc (.cells ZT 39)):=(Keeps.refl [] w3).alloc _
  refine⟨tab0,⟨gp,ps,h1.keep hka (by simp) (by simp),Nat.lt_of_lt_of_le h2 hka.size,h3,by rw[List.mem_singleton];omega,by omega,h6,h7.trans' hka⟩,⟨?_,tab0_ok,by simp[tab0]⟩,λi hi=>⟨0,by rw[(nT_tab0 i).1,(nT_tab0 i).2];exact EReads.nil _ _⟩,λi=>by rw[(nT_tab0 i).1];exact few_zero⟩
  rw[HZT.out]
  exact Blk.new w3 _ _
 have hgw:w.heap.size≤w3.heap.size:=hs3.keeps.size
 clear hs3 HP2
 obtain⟨gT,hgT⟩:∃gT,w3.heap.size=gT:=⟨_,rfl⟩
 go_wp2_with fail
 rw[hgT] at HI0 hb3 hgw
 try rw[hgT]
 have HBT:Hid (b≠gT∧w.heap.size≤gT):=⟨by omega,hgw⟩
 clear hgT hb3 hgw
 go_loopg [7] 32 (λgh s7 wx=>∃k:Nat,k+gh=32∧k≤m∧s7= .int .i64 (k:Int)∧Hid (MadeW w b gT 100 wx))
 case atStart=>exact⟨0,by omega,by omega,rfl,HI0.out⟩
 case round=>
  clear HI0
  obtain⟨k,hk,hkm,rfl,HI⟩:=hrel
  by_cases hlt:k<m
  ·obtain⟨gg,rfl⟩:∃gg,gk=gg+1:=⟨gk-1,by omega⟩
   have hki:(k:Int)<(m:Int):=by omega
   have hk0:(0:Int)≤(k:Int):=by omega
   have h32:(k:Int)<32:=by omega
   have hk32:k<32:=by omega
   obtain⟨g,off,rfl,hB,⟨ge,hE⟩,hL⟩:=HG.out k hlt
   obtain⟨T,i1,i2,i3,i4⟩:=HI.out
   have hfe:=HF.out k hlt
   have hkw:=i1.keeps
   have HL:=Lib.hid (hL wr hkw)
   have HRT:=Lib.hid (refRight_at (nT l k) (vT l k) ge hB wr (hE.keep hkw (by simp)) (λj hj=>by have :=hfe.2 j hj;omega))
   have HLW:=Lib.hid hL
   have HMW:=Lib.hid HI.out
   have HNW:Hid (∀wx,Keeps [] wr wx→∃w',(storeVar 37 ⟨gT,k*18,none⟩ (.agg (inoC (nT l k) (vT l k)))).run Tryz.prog wx= .ok () w'∧MadeW w b gT 100 w'):=λwx hkx=>by
    obtain⟨w',q1,q2,q3⟩:=(i2.keep hkx (by simp)).storeI hk32 hB hE.one
    refine⟨w',q1,_,(i1.keep0 hkx).keep q3 (by rw[List.mem_singleton];exact HBT.out.1) (λz hz=>by rw[List.mem_singleton] at hz;subst hz;exact⟨by simp,HBT.out.2⟩),q2,i3.set (by rw[i2.len];exact hk32) ⟨ge,hE⟩,λi=> ?_⟩
    rw[nT_set (by rw[i2.len];exact hk32)]
    by_cases e:k=i
    ·rw[if_pos e];exact hfe
    ·rw[if_neg e];exact i4 i
   clear hB hE hL i1 i2 i3 i4 hfe HI
   generalize inoC (nT l k) (vT l k)=ZN at *
   go_wp2_with((with_reducible show wpList _ _ _ (⟨_,.load 37 (.tmp 28),_,_,_,_⟩::_) _ _);refine wpList_load_any rfl 37 (.tmp 28) rfl _ rfl _ HL.out ?_)
   refine HRT.out.mono ?_;rintro e w4 ⟨rfl,hk4⟩
   have HL4:=Lib.hid (HLW.out w4 (hkw.trans' hk4))
   obtain⟨w5,q1,q2⟩:=HNW.out w4 hk4
   have HS5:=Lib.hid q1
   have HN1:=Lib.hid q2
   have HN2:=Lib.hid (HMW.out.keep0 hk4)
   clear q1 q2 HNW HMW hk4 HRT HL HLW hkw
   generalize decide (RightP (nT l k))=rB at *
   cases rB
   ·go_wp2_with fail
    go_roundg gg
    case measure=>omega
    case rel=>exact⟨k+1,by omega,by omega,by go_num,HN2.out⟩
   ·go_wp2_with(first|((with_reducible show wpList _ _ _ (⟨_,.load 37 (.tmp 34),_,_,_,_⟩::_) _ _);refine wpList_load_any rfl 37 (.tmp 34) rfl _ rfl _ HL4.out ?_)|((with_reducible show wpList _ _ _ (⟨_,.store 37 (.tmp 36) (.tmp 35),_,_,_,_⟩::_) _ _);refine wpList_store_any rfl 37 (.tmp 36) (.tmp 35) rfl _ rfl _ rfl _ HS5.out ?_))
    go_roundg gg
    case measure=>omega
    case rel=>exact⟨k+1,by omega,by omega,by go_num,HN1.out⟩
  ·have hki:¬(k:Int)<(m:Int):=by omega
   obtain rfl:k=m:=by omega
   have HI1:=Lib.hid HI.out
   have HLW:Hid (∃T,(loadVar 39 ⟨gT,0,none⟩).run Tryz.prog wr= .ok (.agg (tabC T)) wr∧Calls Tryz.prog 19 #[.agg (tabC T)] wr λe w'=>∃T' w'',e= .returned (.agg (tabC T'))∧(storeVar 39 ⟨gT,0,none⟩ (.agg (tabC T'))).run Tryz.prog w'= .ok () w''∧MadeW w b gT 100 w''):=by
    obtain⟨T,i1,i2,i3,i4⟩:=HI.out
    refine⟨T,i2.load,(refLinks_at (w:=wr) i2.ok i2.len (i3.keep i1.keeps) (m:=40) (λi=>(i4 i).1) (by omega)).mono ?_⟩
    rintro e w' ⟨T',rfl,h1,h2,h3,h4⟩
    obtain⟨w'',q1,q2,q3⟩:=store_tab (i2.keep h4 (by simp)).blk (tabC_size (i2.ok) i2.len) h1 h2
    exact⟨T',w'',rfl,q1,T',(i1.keep0 h4).keep q3 (by rw[List.mem_singleton];exact HBT.out.1) (λz hz=>by rw[List.mem_singleton] at hz;subst hz;exact⟨by simp,HBT.out.2⟩),q2,h3.tabE i3,λi=>by unfold FewE;rw[h3.elen];exact i4 i⟩
   clear HI HG HF hk hki
   have hfx:fix=false∨fix=true:=by cases fix<;>simp
   rcases hfx with rfl|rfl
   rotate_left
   obtain⟨T,q1,q2⟩:=HLW.out
   have HL6:=Lib.hid q1
   have HC6:=Lib.hid q2
   clear q1 q2 HLW HI1
   generalize tabC T=ZC at *
   go_wp2_with((with_reducible show wpList _ _ _ (⟨_,.load 39 (.tmp 6),_,_,_,_⟩::_) _ _);refine wpList_load_any rfl 39 (.tmp 6) rfl _ rfl _ HL6.out ?_)
   refine HC6.out.mono ?_;rintro e w7 ⟨T',w8,rfl,q1,q2⟩
   have HS8:=Lib.hid q1
   have HI1:=Lib.hid q2
   clear q1 q2 HL6 HC6
   generalize tabC T'=ZC' at *
   go_wp2_with((with_reducible show wpList _ _ _ (⟨_,.store 39 (.tmp 6) (.tmp 39),_,_,_,_⟩::_) _ _);refine wpList_store_any rfl 39 (.tmp 6) (.tmp 39) rfl _ rfl _ rfl _ HS8.out ?_)
   clear HS8
   all_goals
    go_loopg [8] 32 (λgh s8 wx=>∃k:Nat,k+gh=32∧s8= .int .i64 (k:Int)∧Hid (MadeW w b gT (100+13*k) wx))
    case atStart=>exact⟨0,by omega,rfl,HI1.out⟩
    case round=>
     clear HI1
     obtain⟨k,hk,rfl,HI⟩:=hrel
     cases gk with
     |succ gg=>
      have hki:(k:Int)<32:=by omega
      have hk0:(0:Int)≤(k:Int):=by omega
      have hk32:k<32:=by omega
      go_wp2_with fail
      go_loopg [9] 13 (λgh s9 wx=>∃j:Nat,j+gh=13∧s9= .int .i64 (j:Int)∧Hid (MadeW w b gT (100+13*k+j) wx))
      case atStart=>exact⟨0,by omega,rfl,HI.out⟩
      case round=>
       clear HI
       obtain⟨j,hj,rfl,HJ⟩:=hrel
       cases gk with
       |succ g2=>
        have hji:(j:Int)<13:=by omega
        have hj0:(0:Int)≤(j:Int):=by omega
        have hj13:j<13:=by omega
        obtain⟨T,i1,i2,i3,i4⟩:=HJ.out
        have cB:wr.cell? ⟨gT,k*18+4+j,none⟩=some (.int .i64 ((nT T k).B.getD j 0)):=by
         rw[Nat.add_assoc,i2.field hk32 (by omega)]
         exact(inoAt _ (nT_len i2.ok k)).f4 j hj13
        have HSE:=Lib.hid (sw_set HB.out i1 (by omega) (λz hz=>by rw[List.mem_singleton] at hz;subst hz;exact i2.blk.lt) ((nT T k).B.getD j 0) true)
        have HMM:=Lib.hid HJ.out
        clear HJ i1 i2 i3 i4
        generalize (nT T k).B.getD j 0=y at *
        go_wp2_with fail
        refine HSE.out.mono ?_;rintro e w9 ⟨rfl,hs9,hk9⟩
        have HN:=Lib.hid (HMM.out.sheet HBT.out.1 hs9 hk9)
        clear HSE HMM hs9 hk9 cB
        go_wp2_with fail
        go_roundg g2
        case measure=>omega
        case rel=>exact⟨j+1,by omega,by go_num,HN.out⟩
       |zero=>
        obtain rfl:j=13:=by omega
        have HN:Hid (MadeW w b gT (100+13*(k+1)) wr):=HJ.out
        clear HJ hj
        go_wp2_with fail
        go_roundg gg
        case measure=>omega
        case rel=>exact⟨k+1,by omega,by go_num,HN.out⟩
     |zero=>
      obtain rfl:k=32:=by omega
      have HJ0:Hid (MadeW w b gT (600+700*0) wr):=by
       obtain⟨T,i1,i2⟩:=HI.out
       exact⟨T,i1.mono (by omega),i2⟩
      clear HI hk
      go_wp2_with fail
      go_loopg [10] 32 (λgh s10 wx=>∃k:Nat,k+gh=32∧s10= .int .i64 (k:Int)∧Hid (MadeW w b gT (600+700*k) wx))
      case atStart=>exact⟨0,by omega,rfl,HJ0.out⟩
      case round=>
       clear HJ0
       obtain⟨k,hk,rfl,HJ⟩:=hrel
       cases gk with
       |zero=>
        obtain rfl:k=32:=by omega
        have HF:Hid (MadeSheetP w (.returned (.pointer (some ⟨b,0,none⟩))) wr):=by
         obtain⟨T,⟨gp,ps,h1,h2,h3,h4,h5,h6,h7⟩,-⟩:=HJ.out
         exact⟨b,rfl,HB.out,gp,ps,h1,h2,h3,by simp,by omega,h6,h7⟩
        clear HJ hk
        go_wp2_with fail
        go_ret
        exact HF.out
       |succ gg=>
        have hki:(k:Int)<32:=by omega
        have hk0:(0:Int)≤(k:Int):=by omega
        have hk32:k<32:=by omega
        obtain⟨T,i1,i2,i3,i4⟩:=HJ.out
        have cF:=i2.form hk32
        obtain⟨ge,hE⟩:=i3 k hk32
        have HL:=Lib.hid (i2.loadI hk32)
        have HPU:=Lib.hid (sw_ino HB.out HT.out i1 (by omega) (λz hz=>by rw[List.mem_singleton] at hz;subst hz;exact i2.blk.lt) (k:Int) (nT T k) (vT T k) ge (nT_len i2.ok k) hE (i4 k))
        have HMM:=Lib.hid HJ.out
        have HNO:Hid (MadeW w b gT (600+700*(k+1)) wr):=⟨T,i1.mono (by omega),i2,i3,i4⟩
        clear HJ i1 i2 i3 i4 hE
        generalize inoC (nT T k) (vT T k)=ZN at *
        generalize (nT T k).F=F at *
        by_cases hF:0<F
        ·go_wp2_with((with_reducible show wpList _ _ _ (⟨_,.load 37 (.tmp 68),_,_,_,_⟩::_) _ _);refine wpList_load_any rfl 37 (.tmp 68) rfl _ rfl _ HL.out ?_)
         refine HPU.out.mono ?_;rintro e w9 ⟨⟨r,rfl⟩,hs9,hk9⟩
         have HN:Hid (MadeW w b gT (600+700*(k+1)) w9):=HMM.out.sheet HBT.out.1 hs9 hk9
         clear HPU HMM HNO hs9 hk9 HL
         go_wp2_with fail
         go_roundg gg
         case measure=>omega
         case rel=>exact⟨k+1,by omega,by go_num,HN.out⟩
        ·clear HPU HMM HL
         go_wp2_with fail
         go_roundg gg
         case measure=>omega
         case rel=>exact⟨k+1,by omega,by go_num,HNO.out⟩
def Tells {α:Type} (n:Nat) (P:Program) (gf:Nat) (lb:Array Value) (encs:α→Array Value) (Rd:Nat→α→World→Prop) (S Sp:List α→Prop) (N:Nat) (C:List Nat) (w:World):Prop:=
 ∀(l:Nat) (J Jx:List α→World→Prop) (W:World),Keeps [] w W→w.heap.size≤l→l<W.heap.size→
  (∀pre A A',J pre A→Keeps [] A A'→J pre A')→(∀pre A A',Jx pre A→Keeps [] A A'→Jx pre A')→
  (∀pre x A,J pre A→pre.length<N→Rd l x A→YieldAt Fence.wide (n-1) P l (encs x) A λe A'=>
   (e= .returned (.bool true)∧J (pre++[x]) A'∧Keeps (l::C) A A')∨(e= .returned (.bool false)∧Jx (pre++[x]) A'))→
  J [] W→
  CallsIn Fence.wide n P gf (#[.func (.yield l) #[] #[]]++lb) W λe W'=>(∃v,e= .returned v)∧((∃xs,S xs∧J xs W')∨(∃pre,Sp pre∧Jx pre W'))
def toldPost {α:Type} (C:List Nat) (I:List α→World→Prop) (Ix:Code→List α→World→Prop) (xs:List α) (W:World):Exit→Act→World→Prop
 | .normal,_,W'=>Keeps C W W'∧I xs W'
 | .ret,_,W'=>Keeps C W W'∧Ix .ret xs W'
 | .exit id,_,W'=>Keeps C W W'∧Ix (.exit id) xs W'
 | .goto t,_,W'=>Keeps C W W'∧Ix (.goto t) xs W'
 | .panic _,_,_=>False
 | .outgrown,_,_=>False
theorem keeps_putObj (W:World) (l:Nat) (o:Obj):Keeps [l] W (W.putObj l o):=
 ⟨rfl,rfl,rfl,by simp,λk _ hn=>World.putObj_heap_other (by simpa using hn)⟩
theorem Keeps.low {l:List Nat} {A A':World} {B:Nat} (h:Keeps l A A') (hl:∀k∈l,B≤k) (hB:B≤A.heap.size):Below B A A':=h.below hB hl
theorem wpIn_rangeTold {α:Type} {n:Nat} {P:Program} {g:Operand} {ps:Array Tmp} {assign body:Code} {Q:Exit→Act→World→Prop} {a:Act} {w:World} (h1:1≤n) {gf:Nat} {lb:Array Value} (hg:a.eval g= .func (.func gf) #[] lb) (eg:∀args w,(callFunc gf args).run P w= .ok (.enter gf args) w)
  {encs:α→Array Value} {Rd:Nat→α→World→Prop} {S Sp:List α→Prop} {N:Nat} {C:List Nat} (hseq:Tells (n-1) P gf lb encs Rd S Sp N C w) (hC:∀k∈C,k<w.heap.size) (hps:∀x,(encs x).size=ps.size)
  (I:List α→World→Prop) (Ix:Code→List α→World→Prop) (hI:∀pre A A',I pre A→Below w.heap.size A A'→I pre A') (hIx:∀c pre A A',Ix c pre A→Below w.heap.size A A'→Ix c pre A') (h0:I [] w)
  (hRd:∀l x A A',Rd l x A→Keeps [l] A A'→Rd l x A') (Ax:α→Act→World→Prop) (hAx:∀l x a' A A',w.heap.size≤l→(∃r,A.heap[l]? =some (.loop r))→Ax x a' A→Keeps [l] A A'→Ax x a' A')
  (hassign:∀(l:Nat) (x:α) (W:World) (K:Act→World→Prop),Rd l x W→w.heap.size<W.heap.size→(∀a' W',Keeps [] W W'→Ax x a' W'→K a' W')→
   assign.wpIn (Fence.wide.inRound l) (n-1-1) P (Exit.then K (λ_ _ _=>False)) { tmps:=(ps.zip (encs x)).foldl (λt (p,v)=>t.setIfInBounds p v) a.tmps,defers:=[] } W)
  (hRk:∀l x A A',Rd l x A→Keeps [] A A'→Rd l x A')
  (hbody:∀(l:Nat) (pre:List α) (x:α) (a':Act) (W:World),w.heap.size<l→l<W.heap.size→I pre W→pre.length<N→Rd l x W→Ax x a' W→body.wpIn (Fence.wide.inRound l) (n-1-1) P (toldPost C I Ix (pre++[x]) W) a' W)
  (hdone:∀(D:Nat) (xs:List α) (W:World),w.heap.size≤D→S xs→I xs W→W.heap[D]? =some (.deferred (some []))→Q .normal { a with defers:={ target:= .collected D,args:= #[] }::a.defers } W)
  (hstop:∀(D:Nat) (c:Code) (pre:List α) (W:World),w.heap.size≤D→Sp pre→Ix c pre W→W.heap[D]? =some (.deferred (some []))→c.wpIn Fence.wide n P Q { a with defers:={ target:= .collected D,args:= #[] }::a.defers } W):
  (Code.rangeFunc g ps assign body).wpIn Fence.wide n P Q a w:=by
 refine wpIn_rangeFunc λfn hfn=> ?_
 let rc:LoopState→Option Code→Obj:=λst pe=> .loop { state:=st,pending:=pe,fn,tmps:=a.tmps,params:=ps,assign,body,defers:=w.heap.size }
 have e0:(w.alloc (.deferred (some []))).heap.size=w.heap.size+1:=World.size_alloc _ _
 have low:∀{A A':World},w.heap.size≤A.heap.size→Keeps [w.heap.size+1] A A'→Below w.heap.size A A':=λhA hk=>hk.below hA λk hk=>by rw[List.mem_singleton] at hk;omega
 have low0:∀{A A':World},w.heap.size≤A.heap.size→Keeps [] A A'→Below w.heap.size A A':=λhA hk=>hk.below hA λk hk=>by simp at hk
 obtain⟨W1,hW1⟩:∃W1,(w.alloc (.deferred (some []))).alloc (rc .ready none)=W1:=⟨_,rfl⟩
 have r1:W1.heap[w.heap.size+1]? =some (rc .ready none):=by rw[←hW1,←e0];exact World.alloc_heap_new _ _
 have d1:W1.heap[w.heap.size]? =some (.deferred (some [])):=by rw[←hW1];exact(Below.heap_alloc _ _ _ (by rw[e0];omega)).trans (World.alloc_heap_new w _)
 have k1:Keeps [] w W1:=by rw[←hW1];exact((Keeps.refl [] w).alloc _).alloc _
 have s1:W1.heap.size=w.heap.size+2:=by rw[←hW1,World.size_alloc,e0]
 refine⟨w.heap.size+1,[{ target:= .collected w.heap.size,args:= #[] }],W1,{ target:= .fn (.func gf) lb,args:= #[.func (.yield (w.heap.size+1)) #[] #[]] },W1,gf,#[.func (.yield (w.heap.size+1)) #[] #[]]++lb,W1,by rw[←hW1];exact run_enterLoop_outer _ _ _ _ _,?_,λ_ _=>trivial,?_,λ_=>h1,?_⟩
 ·simp only[resolve,hg]
  simp[go_sem]
 ·simp[invoke,go_sem,eg]
 refine(hseq (w.heap.size+1) (λpre A=>I pre A∧A.heap[w.heap.size+1]? =some (rc .ready none)∧A.heap[w.heap.size]? =some (.deferred (some [])))
  (λpre A=>∃c,Ix c pre A∧A.heap[w.heap.size+1]? =some (rc .done (some c))∧A.heap[w.heap.size]? =some (.deferred (some []))) W1 k1 (by omega) (by omega) ?_ ?_ ?_ ⟨hI _ _ _ h0 (low0 (Nat.le_refl _) k1),r1,d1⟩).mono ?_
 ·rintro pre A A' ⟨i1,i2,i3⟩ hk
  have l2:=(Array.getElem?_eq_some_iff.1 i2).1
  exact⟨hI _ _ _ i1 (low0 (by omega) hk),(hk.block _ l2 (by simp)).trans i2,(hk.block _ (by omega) (by simp)).trans i3⟩
 ·rintro pre A A' ⟨c,i1,i2,i3⟩ hk
  have l2:=(Array.getElem?_eq_some_iff.1 i2).1
  exact⟨c,hIx _ _ _ _ i1 (low0 (by omega) hk),(hk.block _ l2 (by simp)).trans i2,(hk.block _ (by omega) (by simp)).trans i3⟩
 ·rintro pre x A ⟨i1,i2,i3⟩ hN hr
  have l2:=(Array.getElem?_eq_some_iff.1 i2).1
  refine⟨fn,_,assign,body,run_yield i2 (hps x),roundIn_of_wpIn hfn (hassign _ x A _ hr (by omega) λa' A2 hk2 hax=> ?_)⟩
  have j2:A2.heap[w.heap.size+1]? =some (rc .ready none):=(hk2.block _ l2 (by simp)).trans i2
  have j3:A2.heap[w.heap.size]? =some (.deferred (some [])):=(hk2.block _ (by omega) (by simp)).trans i3
  have l3:w.heap.size+1<A2.heap.size:=(Array.getElem?_eq_some_iff.1 j2).1
  refine⟨_,run_beginRound j2 rfl,?_⟩
  have hkb:=keeps_putObj A2 (w.heap.size+1) (rc .busy none)
  obtain⟨A3,hA3⟩:∃A3,A2.putObj (w.heap.size+1) (rc .busy none)=A3:=⟨_,rfl⟩
  have m2:A3.heap[w.heap.size+1]? =some (rc .busy none):=by rw[←hA3];exact World.putObj_heap_same l3
  have m3:A3.heap[w.heap.size]? =some (.deferred (some [])):=by rw[←hA3];exact(World.putObj_heap_other (by omega)).trans j3
  rw[hA3] at hkb
  have l4:w.heap.size+1<A3.heap.size:=(Array.getElem?_eq_some_iff.1 m2).1
  show body.wpIn _ _ _ _ a' (A2.putObj (w.heap.size+1) (rc .busy none))
  rw[hA3]
  have hiA:I pre A3:=hI _ _ _ (hI _ _ _ i1 (low0 (by omega) hk2)) (low (by omega) hkb)
  refine wpIn_mono (hbody _ pre x a' A3 (by omega) l4 hiA hN (hRd _ _ _ _ (hRk _ _ _ _ hr hk2) hkb) (hAx _ _ _ _ _ (by omega) ⟨_,j2⟩ hax hkb)) ?_
  have fin:∀(jump:Option Code) (A4:World),Keeps C A3 A4→(Instr.endRound (w.heap.size+1) jump).run P A4= .ok (.bool jump.isNone) (A4.putObj (w.heap.size+1) (rc (if jump.isNone then .ready else .done) jump))∧
    Below w.heap.size A4 (A4.putObj (w.heap.size+1) (rc (if jump.isNone then .ready else .done) jump))∧(A4.putObj (w.heap.size+1) (rc (if jump.isNone then .ready else .done) jump)).heap[w.heap.size+1]? =some (rc (if jump.isNone then .ready else .done) jump)∧
    (A4.putObj (w.heap.size+1) (rc (if jump.isNone then .ready else .done) jump)).heap[w.heap.size]? =some (.deferred (some []))∧Keeps ((w.heap.size+1)::C) A (A4.putObj (w.heap.size+1) (rc (if jump.isNone then .ready else .done) jump)):=λjump A4 hk4=>by
   have n2:A4.heap[w.heap.size+1]? =some (rc .busy none):=(hk4.block _ l4 λhm=>by have :=hC _ hm;omega).trans m2
   have n3:A4.heap[w.heap.size]? =some (.deferred (some [])):=(hk4.block _ (by omega) λhm=>by have :=hC _ hm;omega).trans m3
   have l5:=(Array.getElem?_eq_some_iff.1 n2).1
   have hkp:=keeps_putObj A4 (w.heap.size+1) (rc (if jump.isNone then .ready else .done) jump)
   refine⟨run_endRound (P:=P) jump n2,low (by omega) hkp,World.putObj_heap_same l5,(World.putObj_heap_other (by omega)).trans n3,?_⟩
   have q1:Keeps ((w.heap.size+1)::C) A A3:=(hk2.mono (l':=(w.heap.size+1)::C) (by simp)).trans hkb (by simp)
   have q2:Keeps ((w.heap.size+1)::C) A A4:=q1.trans hk4 λx hx=> .inl (by simp[hx])
   exact q2.trans hkp (by simp)
  rintro e a3 A4 hp
  cases e with
  |normal=>
   obtain⟨f1,f2,f3,f4,f5⟩:=fin none A4 hp.1
   exact⟨_,_,f1,.inl ⟨rfl,⟨hI _ _ _ hp.2 f2,f3,f4⟩,f5⟩⟩
  |ret=>
   obtain⟨f1,f2,f3,f4,f5⟩:=fin (some .ret) A4 hp.1
   exact⟨_,_,f1,.inr ⟨rfl,.ret,hIx _ _ _ _ hp.2 f2,f3,f4⟩⟩
  |exit id=>
   obtain⟨f1,f2,f3,f4,f5⟩:=fin (some (.exit id)) A4 hp.1
   exact⟨_,_,f1,.inr ⟨rfl,.exit id,hIx _ _ _ _ hp.2 f2,f3,f4⟩⟩
  |goto t=>
   obtain⟨f1,f2,f3,f4,f5⟩:=fin (some (.goto t)) A4 hp.1
   exact⟨_,_,f1,.inr ⟨rfl,.goto t,hIx _ _ _ _ hp.2 f2,f3,f4⟩⟩
  |panic ch=>exact hp.elim
  |outgrown=>exact hp.elim
 ·rintro e A ⟨⟨v,rfl⟩,h⟩
  rcases h with ⟨xs,hS,i1,i2,i3⟩|⟨pre,hSp,c,i1,i2,i3⟩
  ·have l2:=(Array.getElem?_eq_some_iff.1 i2).1
   have hkp:=keeps_putObj A (w.heap.size+1) (rc .exhausted none)
   exact⟨none,_,run_endLoop (P:=P) i2 (by simp),hdone _ xs _ (Nat.le_refl _) hS (hI _ _ _ i1 (low (by omega) hkp)) ((World.putObj_heap_other (by omega)).trans i3)⟩
  ·have l2:=(Array.getElem?_eq_some_iff.1 i2).1
   have hkp:=keeps_putObj A (w.heap.size+1) (rc .exhausted (some c))
   exact⟨some c,_,run_endLoop (P:=P) i2 (by simp),hstop _ c pre _ (Nat.le_refl _) hSp (hIx _ _ _ _ i1 (low (by omega) hkp)) ((World.putObj_heap_other (by omega)).trans i3)⟩
theorem wpIn_region_each {P:Program} {ops:Array Oper} {Q:Exit→Act→World→Prop} {S:World→Prop} {n:Nat} {r:Option Nat} {id:Nat} {a:Act} {w:World} (hm:P.follows .mixedOrders=true) (hq:¬LetsOut Q) (hd:noDeferB ops=true) (ht:textB .any ops ops.size ops.size=true) (hQ:∀d v c a w,Q (.panic c) (Act.put a d v) w→Q (.panic c) a w) (hS:S w.drew)
  (hready:Region.ready .any ops (listedTo ops.size ops.size)=[]) (h:EachList P ops S (Q .normal) ops.toList a):(Code.region id ops true).wpIn { Fence.wide with round:=r } n P Q a w:=by
 refine wpIn_round_any hm hq (noDefer_spec hd) ?_
 rw[←listedTo_zero]
 refine wpAny_of_U (S:=λ_=>S) (F:=ops.size) (L:=ops.size) _ _ _ ?_ _ hS
 refine eachU (m:=ops.size) ht (Nat.le_refl _) (Nat.le_refl _) hQ (E:=λa=>∀w,S w→Q .normal a w) (λa h=> ?_) ops.toList 0 a (by simp) (Nat.le_refl _) (λk hk=>by simp) (EachList.toB _ _ h)
 rw[Nat.sub_self]
 exact⟨hready,h⟩
section
variable {P:Program} {n:Nat} {r:Option Nat} {ops:Array Oper} {Q:Exit→Act→World→Prop} {rest:List Oper} {o:Oper} {a:Act} {w:World}
theorem wpListIn_load_any (hw:Region.wanted o (yielded ops a.tmps)=true) (ty:TypeId) (x:Operand) (ho:o.op= .load ty x) (ad:Addr) (hx:a.eval x= .pointer (some ad)) (v:Value)
  (hr:(loadVar ty ad).run P w= .ok v w) (h:wpListIn { Fence.wide with round:=r } n P ops Q rest (a.put o.dst v) w):wpListIn { Fence.wide with round:=r } n P ops Q (o::rest) a w:=by
 unfold wpListIn
 rw[if_pos hw]
 refine operIn_of_wp (λc e=>by rw[ho] at e;cases e) ?_
 unfold Oper.wp execOp
 simp only[ho,hx,Instr.loadAt,Instr.sureAddr,Sem.run_bind,Sem.run_pure,Result.andThen_ok,hr]
 exact h
theorem wpListIn_store_any (hw:Region.wanted o (yielded ops a.tmps)=true) (ty:TypeId) (x y:Operand) (ho:o.op= .store ty x y) (ad:Addr) (hx:a.eval x= .pointer (some ad)) (v:Value) (hy:a.eval y=v) (w':World)
  (hr:(storeVar ty ad v).run P w= .ok () w') (h:wpListIn { Fence.wide with round:=r } n P ops Q rest (a.put o.dst undef) w'):wpListIn { Fence.wide with round:=r } n P ops Q (o::rest) a w:=by
 unfold wpListIn
 rw[if_pos hw]
 refine operIn_of_wp (λc e=>by rw[ho] at e;cases e) ?_
 unfold Oper.wp execOp
 simp only[ho,hx,hy,Instr.storeAt,Instr.sureAddr,Sem.run_bind,Sem.run_pure,Result.andThen_ok,hr]
 exact h
end
end Go.Proofs.YtphojondgfjmgaaGreatDoor
namespace Go.Proofs.YtphojondgfjmgaaGreatDoor
open Go.RowKit Go.Shelf
attribute [local go_sem] Oper.semAt_some
structure GX where
 i:Nat
 n:Ino
 v:Value
def encG (x:GX):Array Value:= #[.int .i64 (x.i:Int),.agg (inoC x.n x.v)]
def pairG (x:GX):Nat×Ino:=(x.i,x.n)
theorem gotTo_len (T:List (Ino×Value)):∀k,(gotTo T k).length≤k
 |0=>Nat.le_refl _
 |k+1=>by
  have :=gotTo_len T k
  unfold gotTo
  rw[List.length_append]
  split<;>simp<;>omega
def RdG (T:List (Ino×Value)) (l:Nat) (x:GX) (A:World):Prop:=
 x.i<32∧x.n=nT T x.i∧x.n.F≠0∧x.n.B.length=13∧∃g,l<g∧EReads A x.v g x.n.E
theorem RdG.keep {T:List (Ino×Value)} {l:Nat} {x:GX} {A A':World} (h:RdG T l x A) {m:List Nat} (hk:Keeps m A A') (hm:∀k∈m,k≤l):RdG T l x A':=by
 obtain⟨h1,h2,h3,h4,g,h5,h6⟩:=h
 exact⟨h1,h2,h3,h4,g,h5,h6.keep hk λ_ hg=>by have :=hm _ hg;omega⟩
theorem got_at (b:Nat) (w:World):Calls Tryz.prog 34 #[.pointer (some ⟨b,0,none⟩)] w λe w'=>
  e= .returned (.func (.func 56) #[] #[.pointer (some ⟨w.heap.size,0,none⟩)])∧w'=w.alloc (.cells #[.pointer (some ⟨b,0,none⟩)] 26):=by
 go_enter Tryz.func34,Tryz.ntmps34
 go_wp2_with fail
 go_ret
 exact⟨rfl,rfl⟩
set_option maxRecDepth 100000 in
set_option maxHeartbeats 4000000 in
theorem got1_in (n l bs b gp:Nat) (B:List Int) (ps:List (Int×Int)) (T:List (Ino×Value)) (own:Nat→List Nat) (hn:1≤n) (C:List Nat) (hC:∀k∈C,k≠bs∧k≠b∧k≠gp) (J Jx:List GX→World→Prop)
  (hJ:∀pre A A',J pre A→Keeps [] A A'→J pre A') (hl:l≠bs∧l≠b∧l≠gp)
  (hY:∀pre x A,J pre A→pre.length<32→RdG T l x A→YieldAt Fence.wide (n-1) Tryz.prog l (encG x) A λe A'=>
   (e= .returned (.bool true)∧J (pre++[x]) A'∧Keeps (l::C) A A')∨(e= .returned (.bool false)∧Jx (pre++[x]) A'))
  (W:World) (hlW:l<W.heap.size) (hbs:Blk W bs #[.pointer (some ⟨b,0,none⟩)] 26) (hs:SheetT W b gp B ps T own) (h0:J [] W):
  CallsIn Fence.wide n Tryz.prog 56 #[.func (.yield l) #[] #[],.pointer (some ⟨bs,0,none⟩)] W λe W'=>(∃v,e= .returned v)∧
   ((∃xs:List GX,xs.map pairG=gotTo T 32∧J xs W')∨(∃pre:List GX,(pre≠[]∧∀x∈pre,pairG x∈gotTo T 32)∧Jx pre W')):=by
 have hzi:=zero_ino
 obtain⟨Z0,hZ0⟩:∃Z0,inoC inoZ (.slice none 0 0)=Z0:=⟨_,rfl⟩
 have HZZ:Hid (Z0.size=18):=by show _=_;rw[←hZ0];rfl
 rw[hZ0] at hzi
 clear hZ0
 have HC:=Lib.hid hC
 have HLL:=Lib.hid hl
 have HST:Hid (([]:List GX).map pairG=gotTo T 0∧J [] W∧SheetT W b gp B ps T own∧Blk W bs #[.pointer (some ⟨b,0,none⟩)] 26∧l<W.heap.size):=⟨rfl,h0,hs,hbs,hlW⟩
 clear hC hl h0 hs hbs hlW
 refine callsIn_of_wp Tryz.func56 rfl trivial ?_ rfl
 simp only[Tryz.ntmps56,List.size_toArray,List.length_cons,List.length_nil,Nat.reduceAdd,Nat.reduceSub,Array.replicate_succ,Array.replicate_zero,List.push_toArray,List.append_toArray,List.nil_append,List.cons_append]
 gi_wp2
 gi_loopw [7] (λi wr=>∃(k:Nat) (pre:List GX),k≤32∧i= .int .i64 (k:Int)∧Hid (pre.map pairG=gotTo T k∧J pre wr∧SheetT wr b gp B ps T own∧Blk wr bs #[.pointer (some ⟨b,0,none⟩)] 26∧l<wr.heap.size))
  (λi _=>32-(intOf i).toNat)
 case atStart=>exact⟨0,[],by omega,rfl,HST.out⟩
 case round=>
  clear HST
  obtain⟨k,pre,hk,rfl,HP⟩:=hrel
  by_cases hlt:k<32
  ·have hki:(k:Int)<32:=by omega
   have c0:wr.cell? ⟨bs,0,none⟩=some (.pointer (some ⟨b,0,none⟩)):=by rw[HP.out.2.2.2.1.cell];rfl
   have HG:=Lib.hid (HP.out.2.2.1.get hlt)
   gi_wp2
   refine⟨trivial,callsIn_wide.2 (HG.out.mono ?_)⟩
   rintro e w3 ⟨v,g,va,ga,r,rfl,hB,hE,hg,hO,hga,hk3,hr⟩
   obtain⟨w4,p1,p2,p3⟩:=store_ino9 (n:=nT T k) (v:=v) (Blk.new w3 Z0 37) HZZ.out hB hE.one
   have HS4:=Lib.hid p1
   have hk4:Keeps [] wr w4:=hk3.trans' (((Keeps.refl [] w3).alloc _).trans p3 (by intro x hx;rw[List.mem_singleton] at hx;omega))
   have HK4:=Lib.hid hk4
   have HL4:=Lib.hid (load_ino p2 hB)
   have hJ4:=hJ _ _ _ HP.out.2.1 hk4
   have HSB:Hid (SheetT w4 b gp B ps T own∧Blk w4 bs #[.pointer (some ⟨b,0,none⟩)] 26∧l<w4.heap.size):=⟨HP.out.2.2.1.keep0 hk4,HP.out.2.2.2.1.keep hk4 (by simp),by have :=HP.out.2.2.2.2;have :=hk4.size;omega⟩
   have hE4:EReads w4 v g (nT T k).E:=hE.keep (((Keeps.refl [w3.heap.size] w3).alloc (.cells Z0 37)).trans' p3) (λh0=>hE.apart (l:=[w3.heap.size]) (λx hx=>by rw[List.mem_singleton] at hx;omega) h0)
   have HGT:Hid ((nT T k).F≠0→gotTo T (k+1)=gotTo T k++[(k,nT T k)]):=λh=>by show gotTo T k++_=_;rw[if_neg h]
   have HGN:Hid ((nT T k).F=0→gotTo T (k+1)=gotTo T k):=λh=>by show gotTo T k++_=_;rw[if_pos h,List.append_nil]
   by_cases h0:r=0
   ·subst h0
    have hF:(nT T k).F≠0:=by
     rcases hr with ⟨-,h⟩|⟨h,-⟩|⟨h,-⟩
     ·exact h
     ·omega
     ·omega
    have hpl:pre.length<32:=by
     have h1:=congrArg List.length HP.out.1
     rw[List.length_map] at h1
     have h2:=gotTo_len T k
     omega
    obtain⟨fn,tmps,assign,body,hy,hR⟩:=hY pre ⟨k,nT T k,v⟩ w4 hJ4 hpl ⟨hlt,rfl,hF,hB,g,by have :=HP.out.2.2.2.2;omega,hE4⟩
    have HPR:Hid ((pre++[(⟨k,nT T k,v⟩:GX)]).map pairG=gotTo T (k+1)):=by
     show _=_
     rw[HGT.out hF,List.map_append,HP.out.1]
     rfl
    have HKL:Hid (∀A',Keeps (l::C) w4 A'→SheetT A' b gp B ps T own∧Blk A' bs #[.pointer (some ⟨b,0,none⟩)] 26∧l<A'.heap.size):=λA' hk=>by
     have hc:=HC.out
     have hll:=HLL.out
     refine⟨HSB.out.1.keep hk λq hq=> .inr ?_,HSB.out.2.1.keep hk λhm=> ?_,Nat.lt_of_lt_of_le HSB.out.2.2 hk.size⟩
     ·rcases List.mem_cons.1 hq with rfl|hq
      ·exact⟨hll.2.1,hll.2.2⟩
      ·exact⟨(hc q hq).2.1,(hc q hq).2.2⟩
     ·rcases List.mem_cons.1 hm with e|hm
      ·exact hll.1 e.symm
      ·exact(hc bs hm).1 rfl
    unfold encG at hy
    dsimp only at hy
    clear hr hF hJ4 hE4 HSB hE hB hg hO hga hk3 hk4 p1 p2 p3 HGT HGN HP c0 hpl hlt
    generalize inoC (nT T k) v=ZN at *
    gi_wp2_with (first|((with_reducible show wpListIn _ _ _ _ _ (⟨_,.store 37 (.tmp 4) (.tmp 14),_,_,_,_⟩::_) _ _);refine wpListIn_store_any (r:=none) rfl 37 (.tmp 4) (.tmp 14) rfl _ rfl _ rfl _ HS4.out ?_)|((with_reducible show wpListIn _ _ _ _ _ (⟨_,.load 37 (.tmp 4),_,_,_,_⟩::_) _ _);refine wpListIn_load_any (r:=none) rfl 37 (.tmp 4) rfl _ rfl _ HL4.out ?_))
    refine hR.mono ?_
    rintro e W5 (⟨rfl,hJ5,hk5⟩|⟨rfl,hJx5⟩)
    ·have HF:Hid ((pre++[(⟨k,nT T k,v⟩:GX)]).map pairG=gotTo T (k+1)∧J (pre++[⟨k,nT T k,v⟩]) W5∧SheetT W5 b gp B ps T own∧Blk W5 bs #[.pointer (some ⟨b,0,none⟩)] 26∧l<W5.heap.size):=⟨HPR.out,hJ5,HKL.out _ hk5⟩
     clear hJ5 hk5 HPR HKL
     gi_wp2
     go_roundw
     case rel=>exact⟨k+1,_,by omega,by go_num,HF.out⟩
     case measure=>simp[intOf];omega
    ·have HF:Hid ((pre++[(⟨k,nT T k,v⟩:GX)])≠[]∧∀x∈pre++[(⟨k,nT T k,v⟩:GX)],pairG x∈gotTo T 32):=by
      refine⟨by simp,λx hx=> ?_⟩
      have h1:pairG x∈(pre++[(⟨k,nT T k,v⟩:GX)]).map pairG:=List.mem_map.2 ⟨x,hx,rfl⟩
      rw[HPR.out] at h1
      obtain⟨a1,a2,a3⟩:=gotTo_mem.1 h1
      exact gotTo_mem.2 ⟨by omega,a2,a3⟩
     clear HPR HKL
     gi_wp2
     refine bodyPost_ret (results_none rfl _ _ _) rfl ?_
     exact⟨⟨_,rfl⟩,.inr ⟨_,HF.out,hJx5⟩⟩
   ·have b0:(r==0)=false:=by simpa using h0
    have hF:(nT T k).F=0:=by
     rcases hr with ⟨h,-⟩|⟨-,h,-⟩|⟨-,h,-⟩
     ·exact absurd h h0
     ·exact h
     ·exact h
    have HF:Hid (pre.map pairG=gotTo T (k+1)∧J pre w4∧SheetT w4 b gp B ps T own∧Blk w4 bs #[.pointer (some ⟨b,0,none⟩)] 26∧l<w4.heap.size):=⟨by rw[HGN.out hF];exact HP.out.1,hJ4,HSB.out⟩
    clear hr hF hJ4 hE4 HSB hE hB hg hO hga hk3 hk4 p1 p2 p3 h0 HGT HGN HP c0
    generalize inoC (nT T k) v=ZN at *
    gi_wp2_with ((with_reducible show wpListIn _ _ _ _ _ (⟨_,.store 37 (.tmp 4) (.tmp 14),_,_,_,_⟩::_) _ _);refine wpListIn_store_any (r:=none) rfl 37 (.tmp 4) (.tmp 14) rfl _ rfl _ rfl _ HS4.out ?_)
    refine⟨λ_ h=>(by cases h),?_⟩
    gi_wp2
    go_roundw
    case rel=>exact⟨k+1,_,by omega,by go_num,HF.out⟩
    case measure=>simp[intOf];omega
  ·obtain rfl:k=32:=by omega
   have HF:=Lib.hid (And.intro HP.out.1 HP.out.2.1)
   clear HP hlt hk
   gi_wp2
   go_end0
   exact⟨⟨_,rfl⟩,.inl ⟨pre,HF.out.1,HF.out.2⟩⟩
theorem got_tells {n:Nat} (hn:1≤n) {w:World} {bs b gp:Nat} {B:List Int} {ps:List (Int×Int)} {T:List (Ino×Value)} {own:Nat→List Nat} (hs:SheetT w b gp B ps T own) (hbs:Blk w bs #[.pointer (some ⟨b,0,none⟩)] 26) {C:List Nat} (hC:∀k∈C,k≠bs∧k≠b∧k≠gp):
  Tells n Tryz.prog 56 #[.pointer (some ⟨bs,0,none⟩)] encG (RdG T) (λxs=>xs.map pairG=gotTo T 32) (λpre=>pre≠[]∧∀x∈pre,pairG x∈gotTo T 32) 32 C w:=by
 intro l J Jx W hk hl hlW hJ _ hY h0
 have h1:=hbs.lt
 have h2:=hs.lt
 exact got1_in n l bs b gp B ps T own hn C hC J Jx hJ ⟨by omega,by omega,by omega⟩ hY W hlW (hbs.keep hk (by simp)) (hs.keep0 hk) h0
end Go.Proofs.YtphojondgfjmgaaGreatDoor
namespace Go.Proofs.YtphojondgfjmgaaGreatDoor
open Go.RowKit
theorem getN_nat {B:List Int} {ps:List (Int×Int)} {i:Nat} (h:i<3128):getN B ps (i:Int)=(putAll B ps).getD i 0:=by
 unfold getN
 rw[if_pos (by omega),Int.toNat_natCast]
theorem super_iff (X:List Int):superOk X↔(∀i:Nat,i<8→SupP (i:Int) (X.getD i 0))∧∀k:Nat,k<4→X.getD (820+k) 0=0:=by
 unfold superOk SupP
 constructor
 ·rintro⟨h0,h1,h2,h3,h4⟩
  refine⟨λi hi=>⟨λe=> ?_,λe=> ?_,λe=> ?_,λe=>h3 i (by omega) hi⟩,λk hk=>h4 _ (by omega) (by omega)⟩
  ·obtain rfl:i=0:=by omega
   exact h0
  ·obtain rfl:i=1:=by omega
   exact h1
  ·obtain rfl:i=2:=by omega
   exact h2
 ·rintro⟨h,g⟩
  refine⟨(h 0 (by omega)).1 rfl,(h 1 (by omega)).2.1 rfl,(h 2 (by omega)).2.2.1 rfl,λi h3 h8=>(h i h8).2.2.2 (by omega),λi h1 h2=> ?_⟩
  have :=g (i-820) (by omega)
  rwa[show 820+(i-820)=i by omega] at this
set_option maxRecDepth 100000 in
set_option maxHeartbeats 2000000 in
theorem wordsRight_at {w:World} {b gp:Nat} {B:List Int} {ps:List (Int×Int)} (h:ShAt w b gp B ps):
  Calls Tryz.prog 47 #[.pointer (some ⟨b,0,none⟩)] w (BelowPost w (superOk (putAll B ps))):=by
 have HG:Hid (∀i:Nat,i<3128→Calls Tryz.prog 15 #[.pointer (some ⟨b,0,none⟩),.int .i64 (i:Int)] w λe w'=>e= .returned (.int .u64 ((putAll B ps).getD i 0))∧w=w'):=λi hi=>by
  have :=txGet_at h (i:Int)
  rwa[getN_nat hi] at this
 have HP:Hid (∀r:Bool,(r=true↔(∀i:Nat,i<8→SupP (i:Int) ((putAll B ps).getD i 0))∧∀k:Nat,k<4→(putAll B ps).getD (820+k) 0=0)→BelowPost w (superOk (putAll B ps)) (.returned (.bool r)) w):=λr hr=>⟨r,rfl,hr.trans (super_iff _).symm,Keeps.refl _ _⟩
 clear h
 generalize putAll B ps=X at *
 generalize superOk X=pS at *
 go_enter Tryz.func47,Tryz.ntmps47
 go_wp2_with fail
 go_loopg [3] 8 (λgh s3 wx=>w=wx∧∃k:Nat,k+gh=8∧s3= .int .i64 (k:Int)∧Hid (∀i:Nat,i<k→SupP (i:Int) (X.getD i 0)))
 case atStart=>exact⟨rfl,0,by omega,rfl,λi hi=>by omega⟩
 case round=>
  obtain⟨rfl,k,hk,rfl,HI⟩:=hrel
  cases gk with
  |succ gg=>
   have hki:(k:Int)<8:=by omega
   have hk0:(0:Int)≤(k:Int):=by omega
   have HGK:=Lib.hid (HG.out k (by omega))
   have HSR:=Lib.hid (superRight_at (k:Int) (X.getD k 0) hk0)
   have HNX:Hid (SupP (k:Int) (X.getD k 0)→∀i:Nat,i<k+1→SupP (i:Int) (X.getD i 0)):=λhs i hi=>by
    by_cases e:i=k
    ·rw[e];exact hs
    ·exact HI.out i (by omega)
   have HNO:Hid (¬SupP (k:Int) (X.getD k 0)→¬((∀i:Nat,i<8→SupP (i:Int) (X.getD i 0))∧∀k:Nat,k<4→X.getD (820+k) 0=0)):=λhs hh=>hs (hh.1 k (by omega))
   generalize X.getD k 0=x at *
   clear HI HG
   go_wp2_with fail
   refine HGK.out.mono ?_;rintro e w1 ⟨rfl,rfl⟩
   clear HGK
   go_wp2_with fail
   refine(HSR.out _).mono ?_;rintro e w1 ⟨⟨r,rfl,hr⟩,rfl⟩
   clear HSR
   cases r
   ·have HF:=Lib.hid (HP.out false ⟨(λh=>by cases h),λhh=>absurd hh (HNO.out λhs=>by cases hr.2 hs)⟩)
    clear HNX HNO HP hr
    go_wp2_with fail
    go_ret
    exact HF.out
   ·have HN:=Lib.hid (HNX.out (hr.1 rfl))
    clear HNX HNO hr
    go_wp2_with fail
    go_roundg gg
    case measure=>omega
    case rel=>exact⟨rfl,k+1,by omega,by go_num,HN.out⟩
  |zero=>
   obtain rfl:k=8:=by omega
   have H8:=Lib.hid HI.out
   clear HI hk
   go_wp2_with fail
   go_loopg [4] 4 (λgh s4 wx=>w=wx∧∃k:Nat,k+gh=4∧s4= .int .i64 ((820+k:Nat):Int)∧Hid (∀i:Nat,i<k→X.getD (820+i) 0=0))
   case atStart=>exact⟨rfl,0,by omega,rfl,λi hi=>by omega⟩
   case round=>
    obtain⟨rfl,k,hk,rfl,HI⟩:=hrel
    have HGK:Hid (k<4→Calls Tryz.prog 15 #[.pointer (some ⟨b,0,none⟩),.int .i64 ((820+k:Nat):Int)] w λe w'=>e= .returned (.int .u64 (X.getD (820+k) 0))∧w=w'):=λhk4=>HG.out (820+k) (by omega)
    have HNX:Hid (X.getD (820+k) 0=0→∀i:Nat,i<k+1→X.getD (820+i) 0=0):=λhs i hi=>by
     by_cases e:i=k
     ·rw[e];exact hs
     ·exact HI.out i (by omega)
    have HNO:Hid (k<4→X.getD (820+k) 0≠0→¬((∀i:Nat,i<8→SupP (i:Int) (X.getD i 0))∧∀k:Nat,k<4→X.getD (820+k) 0=0)):=λh4 hs hh=>hs (hh.2 k h4)
    obtain⟨q,hq⟩:∃q,820+k=q:=⟨_,rfl⟩
    rw[hq] at HGK HNX HNO
    rw[hq]
    have HQ:=Lib.hid hq
    generalize X.getD q 0=x at *
    cases gk with
    |succ g2=>
     have hqi:(q:Int)<824:=by omega
     have hq0:(0:Int)≤(q:Int):=by omega
     have HG2:=Lib.hid (HGK.out (by omega))
     have hN4:k<4:=by omega
     clear HGK HI HG H8 hq
     by_cases hx:x=0
     ·subst hx
      have HN:=Lib.hid (HNX.out rfl)
      clear HNX HNO hN4
      go_wp2_with fail
      refine HG2.out.mono ?_;rintro e w1 ⟨rfl,rfl⟩
      clear HG2
      go_wp2_with fail
      go_roundg g2
      case measure=>omega
      case rel=>exact⟨rfl,k+1,by omega,by have :=HQ.out;go_num,HN.out⟩
     ·have hb:(x != 0)=true:=bne_iff_ne.2 hx
      have HF:=Lib.hid (HP.out false ⟨(λh=>by cases h),λhh=>absurd hh (HNO.out hN4 hx)⟩)
      clear HNX HNO HP hx hN4
      go_wp2_with fail
      refine HG2.out.mono ?_;rintro e w1 ⟨rfl,rfl⟩
      clear HG2
      go_wp2_with fail
      go_ret
      exact HF.out
    |zero=>
     obtain rfl:k=4:=by omega
     have hqi:¬(q:Int)<824:=by omega
     have HF:=Lib.hid (HP.out true ⟨λ_=>⟨H8.out,HI.out⟩,λ_=>rfl⟩)
     clear HNX HNO HP HGK HI H8 HG hq
     go_wp2_with fail
     go_ret
     exact HF.out
set_option maxRecDepth 100000 in
set_option maxHeartbeats 2000000 in
theorem allGot_at {w:World} {b gp:Nat} {B:List Int} {ps:List (Int×Int)} {T:List (Ino×Value)} {own:Nat→List Nat} (h:SheetT w b gp B ps T own):
  Calls Tryz.prog 48 #[.pointer (some ⟨b,0,none⟩)] w (BelowPost w (allGotP (putAll B ps) T)):=by
 have HG:Hid (∀wx,Keeps [] w wx→∀i:Nat,i<32→Calls Tryz.prog 10 #[.pointer (some ⟨b,0,none⟩),.int .i64 (i:Int)] wx (GotPost wx (putAll B ps) T own i)):=λwx hk i hi=>(h.keep0 hk).get hi
 have HP:Hid (∀(r:Bool) w',(r=true↔∀i:Nat,i<32→FreeP (putAll B ps) (i:Int)∨(nT T i).F≠0)→Keeps [] w w'→BelowPost w (allGotP (putAll B ps) T) (.returned (.bool r)) w'):=λr w' hr hk=>⟨r,rfl,hr,hk⟩
 have hzi:=zero_ino
 obtain⟨Z0,hZ0⟩:∃Z0,inoC inoZ (.slice none 0 0)=Z0:=⟨_,rfl⟩
 have HZZ:Hid (Z0.size=18):=by show _=_;rw[←hZ0];rfl
 rw[hZ0] at hzi
 clear h hZ0
 generalize allGotP (putAll B ps) T=pP at *
 generalize putAll B ps=X at *
 go_enter Tryz.func48,Tryz.ntmps48
 go_wp2_with fail
 go_loopg [7] 32 (λgh s7 wx=>∃k:Nat,k+gh=32∧s7= .int .i64 (k:Int)∧Hid (Keeps [] w wx∧∀i:Nat,i<k→FreeP X (i:Int)∨(nT T i).F≠0))
 case atStart=>exact⟨0,by omega,rfl,Keeps.refl _ _,λi hi=>by omega⟩
 case round=>
  obtain⟨k,hk,rfl,HI⟩:=hrel
  cases gk with
  |zero=>
   obtain rfl:k=32:=by omega
   have HF:=Lib.hid (HP.out true _ ⟨λ_=>HI.out.2,λ_=>rfl⟩ HI.out.1)
   clear HI HP HG
   go_wp2_with fail
   go_ret
   exact HF.out
  |succ gg=>
   have hki:(k:Int)<32:=by omega
   have hk32:k<32:=by omega
   have HGK:=Lib.hid (HG.out _ HI.out.1 k hk32)
   clear HG
   go_wp2_with fail
   refine HGK.out.mono ?_;rintro e w3 ⟨v,g,va,ga,r,rfl,hB,hE,hg,hO,hga,hk3,hr⟩
   obtain⟨w4,p1,p2,p3⟩:=store_ino9 (n:=nT T k) (v:=v) (Blk.new w3 Z0 37) HZZ.out hB hE.one
   have HS4:=Lib.hid p1
   have HK4:Hid (Keeps [] w w4):=(HI.out.1.trans' hk3).trans' (((Keeps.refl [] w3).alloc _).trans p3 (by intro x hx;rw[List.mem_singleton] at hx;omega))
   have HR:=Lib.hid hr
   have HOLD:=Lib.hid HI.out.2
   clear hB hE hg hO hga hk3 hr p1 p2 p3 HI HGK
   generalize inoC (nT T k) v=ZN at *
   by_cases h0:r=0
   ·subst h0
    have HN:Hid (∀i:Nat,i<k+1→FreeP X (i:Int)∨(nT T i).F≠0):=λi hi=>by
     by_cases e:i=k
     ·rw[e]
      rcases HR.out with ⟨-,h⟩|⟨h,-⟩|⟨h,-⟩
      ·exact .inr h
      ·omega
      ·omega
     ·exact HOLD.out i (by omega)
    clear HR HOLD
    go_wp2_with((with_reducible show wpList _ _ _ (⟨_,.store 37 (.tmp 4) (.tmp 14),_,_,_,_⟩::_) _ _);refine wpList_store_any rfl 37 (.tmp 4) (.tmp 14) rfl _ rfl _ rfl _ HS4.out ?_)
    go_roundg gg
    case measure=>omega
    case rel=>exact⟨k+1,by omega,by go_num,HK4.out,HN.out⟩
   ·have b0:(r != 0)=true:=bne_iff_ne.2 h0
    by_cases h2:r=2
    ·subst h2
     have HN:Hid (∀i:Nat,i<k+1→FreeP X (i:Int)∨(nT T i).F≠0):=λi hi=>by
      by_cases e:i=k
      ·rw[e]
       rcases HR.out with ⟨h,-⟩|⟨-,-,h⟩|⟨h,-⟩
       ·omega
       ·exact .inl h
       ·omega
      ·exact HOLD.out i (by omega)
     clear HR HOLD h0
     go_wp2_with((with_reducible show wpList _ _ _ (⟨_,.store 37 (.tmp 4) (.tmp 14),_,_,_,_⟩::_) _ _);refine wpList_store_any rfl 37 (.tmp 4) (.tmp 14) rfl _ rfl _ rfl _ HS4.out ?_)
     go_roundg gg
     case measure=>omega
     case rel=>exact⟨k+1,by omega,by go_num,HK4.out,HN.out⟩
    ·have b2:(r != 2)=true:=bne_iff_ne.2 h2
     have HF:Hid (BelowPost w pP (.returned (.bool false)) w4):=HP.out false _ ⟨(λh=>by cases h),λhh=>by
      rcases HR.out with ⟨h,-⟩|⟨h,-⟩|⟨-,h3,h4⟩
      ·exact absurd h h0
      ·exact absurd h h2
      ·rcases hh k hk32 with h|h
       ·exact absurd h h4
       ·exact absurd h3 h⟩ HK4.out
     clear HR HOLD h0 h2 HP
     go_wp2_with((with_reducible show wpList _ _ _ (⟨_,.store 37 (.tmp 4) (.tmp 14),_,_,_,_⟩::_) _ _);refine wpList_store_any rfl 37 (.tmp 4) (.tmp 14) rfl _ rfl _ rfl _ HS4.out ?_)
     go_ret
     exact HF.out
set_option maxRecDepth 100000 in
set_option maxHeartbeats 2000000 in
theorem allReached_at {w:World} {b gp:Nat} {B:List Int} {ps:List (Int×Int)} {T:List (Ino×Value)} {own:Nat→List Nat} (h:SheetT w b gp B ps T own):
  Calls Tryz.prog 51 #[.pointer (some ⟨b,0,none⟩)] w (BelowPost w (reachP (putAll B ps) T)):=by
 have HFR:Hid (∀wx,Keeps [] w wx→∀i:Nat,i<32→Calls Tryz.prog 24 #[.pointer (some ⟨b,0,none⟩),.int .i64 (i:Int)] wx λe w'=>e= .returned (.bool (decide (FreeP (putAll B ps) (i:Int))))∧Keeps [] wx w'):=λwx hk i hi=>by
  have :=free_at (h.keep0 hk).sh (i:Int)
  rwa[show decide ((0≤(i:Int)∧(i:Int)<32)∧FreeP (putAll B ps) (i:Int))=decide (FreeP (putAll B ps) (i:Int)) by rw[decide_eq_decide];exact⟨λh=>h.2,λh=>⟨⟨by omega,by omega⟩,h⟩⟩] at this
 have HBE:Hid (∀wx,Keeps [] w wx→∀i:Nat,Calls Tryz.prog 65 #[.pointer (some ⟨b,0,none⟩),.int .i64 0,.int .i64 (i:Int)] wx (BelowPost wx (Reach T 0 (i:Int)))):=λwx hk i=>(h.keep0 hk).below 0 (i:Int)
 have HP:Hid (∀(r:Bool) w',(r=true↔∀i:Nat,i<32→¬FreeP (putAll B ps) (i:Int)→Reach T 0 (i:Int))→Keeps [] w w'→BelowPost w (reachP (putAll B ps) T) (.returned (.bool r)) w'):=λr w' hr hk=>⟨r,rfl,hr,hk⟩
 clear h
 generalize reachP (putAll B ps) T=pP at *
 generalize putAll B ps=X at *
 go_enter Tryz.func51,Tryz.ntmps51
 go_wp2_with fail
 go_loopg [4] 32 (λgh s4 wx=>∃k:Nat,k+gh=32∧s4= .int .i64 (k:Int)∧Hid (Keeps [] w wx∧∀i:Nat,i<k→¬FreeP X (i:Int)→Reach T 0 (i:Int)))
 case atStart=>exact⟨0,by omega,rfl,Keeps.refl _ _,λi hi=>by omega⟩
 case round=>
  obtain⟨k,hk,rfl,HI⟩:=hrel
  cases gk with
  |zero=>
   obtain rfl:k=32:=by omega
   have HF:=Lib.hid (HP.out true _ ⟨λ_=>HI.out.2,λ_=>rfl⟩ HI.out.1)
   clear HI HP HFR HBE
   go_wp2_with fail
   go_ret
   exact HF.out
  |succ gg=>
   have hki:(k:Int)<32:=by omega
   have hk32:k<32:=by omega
   have HFK:=Lib.hid (HFR.out _ HI.out.1 k hk32)
   have HOLD:=Lib.hid HI.out.2
   have HKK:=Lib.hid HI.out.1
   clear HI HFR
   by_cases hf:FreeP X (k:Int)
   ·rw[decide_eq_true hf] at HFK
    have HN:Hid (∀i:Nat,i<k+1→¬FreeP X (i:Int)→Reach T 0 (i:Int)):=λi hi hn=>by
     by_cases e:i=k
     ·rw[e] at hn;exact absurd hf hn
     ·exact HOLD.out i (by omega) hn
    clear hf HOLD HBE
    go_wp2_with fail
    refine HFK.out.mono ?_;rintro e w1 ⟨rfl,hk1⟩
    have HK1:=Lib.hid (HKK.out.trans' hk1)
    clear hk1 HFK HKK
    go_wp2_with fail
    go_roundg gg
    case measure=>omega
    case rel=>exact⟨k+1,by omega,by go_num,HK1.out,HN.out⟩
   ·rw[decide_eq_false hf] at HFK
    have HNF:=Lib.hid hf
    clear hf
    go_wp2_with fail
    refine HFK.out.mono ?_;rintro e w1 ⟨rfl,hk1⟩
    have HK1:=Lib.hid (HKK.out.trans' hk1)
    have HB1:=Lib.hid (HBE.out _ HK1.out k)
    clear hk1 HFK HKK HBE
    go_wp2_with fail
    refine HB1.out.mono ?_;rintro e w2 ⟨r,rfl,hr,hk2⟩
    have HK2:=Lib.hid (HK1.out.trans' hk2)
    have HR:=Lib.hid hr
    clear hk2 hr HK1 HB1
    cases r
    ·have HF:=Lib.hid (HP.out false _ ⟨(λh=>by cases h),λhh=>HR.out.2 (hh k hk32 HNF.out)⟩ HK2.out)
     clear HP HR HOLD HNF
     go_wp2_with fail
     go_ret
     exact HF.out
    ·have HN:Hid (∀i:Nat,i<k+1→¬FreeP X (i:Int)→Reach T 0 (i:Int)):=λi hi hn=>by
      by_cases e:i=k
      ·rw[e];exact HR.out.1 rfl
      ·exact HOLD.out i (by omega) hn
     clear HP HR HOLD HNF
     go_wp2_with fail
     go_roundg gg
     case measure=>omega
     case rel=>exact⟨k+1,by omega,by go_num,HK2.out,HN.out⟩
def tallyF (n:Nat) (f:Nat→Nat):List Nat:=(List.range n).map f
theorem tallyF_len (n:Nat) (f:Nat→Nat):(tallyF n f).length=n:=by simp[tallyF]
theorem tallyF_get {n:Nat} {f:Nat→Nat} {j:Nat} (hj:j<n):(tallyF n f).getD j 0=f j:=by
 unfold tallyF
 rw[List.getD_eq_getElem?_getD,List.getElem?_map,List.getElem?_range hj]
 rfl
theorem tallyF_cell {n:Nat} {f:Nat→Nat} {j:Nat} (hj:j<n):(i64s (tallyF n f)).toArray[j]? =some (.int .i64 (f j:Int)):=by
 rw[List.getElem?_toArray,i64s_get (by rw[tallyF_len];exact hj),tallyF_get hj]
theorem tallyF_ext {n:Nat} {f f':Nat→Nat} (h:∀j,j<n→f j=f' j):tallyF n f=tallyF n f':=by
 unfold tallyF
 exact List.map_congr_left λj hj=>h j (List.mem_range.1 hj)
theorem tallyF_set {n:Nat} (f:Nat→Nat) {y:Nat} (x:Nat):(tallyF n f).set y x=tallyF n λq=>if q=y then x else f q:=by
 unfold tallyF
 apply List.ext_getElem (by simp)
 intro j h1 h2
 have hj:j<n:=by simpa using h2
 rw[List.getElem_set]
 simp only[List.getElem_map,List.getElem_range]
 by_cases e:y=j
 ·subst e;simp
 ·rw[if_neg e,if_neg (λh=>e h.symm)]
theorem blk_row {w:World} {g n T:Nat} {f:Nat→Nat} (hb:Blk w g (i64s (tallyF n f)).toArray T) {j:Nat} (hj:j<n):w.cell? ⟨g,j,none⟩=some (.int .i64 (f j:Int)):=by
 rw[hb.cell,tallyF_cell hj]
theorem blk_bump {w:World} {g n T:Nat} {f f':Nat→Nat} (hb:Blk w g (i64s (tallyF n f)).toArray T) (y:Nat) (hf:∀q,q<n→f' q=if q=y then f y+1 else f q) {x:Int} (hx:x=((f y+1:Nat):Int)):Blk (w.setCell ⟨g,y,none⟩ (.int .i64 x)) g (i64s (tallyF n f')).toArray T:=by
 subst hx
 have :=hb.set y (.int .i64 ((f y+1:Nat):Int))
 rw[List.setIfInBounds_toArray] at this
 have e1:(i64s (tallyF n f)).set y (.int .i64 ((f y+1:Nat):Int))=i64s ((tallyF n f).set y (f y+1)):=by simp[i64s,List.map_set]
 rw[e1,tallyF_set,←tallyF_ext hf] at this
 exact this
theorem zero_i32 (w:World):(zeroValue 48).run Tryz.prog w= .ok (.agg (i64s (tallyF 32 λ_=>0)).toArray) w:=by kernel_rfl
theorem zero_i256 (w:World):(zeroValue 100).run Tryz.prog w= .ok (.agg (i64s (tallyF 256 λ_=>0)).toArray) w:=by kernel_rfl
theorem size_i32:(Tryz.prog.info? 48).map (·.size)=some 32:=by kernel_rfl
theorem size_i256:(Tryz.prog.info? 100).map (·.size)=some 256:=by kernel_rfl
theorem i64s_one (l:List Nat):∀u∈i64s l,u.oneCell'=true:=by
 intro u hu
 unfold i64s at hu
 obtain⟨x,-,rfl⟩:=List.mem_map.1 hu
 rfl
theorem load_i32 {w:World} {g T:Nat} {f:Nat→Nat} (hb:Blk w g (i64s (tallyF 32 f)).toArray T):(loadVar 48 ⟨g,0,none⟩).run Tryz.prog w= .ok (.agg (i64s (tallyF 32 f)).toArray) w:=
 run_loadVar_cells g 0 (i64s (tallyF 32 f)) Tryz.underlying48 rfl (by rw[i64s_len,tallyF_len];exact size_i32) λj hj=>by
  rw[hb.cell,Nat.zero_add,List.getElem?_toArray]
theorem load_i256 {w:World} {g T:Nat} {f:Nat→Nat} (hb:Blk w g (i64s (tallyF 256 f)).toArray T):(loadVar 100 ⟨g,0,none⟩).run Tryz.prog w= .ok (.agg (i64s (tallyF 256 f)).toArray) w:=
 run_loadVar_cells g 0 (i64s (tallyF 256 f)) Tryz.underlying100 rfl (by rw[i64s_len,tallyF_len];exact size_i256) λj hj=>by
  rw[hb.cell,Nat.zero_add,List.getElem?_toArray]
theorem store_i32 {w:World} {g T:Nat} {f f':Nat→Nat} (hb:Blk w g (i64s (tallyF 32 f)).toArray T):
  ∃w',(storeVar 48 ⟨g,0,none⟩ (.agg (i64s (tallyF 32 f')).toArray)).run Tryz.prog w= .ok () w'∧Blk w' g (i64s (tallyF 32 f')).toArray T∧Keeps [g] w w':=
 store_whole (P:= Tryz.prog) (ty:= 48) (cs:=i64s (tallyF 32 f')) (by rw[i64s_len,tallyF_len];exact size_i32) hb (by rw[List.size_toArray,i64s_len,i64s_len,tallyF_len,tallyF_len]) (i64s_one _)
def allN (T:List (Ino×Value)) (own:Nat→List Nat) (i:Nat):List Nat:=own i++filesL (nT T i)
theorem files_mem {n:Ino} (hB:n.B.length=13) (hR:RightP n):∀c∈filesL n,c≠0∧c<256:=λc hc=>by
 unfold filesL filesTo at hc
 obtain⟨x,hx,rfl⟩:=List.mem_map.1 hc
 rw[List.mem_filter] at hx
 obtain⟨k,hk,e⟩:=List.getElem_of_mem (List.mem_of_mem_take hx.1)
 have h1:=right_len hR hB k
 rw[List.getD_eq_getElem?_getD,List.getElem?_eq_getElem hk,Option.getD_some,e] at h1
 have h2:x≠0:=by simpa using hx.2
 omega
theorem Gots.all {X:List Int} {T:List (Ino×Value)} {own:Nat→List Nat} (h:Gots X T own) (i:Nat) (hi:i<32):(∀c∈allN T own i,c≠0∧c<256)∧(allN T own i).length≤45:=by
 unfold allN
 rcases h.form i with ⟨-,-,h1⟩|⟨-,h1,h2⟩
 ·refine⟨λc hc=> ?_,?_⟩
  ·rcases List.mem_append.1 hc with hc|hc
   ·exact h1.mem c hc
   ·exact files_mem h1.len h1.right c hc
  ·rw[List.length_append]
   have h3:=h1.ownLen
   have h4:=needA_le h1.right
   have h5:(filesL (nT T i)).length≤13:=filesTo_le _ _
   omega
 ·rw[(h2 hi).1,h1]
  have :filesL inoZ=[]:=by decide
  rw[this]
  exact⟨λc hc=>by simp at hc,by simp⟩
theorem SheetT.all {w:World} {b gp:Nat} {B:List Int} {ps:List (Int×Int)} {T:List (Ino×Value)} {own:Nat→List Nat} (h:SheetT w b gp B ps T own) {i:Nat} (hi:i<32):
  Calls Tryz.prog 66 #[.pointer (some ⟨b,0,none⟩),.int .i64 (i:Int)] w λe w'=>∃v g,e= .returned v∧Reads w' v g (i64s (allN T own i))∧Keeps [] w w'∧(allN T own i≠[]→w.heap.size≤g):=by
 refine(all2_at h.sh h.w64 (i:Int)).mono ?_
 rintro e w' ⟨v,g,l,rfl,hr,hk,hl,hg⟩
 have e:l=allN T own i:=by
  unfold allN
  rcases h.gots.form i with ⟨-,-,h1⟩|⟨-,h1,h2⟩
  ·rcases hl with ⟨n,o,h3,rfl⟩|⟨h3,-⟩
   ·obtain⟨e1,e2⟩:=h1.uniq h3
    rw[e1,e2]
   ·exact absurd h1 (h3 _ _)
  ·rcases hl with ⟨n,o,h3,-⟩|⟨-,rfl⟩
   ·exact absurd h3 ((h2 hi).2 _ _)
   ·rw[(h2 hi).1,h1]
    rfl
 subst e
 exact⟨v,g,rfl,hr,hk,hg⟩
theorem metTo_le {T:List (Ino×Value)} {own:Nat→List Nat} (h:∀i,i<32→(allN T own i).length≤45):∀k b,k≤32→metTo T own k b≤45*k
 |0,_,_=>Nat.zero_le _
 |k+1,b,hk=>by
  have h1:=metTo_le h k b (by omega)
  have h2:=h k (by omega)
  have h3:(own k++filesL (nT T k)).count b≤_:=List.count_le_length
  unfold allN at h2
  show metTo T own k b+_≤_
  omega
theorem count_take_succ {l:List Nat} {j:Nat} (hj:j<l.length) (b:Nat):(l.take (j+1)).count b=if b=l.getD j 0 then (l.take j).count b+1 else (l.take j).count b:=by
 rw[List.take_succ_eq_append_getElem hj,List.count_append,List.count_singleton]
 have :l.getD j 0=l[j]:=by rw[List.getD_eq_getElem?_getD,List.getElem?_eq_getElem hj];rfl
 rw[this]
 by_cases e:b=l[j]
 ·subst e;simp
 ·rw[if_neg e]
  simp
  exact λh=>e h.symm
set_option maxRecDepth 100000 in
set_option maxHeartbeats 4000000 in
theorem blocksOnce_at {w:World} {b gp:Nat} {B:List Int} {ps:List (Int×Int)} {T:List (Ino×Value)} {own:Nat→List Nat} (h:SheetT w b gp B ps T own):
  Calls Tryz.prog 52 #[.pointer (some ⟨b,0,none⟩)] w (BelowPost w (onceP (putAll B ps) T own)):=by
 have HAL:Hid (∀wx,Keeps [] w wx→∀i:Nat,i<32→Calls Tryz.prog 66 #[.pointer (some ⟨b,0,none⟩),.int .i64 (i:Int)] wx λe w'=>∃v g,e= .returned v∧Reads w' v g (i64s (allN T own i))∧Keeps [] wx w'∧(allN T own i≠[]→wx.heap.size≤g)):=λwx hk i hi=>(h.keep0 hk).all hi
 have HUS:Hid (∀wx,Keeps [] w wx→∀c:Nat,c<256→Calls Tryz.prog 67 #[.pointer (some ⟨b,0,none⟩),.int .i64 (c:Int)] wx λe w'=>e= .returned (.bool (usedN (putAll B ps) c))∧wx=w'):=λwx hk c hc=>by
  have :=paUsed_at (h.keep0 hk).sh h.w64 (c:Int)
  rwa[usedB,if_pos (isBl_iff.2 ⟨by omega,by omega⟩),Int.toNat_natCast] at this
 have HGA:Hid (∀i,i<32→(∀c∈allN T own i,c≠0∧c<256)∧(allN T own i).length≤45):=λi hi=>h.gots.all i hi
 have HML:Hid (∀k c,k≤32→metTo T own k c≤45*k):=metTo_le λi hi=>(h.gots.all i hi).2
 have HMS:Hid (∀k c,metTo T own (k+1) c=metTo T own k c+(allN T own k).count c):=λk c=>rfl
 have HP:Hid (∀(r:Bool) w',(r=true↔∀b:Nat,b<256→metTo T own 32 b≤1∧(usedN (putAll B ps) b=true↔metTo T own 32 b=1))→Keeps [] w w'→BelowPost w (onceP (putAll B ps) T own) (.returned (.bool r)) w'):=λr w' hr hk=>⟨r,rfl,hr,hk⟩
 have hz256:=zero_i256
 have HB0:Hid (Blk (w.alloc (.cells (i64s (tallyF 256 λ_=>0)).toArray 100)) w.heap.size (i64s (tallyF 256 λc=>metTo T own 0 c)).toArray 100):=Blk.new w _ _
 have HK0:Hid (Keeps [] w (w.alloc (.cells (i64s (tallyF 256 λ_=>0)).toArray 100))):=(Keeps.refl [] w).alloc _
 clear h
 generalize onceP (putAll B ps) T own=pP at *
 generalize putAll B ps=X at *
 generalize metTo T own=mT at *
 generalize allN T own=aN at *
 generalize (i64s (tallyF 256 λ_=>0)).toArray=Z0 at *
 go_enter Tryz.func52,Tryz.ntmps52
 go_wp2_with fail
 go_loopg [9] 32 (λgh s9 wx=>∃k:Nat,k+gh=32∧s9= .int .i64 (k:Int)∧Hid (Keeps [] w wx∧Blk wx w.heap.size (i64s (tallyF 256 λc=>mT k c)).toArray 100))
 case atStart=>exact⟨0,by omega,rfl,HK0.out,HB0.out⟩
 case round=>
  clear HB0 HK0
  obtain⟨k,hk,rfl,HI⟩:=hrel
  cases gk with
  |succ gg=>
   have hki:(k:Int)<32:=by omega
   have hk32:k<32:=by omega
   have HAK:=Lib.hid (HAL.out _ HI.out.1 k hk32)
   obtain⟨hc45,hl45⟩:=HGA.out k hk32
   have HC45:=Lib.hid hc45
   have HMK:=Lib.hid (λc=>HML.out k c (by omega))
   have hwr:=HI.out.2.lt
   clear hc45 HAL HGA HUS HP
   go_wp2_with fail
   refine HAK.out.mono ?_;rintro e w3 ⟨v,g,rfl,hr,hk3,hg⟩
   obtain⟨a,cap,rfl,hcap,hmx,hcl⟩:=hr
   rw[i64s_len] at hcap hcl ⊢
   have HGN:Hid (aN k≠[]→g≠w.heap.size):=λh0=>by have :=hg h0;omega
   have HCL:Hid (∀j,j<(aN k).length→∃off,a=some ⟨g,off,none⟩∧g<w3.heap.size∧w3.cell? ⟨g,off+j,none⟩=some (.int .i64 (((aN k).getD j 0:Nat):Int))∧g≠w.heap.size):=λj hj=>by
    have hne:aN k≠[]:=λe=>by rw[e] at hj;simp at hj
    obtain⟨h1,off,h2,h3⟩:=hcl (λe=>hne (by unfold i64s at e;simpa using e))
    exact⟨off,h2,h1,by rw[h3 j hj,i64s_get hj],HGN.out hne⟩
   have HB3:Hid (Blk w3 w.heap.size (i64s (tallyF 256 λc=>mT k c+((aN k).take 0).count c)).toArray 100):=HI.out.2.keep hk3 (by simp)
   have HK3:=Lib.hid (HI.out.1.trans' hk3)
   have HCS:=Lib.hid (λj hj=> @count_take_succ (aN k) j hj)
   have HNX:Hid (∀wx,Blk wx w.heap.size (i64s (tallyF 256 λc=>mT k c+((aN k).take (aN k).length).count c)).toArray 100→Blk wx w.heap.size (i64s (tallyF 256 λc=>mT (k+1) c)).toArray 100):=λwx hb=>by
    rw[tallyF_ext (λc _=>HMS.out k c)]
    rwa[List.take_length] at hb
   have HCT:Hid (∀j c,((aN k).take j).count c≤45):=λj c=>Nat.le_trans List.count_le_length (by rw[List.length_take];omega)
   have HGB:Hid (∀j,j<(aN k).length→(aN k).getD j 0<256):=λj hj=>(HC45.out _ (by rw[List.getD_eq_getElem?_getD,List.getElem?_eq_getElem hj];exact List.getElem_mem hj)).2
   clear hk3 hg hcl hcap hmx HI HAK HGN HC45 hwr
   obtain⟨m,hm⟩:∃m,(aN k).length=m:=⟨_,rfl⟩
   rw[hm] at HCL HCS HNX HGB hl45
   rw[hm]
   clear hm
   generalize aN k=L at *
   go_wp2_with fail
   go_loopg [16] m (λgh s16 wx=>∃j:Nat,j+gh=m∧s16= .int .i64 (j:Int)∧Hid (Keeps [w.heap.size] w3 wx∧Blk wx w.heap.size (i64s (tallyF 256 λc=>mT k c+(L.take j).count c)).toArray 100))
   case atStart=>exact⟨0,by omega,rfl,Keeps.refl _ _,HB3.out⟩
   case round=>
    clear HB3
    obtain⟨j,hj,rfl,HI⟩:=hrel
    cases gk with
    |zero=>
     obtain rfl:j=m:=by omega
     have HF:Hid (Keeps [] w wr∧Blk wr w.heap.size (i64s (tallyF 256 λc=>mT (k+1) c)).toArray 100):=⟨HK3.out.trans HI.out.1 (by intro x hx;rw[List.mem_singleton] at hx;omega),HNX.out _ HI.out.2⟩
     clear HI HNX HCL HCS HCT HGB
     go_wp2_with fail
     go_roundg gg
     case measure=>omega
     case rel=>exact⟨k+1,by omega,by go_num,HF.out⟩
    |succ g2=>
     have hjm:j<m:=by omega
     have hji:(j:Int)<(m:Int):=by omega
     have hj0:(0:Int)≤(j:Int):=by omega
     obtain⟨off,rfl,hgl,d1,hgw⟩:=HCL.out j hjm
     have c1:wr.cell? ⟨g,off+j,none⟩=some (.int .i64 ((L.getD j 0:Nat):Int)):=(World.cell?_of_block (a:=⟨g,off+j,none⟩) (HI.out.1.block g hgl (by simpa using hgw))).trans d1
     have hy:=HGB.out j hjm
     have hcs:=λc=>HCS.out j (by omega) c
     have hmk:=HMK.out (L.getD j 0)
     have hct:=HCT.out j (L.getD j 0)
     generalize L.getD j 0=y at *
     have c2:=blk_row HI.out.2 (j:=y) hy
     obtain⟨z,hz⟩:∃z,mT k y+(L.take j).count y=z:=⟨_,rfl⟩
     rw[hz] at c2
     have hzb:z≤1600:=by omega
     have HNB:Hid (∀x:Int,x=((z+1:Nat):Int)→Blk (wr.setCell ⟨w.heap.size,y,none⟩ (.int .i64 x)) w.heap.size (i64s (tallyF 256 λc=>mT k c+(L.take (j+1)).count c)).toArray 100):=λx hx=>blk_bump HI.out.2 y (λq hq=>by
      rw[hcs q]
      by_cases e:q=y
      ·subst e;rw[if_pos rfl,if_pos rfl];omega
      ·rw[if_neg e,if_neg e]) (by rw[hx,hz])
     have f2:=HI.out.2.frozen y
     have HKW:=Lib.hid HI.out.1
     have hyi:(0:Int)≤(y:Int):=by omega
     have hy2:(y:Int)<256:=by omega
     clear HI d1 hcs hz hmk hct HCL HCS HCT HGB
     go_wp2_with fail
     go_roundg g2
     case measure=>omega
     case rel=>exact⟨j+1,by omega,by go_num,HKW.out.setCell (.inl (by simp)) _,HNB.out _ (by go_num)⟩
  |zero=>
   obtain rfl:k=32:=by omega
   have HKW:=Lib.hid HI.out.1
   have HL:Hid ((loadVar 100 ⟨w.heap.size,0,none⟩).run Tryz.prog wr= .ok (.agg (i64s (tallyF 256 λc=>mT 32 c)).toArray) wr):=load_i256 HI.out.2
   have HZ:Hid (∀c,c<256→(i64s (tallyF 256 λc=>mT 32 c)).toArray[c]? =some (.int .i64 (mT 32 c:Int))):=λc hc=>tallyF_cell hc
   have HM32:=Lib.hid (λc=>HML.out 32 c (by omega))
   clear HI HAL HGA HML HMS hk
   generalize (i64s (tallyF 256 λc=>mT 32 c)).toArray=ZC at *
   go_wp2_with((with_reducible show wpList _ _ _ (⟨_,.load 100 (.tmp 3),_,_,_,_⟩::_) _ _);refine wpList_load_any rfl 100 (.tmp 3) rfl _ rfl _ HL.out ?_)
   go_loopg [28] 256 (λgh s28 wx=>wr=wx∧∃c:Nat,c+gh=256∧s28= .int .i64 (c:Int)∧Hid (∀b:Nat,b<c→mT 32 b≤1∧(usedN X b=true↔mT 32 b=1)))
   case atStart=>exact⟨rfl,0,by omega,rfl,λi hi=>by omega⟩
   case round=>
    obtain⟨rfl,c,hc,rfl,HI⟩:=hrel
    cases gk with
    |zero=>
     obtain rfl:c=256:=by omega
     have HF:=Lib.hid (HP.out true _ ⟨λ_=>HI.out,λ_=>rfl⟩ HKW.out)
     clear HI HP HZ HM32 HUS HL
     go_wp2_with fail
     go_ret
     exact HF.out
    |succ g2=>
     have hc256:c<256:=by omega
     have hci:(c:Int)<256:=by omega
     have hix:=run_index_ints 100 3 256 .i64 ZC c _ Tryz.underlying100 Tryz.underlying3 size_int1 hc256 (HZ.out c hc256)
     have HUC:=Lib.hid (HUS.out _ HKW.out c hc256)
     have hm:=HM32.out c
     have HNX:Hid ((mT 32 c≤1∧(usedN X c=true↔mT 32 c=1))→∀b:Nat,b<c+1→mT 32 b≤1∧(usedN X b=true↔mT 32 b=1)):=λhh b hb=>by
      by_cases e:b=c
      ·rw[e];exact hh
      ·exact HI.out b (by omega)
     have HNO:Hid (¬(mT 32 c≤1∧(usedN X c=true↔mT 32 c=1))→¬∀b:Nat,b<256→mT 32 b≤1∧(usedN X b=true↔mT 32 b=1)):=λhh ha=>hh (ha c hc256)
     generalize usedN X c=u at *
     generalize mT 32 c=z at *
     clear HI HZ HM32 HUS HL
     by_cases h1:1<z
     ·have h1i:(1:Int)<(z:Int):=by omega
      have HF:=Lib.hid (HP.out false _ ⟨(λh=>by cases h),λhh=>absurd hh (HNO.out λh=>by omega)⟩ HKW.out)
      clear HNX HNO HP h1
      go_wp2_with fail
      go_ret
      exact HF.out
     ·have h1i:¬(1:Int)<(z:Int):=by omega
      by_cases hz:z=1
      ·subst hz
       cases u
       ·have HF:=Lib.hid (HP.out false _ ⟨(λh=>by cases h),λhh=>absurd hh (HNO.out λh=>by simp at h)⟩ HKW.out)
        clear HNX HNO HP h1
        go_wp2_with fail
        refine HUC.out.mono ?_;rintro e w1 ⟨rfl,rfl⟩
        go_wp2_with fail
        go_ret
        exact HF.out
       ·have HN:=Lib.hid (HNX.out ⟨by omega,by simp⟩)
        clear HNX HNO HP h1
        go_wp2_with fail
        refine HUC.out.mono ?_;rintro e w1 ⟨rfl,rfl⟩
        go_wp2_with fail
        go_roundg g2
        case measure=>omega
        case rel=>exact⟨rfl,c+1,by omega,by go_num,HN.out⟩
      ·obtain rfl:z=0:=by omega
       cases u
       ·have HN:=Lib.hid (HNX.out ⟨by omega,by simp⟩)
        clear HNX HNO HP h1 hz
        go_wp2_with fail
        refine HUC.out.mono ?_;rintro e w1 ⟨rfl,rfl⟩
        go_wp2_with fail
        go_roundg g2
        case measure=>omega
        case rel=>exact⟨rfl,c+1,by omega,by go_num,HN.out⟩
       ·have HF:=Lib.hid (HP.out false _ ⟨(λh=>by cases h),λhh=>absurd hh (HNO.out λh=>by simp at h)⟩ HKW.out)
        clear HNX HNO HP h1 hz
        go_wp2_with fail
        refine HUC.out.mono ?_;rintro e w1 ⟨rfl,rfl⟩
        go_wp2_with fail
        go_ret
        exact HF.out
end Go.Proofs.YtphojondgfjmgaaGreatDoor
