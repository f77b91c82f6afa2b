/-
  Layer 10: the law CheckSound. math/bits' table, out of the row's condition; an array of four words, as an argument. Layer 10: the law CheckBits.
-/
import Derived.Test.YtphojondgfjmgaaGreatDoorG20
import Derived.Test.YtphojondgfjmgaaGreatDoorG21
import Derived.Test.YtphojondgfjmgaaGreatDoorG22
import Derived.Test.YtphojondgfjmgaaGreatDoorG00
import Derived.Test.YtphojondgfjmgaaGreatDoorG01
import Derived.Test.YtphojondgfjmgaaGreatDoorG08
import Derived.Test.YtphojondgfjmgaaGreatDoorRows
import Derived.ProofKit
import Derived.LaidMore
import Derived.OpenShut
import Derived.Stop.Joined
import Derived.Laws.IdiomArrays
namespace Go.Proofs.YtphojondgfjmgaaGreatDoor
open Go.RowKit
theorem nins_keep {W W':World} {v:Value} {l:List (Ino×Value)} (h:NIns W v l) (hk:Keeps [] W W'):NIns W' v l:=by
 obtain⟨h1,a,cap,rfl,h2,h3,h4⟩:=h
 refine⟨λp hp=> ?_,a,cap,rfl,h2,h3,λh0=> ?_⟩
 ·obtain⟨q1,g,q2⟩:=h1 p hp
  exact⟨q1,g,q2.keep hk (by simp)⟩
 ·obtain⟨g,off,e,hg,hc⟩:=h4 h0
  exact⟨g,off,e,Nat.lt_of_lt_of_le hg hk.size,λj hj c hcc=>(World.cell?_of_block (hk.block g hg (by simp))).trans (hc j hj c hcc)⟩
theorem sheet_t {W0 wx:World} {b N:Nat} {A:List Nat} (h:SheetW W0 b N A wx):∃gp ps T own,SheetT wx b gp (padW []) ps T own:=by
 obtain⟨gp,ps,h1,h2,h3,h4,h5,h6,h7⟩:=h
 obtain⟨T,own,hG⟩:=gots_ex (putAll (padW []) ps)
 exact⟨gp,ps,T,own,h1,h6,hG,h1.raw.lt,h2⟩
set_option maxRecDepth 100000 in
set_option maxHeartbeats 2000000 in
theorem awake10_at (w:World):Calls Tryz.prog 5 #[] w λe w'=>e= .returned (.bool true)∧Keeps [] w w':=by
 have HN0:=Lib.hid (txNew_at (w:=w) (v:= .slice none 0 0) (ws:=[]) (g:=0) ⟨none,0,rfl,Nat.le_refl _,by simp,λh=>absurd rfl h⟩)
 go_enter Tryz.func5,Tryz.ntmps5
 go_wp2_with fail
 refine HN0.out.mono ?_;rintro e w1 ⟨b,rfl,hb,hs1,hk1⟩
 obtain⟨T,own,hG⟩:=gots_ex (putAll (padW []) [])
 have hST:SheetT w1 b b (padW []) [] T own:=⟨hs1,pad_64,hG,hs1.raw.lt,hs1.raw.lt⟩
 have HSO:=Lib.hid (sound_at hST)
 have HN:Hid (¬PointP (putAll (padW []) []) T own 0):=λh=>by
  have :=h.1
  rw[show putAll (padW []) []=padW [] from rfl,pad_get] at this
  omega
 have HK1:=Lib.hid hk1
 clear hs1 hk1 hb hG hST HN0
 go_wp2_with fail
 refine HSO.out.mono ?_;rintro e w2 ⟨k,rfl,hf,-,hk2⟩
 have e1:k=1:=by
  rcases hf with ⟨-,h⟩|⟨h0,h1,h2,h3⟩
  ·exact absurd (h 0 (by omega)) HN.out
  ·rcases Nat.lt_or_ge 0 (k-1) with h|h
   ·exact absurd (h3 0 h) HN.out
   ·omega
 subst e1
 have HK2:=Lib.hid (HK1.out.trans' hk2)
 clear hf hk2 HN HSO HK1
 go_wp2_with fail
 go_ret
 exact⟨rfl,HK2.out⟩
theorem zero_own (w:World):(zeroValue 41).run Tryz.prog w= .ok (.agg (List.replicate 32 (Value.slice none 0 0)).toArray) w:=by kernel_rfl
def FillW (X:List Int) (T:List (Ino×Value)) (own:Nat→List Nat) (W3:World) (g1 g2 k:Nat) (gd:Bool) (wx:World):Prop:=
 ∃(Tc:List (Ino×Value)) (V:List Value),TabAtV wx g1 Tc∧Blk wx g2 V.toArray 41∧V.length=32∧(∀v∈V,v.oneCell'=true)∧Keeps [g1,g2] W3 wx∧
  (∀i,i<k→nT Tc i=nT T i∧(∃g,EReads wx (vT Tc i) g (nT T i).E∧g≠g1∧g≠g2)∧∃g,Reads wx (V.getD i undef) g (i64s (own i))∧g≠g1∧g≠g2)∧
  (gd=true↔∀i:Nat,i<k→FreeP X (i:Int)∨(nT T i).F≠0)
theorem FillW.keep {X:List Int} {T:List (Ino×Value)} {own:Nat→List Nat} {W3 wx w':World} {g1 g2 k:Nat} {gd:Bool} (h:FillW X T own W3 g1 g2 k gd wx) (hk:Keeps [] wx w'):FillW X T own W3 g1 g2 k gd w':=by
 obtain⟨Tc,V,h1,h2,h3,h4,h5,h6,h7⟩:=h
 refine⟨Tc,V,h1.keep hk (by simp),h2.keep hk (by simp),h3,h4,h5.trans hk (by simp),λi hi=> ?_,h7⟩
 obtain⟨q1,⟨g,q2,q3⟩,g',q4,q5⟩:=h6 i hi
 exact⟨q1,⟨g,q2.keep hk (by simp),q3⟩,g',q4.keep hk (by simp),q5⟩
theorem FillW.one {X:List Int} {T:List (Ino×Value)} {own:Nat→List Nat} {W3 wx:World} {g1 g2 k:Nat} {gd:Bool} (h:FillW X T own W3 g1 g2 k gd wx) (h12:g1≠g2) (hk:k<32) {v va:Value} {g ga:Nat} (hB:(nT T k).B.length=13) (hE:EReads wx v g (nT T k).E) (hO:RowI wx va ga (own k)) (hg:g≠g1∧g≠g2) (hga:ga≠g1∧ga≠g2) (gd':Bool)
  (hgd:gd'=true↔gd=true∧(FreeP X (k:Int)∨(nT T k).F≠0)):
  ∃w',(storeVar 37 ⟨g1,k*18,none⟩ (.agg (inoC (nT T k) v))).run Tryz.prog wx= .ok () w'∧(∃u,w'.cell? ⟨g2,k,none⟩=some u)∧w'.frozen? ⟨g2,k,none⟩=false∧FillW X T own W3 g1 g2 (k+1) gd' (w'.setCell ⟨g2,k,none⟩ va)∧Keeps [g1] wx w':=by
 obtain⟨Tc,V,h1,h2,h3,h4,h5,h6,h7⟩:=h
 obtain⟨w',p1,p2,p3⟩:=h1.storeI hk hB hE.one
 have hb2:Blk w' g2 V.toArray 41 :=h2.keep p3 (by rw[List.mem_singleton];exact λe=>h12 e.symm)
 have hva:va.oneCell'=true:=by
  obtain⟨a,c,rfl,-⟩:=hO.reads
  rfl
 have hkk:Keeps [g1,g2] wx (w'.setCell ⟨g2,k,none⟩ va):=(p3.mono (l':=[g1,g2]) (by simp)).setCell (.inl (by simp)) _
 refine⟨w',p1,⟨V.getD k undef,own_cell hb2 h3 hk⟩,hb2.frozen _,⟨Tc.set k (nT T k,v),V.set k va,⟨(p2.blk).other (by exact h12) _,p2.ok,p2.len⟩,?_,by rw[List.length_set,h3],λu hu=> ?_,h5.trans' hkk,λi hi=> ?_,?_⟩,p3⟩
 ·have :=hb2.set k va
  rwa[List.setIfInBounds_toArray] at this
 ·rcases List.mem_or_eq_of_mem_set hu with hu|rfl
  ·exact h4 u hu
  ·exact hva
 ·have hl:=h1.len
  rw[nT_set (by rw[hl];exact hk),vT_set (by rw[hl];exact hk)]
  by_cases e:k=i
  ·subst e
   rw[if_pos rfl,if_pos rfl]
   refine⟨rfl,⟨g,hE.keep hkk λ_ hm=> ?_,hg⟩,ga,?_,hga⟩
   ·simp only[List.mem_cons,List.not_mem_nil,or_false] at hm
    exact hm.elim hg.1 hg.2
   ·have :(V.set k va).getD k undef=va:=by rw[List.getD_eq_getElem?_getD,List.getElem?_set];simp[h3,hk]
    rw[this]
    refine hO.reads.keep hkk λhm=> ?_
    simp only[List.mem_cons,List.not_mem_nil,or_false] at hm
    exact hm.elim hga.1 hga.2
  ·rw[if_neg e,if_neg e]
   obtain⟨q1,⟨g',q2,q3⟩,g'',q4,q5⟩:=h6 i (by omega)
   refine⟨q1,⟨g',q2.keep hkk λ_ hm=> ?_,q3⟩,g'',?_,q5⟩
   ·simp only[List.mem_cons,List.not_mem_nil,or_false] at hm
    exact hm.elim q3.1 q3.2
   ·have :(V.set k va).getD i undef=V.getD i undef:=by rw[List.getD_eq_getElem?_getD,List.getElem?_set,if_neg e,List.getD_eq_getElem?_getD]
    rw[this]
    refine q4.keep hkk λhm=> ?_
    simp only[List.mem_cons,List.not_mem_nil,or_false] at hm
    exact hm.elim q5.1 q5.2
 ·rw[hgd,h7]
  constructor
  ·rintro⟨a1,a2⟩ i hi
   by_cases e:i=k
   ·rw[e];exact a2
   ·exact a1 i (by omega)
  ·intro hh
   exact⟨λi hi=>hh i (by omega),hh k (by omega)⟩
theorem FillW.full {X:List Int} {T:List (Ino×Value)} {own:Nat→List Nat} {W3 wx:World} {g1 g2:Nat} {gd:Bool} (h:FillW X T own W3 g1 g2 32 gd wx) (hG:Gots X T own):
  ∃(Tc:List (Ino×Value)) (V:List Value),TabAtV wx g1 Tc∧Blk wx g2 V.toArray 41∧OwnE wx V own∧TabE wx Tc∧Gots X Tc own∧(gd=true↔allGotP X Tc)∧(∀i,nT Tc i=nT T i)∧Keeps [g1,g2] W3 wx:=by
 obtain⟨Tc,V,h1,h2,h3,h4,h5,h6,h7⟩:=h
 have hn:∀i,nT Tc i=nT T i:=λi=>by
  rcases Nat.lt_or_ge i 32 with hi|hi
  ·exact(h6 i hi).1
  ·rw[hG.zero hi]
   unfold nT
   rw[List.getD_eq_getElem?_getD,List.getElem?_eq_none (by rw[h1.len];omega)]
   rfl
 refine⟨Tc,V,h1,h2,⟨h3,h4,λi hi=> ?_⟩,λi hi=> ?_,⟨h1.len,λi hi=>by rw[hn];exact hG.each i hi⟩,?_,hn,h5⟩
 ·obtain⟨-,-,g,q,-⟩:=h6 i hi
  exact⟨g,q⟩
 ·obtain⟨-,⟨g,q,-⟩,-⟩:=h6 i hi
  exact⟨g,by rw[hn];exact q⟩
 ·rw[h7]
  unfold allGotP
  constructor
  ·intro hh i hi;rw[hn];exact hh i hi
  ·intro hh i hi;have :=hh i hi;rwa[hn] at this
set_option maxRecDepth 100000 in
set_option maxHeartbeats 16000000 in
theorem checkSound_at {w:World} {a:Option Addr} {m cap:Nat} {l:List (Ino×Value)} (h:NIns w (.slice a m cap) l) (hT:TabAt w) {vb:Value} {gb:Nat} {ps:List (Int×Int)} (hP:PReads w vb gb ps) (hok:okP ps) (fix:Bool):
  Calls Tryz.prog 3 #[.slice a m cap,vb,.bool fix] w λe w'=>e= .returned (.bool true)∧Keeps [] w w':=by
 have hml:l.length=m:=by
  obtain⟨-,a',c',e,h1,h2,-⟩:=h
  cases e
  rfl
 obtain⟨ab,cb,rfl,hcb,hmb⟩:=hP.val
 have HPO:=Lib.hid hok
 have HPR:Hid (∀wx,Keeps [] w wx→PReads wx (.slice ab ps.length cb) gb ps):=λwx hk=>hP.keep hk (by simp)
 have HAW:=Lib.hid awake10_at
 have HFW:Hid (∀wx,Keeps [] w wx→Calls Tryz.prog 6 #[.slice a m cap] wx (FewsPost wx l)):=λwx hk=>few10_at (nins_keep h hk)
 have HMD:Hid (∀wx,Keeps [] w wx→(l.length≤32∧∀j,j<l.length→FewE (nT l j))→Calls Tryz.prog 7 #[.slice a m cap,.bool fix] wx (MadeSheetP wx)):=λwx hk hf=>made10_at (nins_keep h hk) (hT.keep hk) (by omega) (λj hj=>hf.2 j (by omega)) fix
 unfold maxLen at hmb
 clear h hml hT hP hok
 generalize hmg:ps.length=mp at *
 have HMP:=Lib.hid hmg
 clear hmg
 go_enter Tryz.func3,Tryz.ntmps3
 go_wp2_with fail
 refine(HAW.out _).mono ?_;rintro e w1 ⟨rfl,hk1⟩
 have HK1:=Lib.hid hk1
 have HF1:=Lib.hid (HFW.out w1 hk1)
 clear hk1 HFW
 go_wp2_with fail
 refine HF1.out.mono ?_;rintro e w2 ⟨fb,rfl,hfb,hk2⟩
 have HK2:=Lib.hid (HK1.out.trans' hk2)
 have HFB:=Lib.hid hfb
 clear hk2 hfb HF1 HK1
 cases fb
 ·clear HFB HMD HPR
  go_wp2_with fail
  refine(HAW.out _).mono ?_;rintro e w3 ⟨rfl,hk3⟩
  have HK3:=Lib.hid (HK2.out.trans' hk3)
  clear hk3
  go_wp2_with fail
  go_ret
  exact⟨rfl,HK3.out⟩
 by_cases h6:6<mp
 ·have h6i:(6:Int)<(mp:Int):=by omega
  clear HFB HMD HPR
  go_wp2_with fail
  refine(HAW.out _).mono ?_;rintro e w3 ⟨rfl,hk3⟩
  have HK3:=Lib.hid (HK2.out.trans' hk3)
  clear hk3
  go_wp2_with fail
  go_ret
  exact⟨rfl,HK3.out⟩
 have h6i:¬(6:Int)<(mp:Int):=by omega
 have HM2:=Lib.hid (HMD.out w2 HK2.out (HFB.out rfl))
 clear HMD HFB HAW
 go_wp2_with fail
 refine HM2.out.mono ?_;rintro e w3 ⟨b,rfl,hb,hs3⟩
 have HB:Hid (w2.heap.size≤b):=hb
 have HS3:Hid (SheetW w2 b (30000+0) [] w3):=hs3
 have HPR2:Hid (∀wx,Keeps [] w2 wx→PReads wx (.slice ab mp cb) gb ps):=λwx hk=>HPR.out wx (HK2.out.trans' hk)
 clear hb hs3 HM2 HPR
 go_wp2_with fail
 go_loopg [8] mp (λgh s8 wx=>∃k:Nat,k+gh=mp∧s8= .int .i64 (k:Int)∧Hid (SheetW w2 b (30000+k) [] wx))
 case atStart=>exact⟨0,by omega,rfl,HS3.out⟩
 case round=>
  clear HS3
  obtain⟨k,hk,rfl,HS⟩:=hrel
  cases gk with
  |succ gg=>
   have hkm:k<mp:=by omega
   have hki:(k:Int)<(mp:Int):=by omega
   have hkn:(0:Int)≤(k:Int):=by omega
   obtain⟨hgb,offb,rfl,d1,d2⟩:=(HPR2.out wr HS.out.keeps).get (j:=k) (by rw[HMP.out];exact hkm)
   have HC:Hid (∀wx,Keeps [] wr wx→wx.cell? ⟨gb,offb+k*2,none⟩=some (.int .i64 (patN ps k))∧wx.cell? ⟨gb,offb+k*2+1,none⟩=some (.int .u64 (pwdN ps k))):=λwx hk'=>
    ⟨(World.cell?_of_block (a:=⟨gb,offb+k*2,none⟩) (hk'.block gb hgb (by simp))).trans d1,(World.cell?_of_block (a:=⟨gb,offb+k*2+1,none⟩) (hk'.block gb hgb (by simp))).trans d2⟩
   have hpw:=(okP_get HPO.out (k:=k) (by rw[HMP.out];exact hkm)).2
   have HPUT:Hid (∀wx,Keeps [] wr wx→Calls Tryz.prog 8 #[.pointer (some ⟨b,0,none⟩),.int .i64 (patN ps k),.int .u64 (pwdN ps k)] wx λe w'=>e= .returned (.tuple #[])∧SheetW w2 b (30000+(k+1)) [] w'):=λwx hk'=>
    (sw_put HB.out (HS.out.keep0 hk') (by omega) (by simp) (patN ps k) (pwdN ps k) ⟨hpw.1,by omega⟩).mono λe w' hh=>⟨hh.1,hh.2.1⟩
   clear HS d1 d2 hpw
   generalize patN ps k=x at *
   generalize pwdN ps k=y at *
   go_wp2_with fail
   refine wp_region_last (l:=[_,_,_,_,_,_,_,_,_,_,_]) (o:=_) (S:=λwx=>Keeps [] wr wx) (by kernel_rfl) rfl (by kernel_rfl) (λd _ _ _ _ h=>by cases d<;>exact h) ((Keeps.refl _ _).drew) (by kernel_rfl) (by kernel_rfl) ?_
   repeat (refine EachList.cons ?_ (EachIf.val rfl ?h) ?_;(case h=>(intro wx hx;obtain⟨q0,q1⟩:=HC.out wx hx;clear hx;go_simp;rfl));simp only[Act.put,List.setIfInBounds_toArray,List.set_cons_zero,List.set_cons_succ])
   refine EachList.done λwx hx=> ?_
   have HPX:=Lib.hid (HPUT.out wx hx)
   clear hx HPUT HC
   go_wp2_with fail
   refine HPX.out.mono ?_;rintro e w' ⟨rfl,hm2⟩
   have HM3:=Lib.hid hm2
   clear hm2 HPX
   go_wp2_with fail
   go_roundg gg
   case measure=>omega
   case rel=>exact⟨k+1,by omega,by go_num,HM3.out⟩
  |zero=>
   obtain rfl:k=mp:=by omega
   have hkW:=HS.out.keeps
   obtain⟨gp,qs,T,own,hST⟩:=sheet_t HS.out
   have HST:=Lib.hid hST
   have HWD:=Lib.hid (txWords_at hST.sh)
   have HKW:=Lib.hid (HK2.out.trans' hkW)
   clear HS hkW hST HPR2 HPO HMP hk h6 h6i hcb hmb HK2
   go_wp2_with fail
   refine HWD.out.mono ?_;rintro e w4 ⟨vw,gw,rfl,hwr,hgw,hk4⟩
   obtain⟨aw,cw,rfl,-,-,-⟩:=(show ∃aw cw,vw= .slice aw (u64s (putAll (padW []) qs)).length cw∧True∧True∧True from by obtain⟨aw,cw,e,-⟩:=hwr;exact⟨aw,cw,e,trivial,trivial,trivial⟩)
   have hWl:(u64s (putAll (padW []) qs)).length=3128:=by rw[u64s_len];exact HST.out.sh.raw.lx
   rw[hWl] at hwr ⊢
   have HST4:=Lib.hid (HST.out.keep0 hk4)
   have HWR:=Lib.hid hwr
   have HK4:=Lib.hid (HKW.out.trans' hk4)
   have hgwl:gw<w4.heap.size:=by
    obtain⟨a,c,e,h1,h2,h3⟩:=hwr
    exact(h3 (λe=>by rw[e] at hWl;simp at hWl)).1
   have HGW:Hid (gw<w4.heap.size):=hgwl
   clear hwr hgw hk4 hWl HWD HST HKW hgwl
   have hzt:=zero_tab
   have hzo:=zero_own
   have hzi:=zero_ino
   obtain⟨Z0,hZ0⟩:∃Z0,inoC inoZ (.slice none 0 0)=Z0:=⟨_,rfl⟩
   have HZZ:Hid (Z0.size=18):=by show _=_;rw[←hZ0];rfl
   rw[hZ0] at hzi
   clear hZ0
   have HF0:Hid (FillW (putAll (padW []) qs) T own ((w4.alloc (.cells (tabC tab0) 39)).alloc (.cells (List.replicate 32 (Value.slice none 0 0)).toArray 41)) w4.heap.size (w4.heap.size+1) 0 true ((w4.alloc (.cells (tabC tab0) 39)).alloc (.cells (List.replicate 32 (Value.slice none 0 0)).toArray 41))):=by
    have h2:=Blk.new (w4.alloc (.cells (tabC tab0) 39)) (List.replicate 32 (Value.slice none 0 0)).toArray 41
    rw[World.size_alloc] at h2
    refine⟨tab0,List.replicate 32 (.slice none 0 0),⟨(Blk.new w4 _ _).alloc _,tab0_ok,by simp[tab0]⟩,h2,by simp,λv hv=>by rw[List.eq_of_mem_replicate hv];rfl,Keeps.refl _ _,λi hi=>by omega,⟨λ_ i hi=>by omega,λ_=>rfl⟩⟩
   have HKA:Hid (Keeps [] w4 ((w4.alloc (.cells (tabC tab0) 39)).alloc (.cells (List.replicate 32 (Value.slice none 0 0)).toArray 41))):=((Keeps.refl [] w4).alloc _).alloc _
   obtain⟨W5,hW5⟩:∃W5,(w4.alloc (.cells (tabC tab0) 39)).alloc (.cells (List.replicate 32 (Value.slice none 0 0)).toArray 41)=W5:=⟨_,rfl⟩
   rw[hW5] at HF0 HKA
   have HW5:=Lib.hid hW5
   have hs5:W5.heap.size=w4.heap.size+2:=by rw[←hW5];simp
   have HS5:=Lib.hid hs5
   clear hW5 hs5
   generalize hZT:tabC tab0=ZT at *
   clear hZT
   generalize hZO:(List.replicate 32 (Value.slice none 0 0)).toArray=ZO at *
   clear hZO
   go_wp2_with fail
   try rw[HW5.out]
   clear hzt hzo
   have HX:Hid (b<w4.heap.size∧gp<w4.heap.size):=HST4.out.lt
   obtain⟨g1,hg1⟩:∃g1,w4.heap.size=g1:=⟨_,rfl⟩
   rw[hg1] at HF0 HGW HS5 HX
   try rw[hg1]
   have HG1:=Lib.hid hg1
   clear hg1
   go_loopg [12,13] 32 (λgh s12 s13 wx=>∃(k:Nat) (gd:Bool),k+gh=32∧s12= .bool gd∧s13= .int .i64 (k:Int)∧Hid (FillW (putAll (padW []) qs) T own W5 g1 (g1+1) k gd wx))
   case atStart=>exact⟨0,true,by omega,rfl,rfl,HF0.out⟩
   case round=>
    clear HF0
    obtain⟨k,gd,hk,rfl,rfl,HI⟩:=hrel
    have HKS:Hid (Keeps [g1,g1+1] W5 wr):=by obtain⟨_,_,_,_,_,_,h,_⟩:=HI.out;exact h
    have HSX:Hid (SheetT wr b gp (padW []) qs T own):=(HST4.out.keep0 HKA.out).keep HKS.out λz hz=>by
     have h1:=HX.out
     simp only[List.mem_cons,List.not_mem_nil,or_false] at hz
     omega
    cases gk with
    |succ gg=>
     have hki:(k:Int)<32:=by omega
     have hk0:(0:Int)≤(k:Int):=by omega
     have hk32:k<32:=by omega
     have HGT:=Lib.hid (HSX.out.get hk32)
     have hsz:g1+2≤wr.heap.size:=by have :=HKS.out.size;have :=HS5.out;omega
     clear HSX HKS
     go_wp2_with fail
     refine HGT.out.mono ?_;rintro e w6 ⟨v,g,va,ga,r,rfl,hB,hE,hg,hO,hga,hk6,hr⟩
     obtain⟨aa,nn,ca,rfl⟩:∃aa nn ca,va= .slice aa nn ca:=by
      obtain⟨a1,c1,e1,-⟩:=hO.reads
      exact⟨_,_,_,e1⟩
     obtain⟨w7,p1,p2,p3⟩:=store_ino9 (n:=nT T k) (v:=v) (Blk.new w6 Z0 37) HZZ.out hB hE.one
     have HS7:=Lib.hid p1
     have HL7:=Lib.hid (load_ino p2 hB)
     have hk67:Keeps [] w6 w7:=((Keeps.refl [] w6).alloc _).trans p3 (by intro x hx;rw[List.mem_singleton] at hx;omega)
     have hE7:EReads w7 v g (nT T k).E:=hE.keep hk67 (by simp)
     have hO7:RowI w7 (.slice aa nn ca) ga (own k):=hO.keep hk67 (by simp)
     have hF7:=HI.out.keep (hk6.trans' hk67)
     have HR:=Lib.hid hr
     have HON:Hid (∀gd':Bool,(gd'=true↔gd=true∧(FreeP (putAll (padW []) qs) (k:Int)∨(nT T k).F≠0))→∃w',(storeVar 37 ⟨g1,k*18,none⟩ (.agg (inoC (nT T k) v))).run Tryz.prog w7= .ok () w'∧(∃u,w'.cell? ⟨g1+1,k,none⟩=some u)∧w'.frozen? ⟨g1+1,k,none⟩=false∧FillW (putAll (padW []) qs) T own W5 g1 (g1+1) (k+1) gd' (w'.setCell ⟨g1+1,k,none⟩ (.slice aa nn ca))∧Keeps [g1] w7 w'):=λgd' hgd=>
      hF7.one (by omega) hk32 hB hE7 hO7 (by omega) (by omega) gd' hgd
     clear hr hB hE hg hO hga hk6 p1 p2 p3 hk67 hE7 hO7 hF7 HI HGT hsz
     generalize inoC (nT T k) v=ZN at *
     have hgr:∃gd':Bool,(gd'=true↔gd=true∧(FreeP (putAll (padW []) qs) (k:Int)∨(nT T k).F≠0))∧((gd=false∧gd'=false)∨(gd=true∧r=0∧gd'=true)∨(gd=true∧r=2∧gd'=true)∨(gd=true∧r=10∧gd'=false)):=by
      cases gd
      ·exact⟨false,by simp,.inl ⟨rfl,rfl⟩⟩
      ·rcases HR.out with ⟨rfl,h1⟩|⟨rfl,h1,h2⟩|⟨rfl,h1,h2⟩
       ·exact⟨true,⟨λ_=>⟨rfl,.inr h1⟩,λ_=>rfl⟩,.inr (.inl ⟨rfl,rfl,rfl⟩)⟩
       ·exact⟨true,⟨λ_=>⟨rfl,.inl h2⟩,λ_=>rfl⟩,.inr (.inr (.inl ⟨rfl,rfl,rfl⟩))⟩
       ·exact⟨false,⟨(λh=>by cases h),λh=>by
         rcases h.2 with h|h
         ·exact absurd h h2
         ·exact absurd h1 h⟩,.inr (.inr (.inr ⟨rfl,rfl,rfl⟩))⟩
     obtain⟨gd',hg1',hg2⟩:=hgr
     obtain⟨w8,p1,⟨u8,c8⟩,f8,hf8,-⟩:=HON.out gd' hg1'
     have HS8:=Lib.hid p1
     have HF8:=Lib.hid hf8
     clear p1 hf8 HON hg1' HR
     rcases hg2 with ⟨rfl,rfl⟩|⟨rfl,rfl,rfl⟩|⟨rfl,rfl,rfl⟩|⟨rfl,rfl,rfl⟩
     all_goals
      go_wp2_with(first|((with_reducible show wpList _ _ _ (⟨_,.store 37 (.tmp 14) (.tmp 66),_,_,_,_⟩::_) _ _);refine wpList_store_any rfl 37 (.tmp 14) (.tmp 66) rfl _ rfl _ rfl _ HS7.out ?_)|((with_reducible show wpList _ _ _ (⟨_,.load 37 (.tmp 14),_,_,_,_⟩::_) _ _);refine wpList_load_any rfl 37 (.tmp 14) rfl _ rfl _ HL7.out ?_)|((with_reducible show wpList _ _ _ (⟨_,.store 37 (.tmp 71) (.tmp 70),_,_,_,_⟩::_) _ _);refine wpList_store_any rfl 37 (.tmp 71) (.tmp 70) rfl _ rfl _ rfl _ HS8.out ?_))
      go_roundg gg
      case measure=>omega
      case rel=>exact⟨k+1,_,by omega,rfl,by go_num,HF8.out⟩
    |zero=>
     obtain rfl:k=32:=by omega
     obtain⟨Tc,V,t1,t2,t3,t4,t5,t6,-,-⟩:=HI.out.full HST4.out.gots
     have hSC:SheetT wr b gp (padW []) qs Tc own:=⟨HSX.out.sh,HSX.out.w64,t5,HSX.out.lt⟩
     have HSO:=Lib.hid (sound_at hSC)
     have hwr:Reads wr (.slice aw 3128 cw) gw (u64s (putAll (padW []) qs)):=(HWR.out.keep HKA.out (by simp)).keep HKS.out (by have :=HGW.out;simp only[List.mem_cons,List.not_mem_nil,or_false];omega)
     have hX31:=HSX.out.sh.raw.lx
     have HWG:Hid (∀wx,Keeps [] wr wx→Calls Tryz.prog 12 #[.slice aw 3128 cw,.agg (tabC Tc),.agg V.toArray,.bool gd] wx (WrongPost wx (PointP (putAll (padW []) qs) Tc own))):=λwx hk=>refWrong_at (hwr.keep hk (by simp)) hX31 HSX.out.w64 t1.ok t1.len (t4.keep hk) (t3.keep hk) t5 t6
     have HEN:Hid (∀wx,Keeps [] wr wx→Calls Tryz.prog 13 #[.pointer (some ⟨b,0,none⟩)] wx λe w'=>e= .returned (.agg (i64s (tallyF 32 (ledT Tc))).toArray)∧Keeps [] wx w'):=λwx hk=>entries_at (hSC.keep0 hk)
     have HCO:Hid (∀wx,Keeps [] wr wx→∀i:Nat,Calls Tryz.prog 14 #[.agg (tabC Tc),.int .i64 (i:Int)] wx λe w'=>e= .returned (.int .i64 (ledT Tc i:Int))∧Keeps [] wx w'):=λwx hk i=>refCount_at t1.ok t1.len (t4.keep hk) (m:=24) t5.elen (by omega) i
     have HLT:Hid (∀wx,Keeps [] wr wx→(loadVar 39 ⟨g1,0,none⟩).run Tryz.prog wx= .ok (.agg (tabC Tc)) wx):=λwx hk=>(t1.keep hk (by simp)).load
     have HLV:Hid (∀wx,Keeps [] wr wx→(loadVar 41 ⟨g1+1,0,none⟩).run Tryz.prog wx= .ok (.agg V.toArray) wx):=λwx hk=>load_own (t2.keep hk (by simp)) t3.1
     have HKF:Hid (∀wx,Keeps [] wr wx→Keeps [] w wx):=λwx hk=>((HK4.out.trans' HKA.out).trans HKS.out (by
      intro z hz
      have h1:=HK4.out.size
      have h2:=HG1.out
      simp only[List.mem_cons,List.not_mem_nil,or_false] at hz
      omega)).trans' hk
     clear HI HKS HSX HST4 HWR hwr hX31 hSC t1 t2 t3 t4 t5 t6 HKA HK4 HX HGW HG1 HS5 HW5 HZZ HB hk hzi
     generalize PointP (putAll (padW []) qs) Tc own=pP at *
     generalize tabC Tc=ZC at *
     generalize V.toArray=ZV at *
     go_wp2_with fail
     refine HSO.out.mono ?_;rintro e w6 ⟨k1,rfl,hf1,hb1,hk6⟩
     have HF1:=Lib.hid hf1
     have HK6:=Lib.hid hk6
     have HL6:=Lib.hid (HLT.out w6 hk6)
     have HV6:=Lib.hid (HLV.out w6 hk6)
     have HW6:=Lib.hid (HWG.out w6 hk6)
     clear hf1 hk6 HSO HLV HWG
     go_wp2_with(first|((with_reducible show wpList _ _ _ (⟨_,.load 39 (.tmp 10),_,_,_,_⟩::_) _ _);refine wpList_load_any rfl 39 (.tmp 10) rfl _ rfl _ HL6.out ?_)|((with_reducible show wpList _ _ _ (⟨_,.load 41 (.tmp 11),_,_,_,_⟩::_) _ _);refine wpList_load_any rfl 41 (.tmp 11) rfl _ rfl _ HV6.out ?_))
     refine HW6.out.mono ?_;rintro e w7 ⟨k2,rfl,hf2,-,hk7⟩
     have e12:k1=k2:=HF1.out.uniq hf2
     subst e12
     have HK7:=Lib.hid (HK6.out.trans' hk7)
     have HE7:=Lib.hid (HEN.out w7 HK7.out)
     clear hf2 hk7 HF1 HK6 HL6 HV6 HW6 HEN
     have hz32:=zero_i32
     have hkk:(k1=0)∨(k1≠0∧((k1:Int)==0)=false∧decide (k1=0)=false):=by
      by_cases e:k1=0
      ·exact .inl e
      ·refine .inr ⟨e,?_,decide_eq_false e⟩
       rw[beq_eq_false_iff_ne]
       omega
     obtain⟨Z32,hZ32⟩:∃Z32,(i64s (tallyF 32 λ_=>0)).toArray=Z32:=⟨_,rfl⟩
     rw[hZ32] at hz32
     have HZ32:=Lib.hid hZ32
     clear hZ32
     obtain⟨ZR,hZR⟩:∃ZR,(i64s (tallyF 32 (ledT Tc))).toArray=ZR:=⟨_,rfl⟩
     have HZR:=Lib.hid hZR
     rw[hZR] at HE7
     clear hZR
     rcases hkk with rfl|⟨hk1,hkb,hkd⟩
     all_goals
      go_wp2_with fail
      refine HE7.out.mono ?_;rintro e w8 ⟨rfl,hk8⟩
      obtain⟨w9,p1,p2,p3⟩:=store_i32 (f':=ledT Tc) (show Blk (w8.alloc (.cells Z32 48)) w8.heap.size (i64s (tallyF 32 λ_=>0)).toArray 48 by rw[HZ32.out];exact Blk.new w8 _ _)
      rw[HZR.out] at p1
      have HS9:=Lib.hid p1
      have HB9:=Lib.hid p2
      have HK9:Hid (Keeps [] wr w9):=(HK7.out.trans' hk8).trans' (((Keeps.refl [] w8).alloc _).trans p3 (by intro x hx;rw[List.mem_singleton] at hx;omega))
      clear p1 p2 p3 hk8 HE7 HK7
      go_wp2_with((with_reducible show wpList _ _ _ (⟨_,.store 48 (.tmp 20) (.tmp 104),_,_,_,_⟩::_) _ _);refine wpList_store_any rfl 48 (.tmp 20) (.tmp 104) rfl _ rfl _ rfl _ HS9.out ?_)
      generalize w8.heap.size=g9 at *
      have HLT9:Hid (∀wx,Keeps [] w9 wx→(loadVar 39 ⟨g1,0,none⟩).run Tryz.prog wx= .ok (.agg ZC) wx):=λwx hk=>HLT.out wx (HK9.out.trans' hk)
      have HCO9:Hid (∀wx,Keeps [] w9 wx→∀i:Nat,Calls Tryz.prog 14 #[.agg ZC,.int .i64 (i:Int)] wx λe w'=>e= .returned (.int .i64 (ledT Tc i:Int))∧Keeps [] wx w'):=λwx hk i=>HCO.out wx (HK9.out.trans' hk) i
      have HKF9:Hid (∀wx,Keeps [] w9 wx→Keeps [] w wx):=λwx hk=>HKF.out wx (HK9.out.trans' hk)
      clear HLT HCO HKF HK9 HS9
      go_loopg [21] 32 (λgh s21 wx=>Hid (Keeps [] w9 wx)∧∃k:Nat,k+gh=32∧s21= .int .i64 (k:Int))
      case atStart=>exact⟨Keeps.refl _ _,0,by omega,rfl⟩
      case round=>
       obtain⟨HKX,k,hk,rfl⟩:=hrel
       cases gk with
       |zero=>
        obtain rfl:k=32:=by omega
        have HFF:=Lib.hid (HKF9.out _ HKX.out)
        clear HKF9 HKX HB9 HCO9 HLT9 hk
        go_wp2_with fail
        go_ret
        exact⟨rfl,HFF.out⟩
       |succ gg=>
        have hki:(k:Int)<32:=by omega
        have hk0:(0:Int)≤(k:Int):=by omega
        have hk32:k<32:=by omega
        have HLK:Hid (∀wx,Keeps [] wr wx→(loadVar 39 ⟨g1,0,none⟩).run Tryz.prog wx= .ok (.agg ZC) wx):=λwx hk=>HLT9.out wx (HKX.out.trans' hk)
        have HCK:Hid (∀wx,Keeps [] wr wx→Calls Tryz.prog 14 #[.agg ZC,.int .i64 (k:Int)] wx λe w'=>e= .returned (.int .i64 (ledT Tc k:Int))∧Keeps [] wx w'):=λwx hk=>HCO9.out wx (HKX.out.trans' hk) k
        have HCE:Hid (∀wx,Keeps [] wr wx→wx.cell? ⟨g9,k,none⟩=some (.int .i64 (ledT Tc k:Int))):=λwx hk=>blk_row (HB9.out.keep (HKX.out.trans' hk) (by simp)) hk32
        have HKN:=Lib.hid (λwx (hk:Keeps [] wr wx)=>HKX.out.trans' hk)
        clear HLT9 HCO9 HKF9 HB9 HKX
        generalize ledT Tc k=z at *
        go_wp2_with fail
        refine wp_region_each (S:=λwx=>Keeps [] wr wx) (by kernel_rfl) (by kernel_rfl) (λd _ _ _ _ h=>by cases d<;>exact h) ((Keeps.refl _ _).drew) (by kernel_rfl) ?_
        repeat (first
         |(refine EachList.cons (.int .i64 (z:Int)) (EachIf.call rfl 14 #[.agg ZC,.int .i64 (k:Int)] ?he ?h) ?_;(case he=>(intro wz;go_simp));(case h=>exact λwx hx=>(HCK.out wx hx).mono λe w' he=>⟨he.1,hx.trans' he.2⟩);simp only[Act.put,List.setIfInBounds_toArray,List.set_cons_zero,List.set_cons_succ])
         |(refine EachList.cons (.agg ZC) (EachIf.load rfl 39 (.tmp 10) rfl _ rfl λwx hx=>HLK.out wx hx) ?_;simp only[Act.put,List.setIfInBounds_toArray,List.set_cons_zero,List.set_cons_succ])
         |(refine EachList.cons ?_ (EachIf.val rfl ?h) ?_;(case h=>(intro wx hx;have q0:=HCE.out wx hx;clear hx;go_simp;rfl));simp only[Act.put,List.setIfInBounds_toArray,List.set_cons_zero,List.set_cons_succ]))
        refine EachList.done λwx hx=> ?_
        have HKN2:=Lib.hid (HKN.out wx hx)
        clear hx HLK HCK HCE HKN
        go_wp2_with fail
        go_roundg gg
        case measure=>omega
        case rel=>exact⟨HKN2.out,k+1,by omega,by go_num⟩
end Go.Proofs.YtphojondgfjmgaaGreatDoor
namespace Go.Proofs.YtphojondgfjmgaaGreatDoor
open Go.ChangeShapes Go.WideShapes Go.ChangeAt Go.WideMaps Go.WideElems Go.RowKit
theorem Tryz.gTab: Tryz.prog.globalNamed "math/bits.deBruijn64tab" =some 0 :=by kernel_rfl
theorem Tryz.tTab:(Tryz.prog.globals[0]?).map (·.type)=some 173 :=by kernel_rfl
theorem Tryz.cells_u8: Tryz.prog.cellsOf 5 =1:=by kernel_rfl
theorem tabList {H:Type}:Rows.laid_math_bits_deBruijn64tab (H:=H)= .agg (Lib.deBruijn64tab.map λn:Nat=> .lit (.int .u8 (n:Int))):=rfl
theorem tab_of_laid {W:World} (h:laidMetH Tryz.prog [("math/bits.deBruijn64tab",Rows.laid_math_bits_deBruijn64tab)] W):TabAt W:=by
 rw[MakeChecks.laidMetH_plain _ _ _ (by kernel_rfl)] at h
 obtain⟨ps,⟨g0,t0,cs0,f0,p0,q0,hg0,ht0,hv0,hd0,_,_⟩,_,_⟩:=h
 obtain rfl:=Option.some.inj (Tryz.gTab.symm.trans hg0)
 obtain rfl:=Option.some.inj (Tryz.tTab.symm.trans ht0)
 obtain⟨xs,m,rfl,hx,hlen,hn,hel⟩:=DataW.trod_array Tryz.underlying173 hd0
 rw[tabList] at hx
 simp only[Prod.mk.injEq,DataW.agg.injEq] at hx
 intro j hj
 have hj':=hel j hj
 rw[Tryz.cells_u8,Nat.mul_one] at hj'
 cases hxj:xs[j]? with
 |none=>rw[List.getElem?_eq_none_iff] at hxj;omega
 |some y=>
  rw[hxj] at hj'
  have hlen':((cs0.toList.drop j).take 1).length=1:=by
   rw[List.length_take,List.length_drop]
   have h64: Tryz.prog.cellsOf 173 =64:=by kernel_rfl
   rw[h64] at hlen
   omega
  obtain⟨c,hc⟩:∃c,(cs0.toList.drop j).take 1=[c]:=by
   match (cs0.toList.drop j).take 1,hlen' with
   | [c],_=>exact⟨c,rfl⟩
  rw[hc] at hj'
  obtain⟨k,e1,e2,_⟩:=DataW.trod_int Tryz.underlying5 hj'
  have hk:(xs.map (·.1))[j]? =some (.lit (.int .u8 k)):=by rw[List.getElem?_map,hxj,e2];rfl
  rw[←hx.1,List.getElem?_map] at hk
  have hjl:j<Lib.deBruijn64tab.length:=hj
  rw[List.getElem?_eq_getElem hjl] at hk
  have hk2:k=((Lib.deBruijn64tab.getD j 0:Nat):Int):=by
   have :((Lib.deBruijn64tab[j]:Nat):Int)=k:=by simpa using hk
   rw[←this,List.getD_eq_getElem?_getD,List.getElem?_eq_getElem hjl]
   rfl
  have hcell:=World.var?_cell hg0 hv0 j
  rw[hcell,←hk2]
  have h3:((cs0.toList.drop j).take 1)[0]? =some c:=by rw[hc];rfl
  rw[List.getElem?_take,if_pos (by omega),List.getElem?_drop,Nat.add_zero,Array.getElem?_toList] at h3
  rw[h3]
  simp only[List.cons.injEq,and_true] at e1
  rw[e1]
set_option maxRecDepth 100000 in
theorem door_met (os:Os) (args:Array Value):laidMetH Tryz.prog [("math/bits.deBruijn64tab",Rows.laid_math_bits_deBruijn64tab)] ((World.doorLaid Tryz.prog 400 os).forCall (λ_ _=>0) ⟨#[],args,[]⟩).memory:=
 laidMetH_of_parts3 (fuel:=8) (laidMet_of_run' 8 (by kernel_rfl) (by kernel_rfl)) (by kernel_rfl) (by kernel_rfl)
end Go.Proofs.YtphojondgfjmgaaGreatDoor
namespace Go.Proofs.YtphojondgfjmgaaGreatDoor
open Go.RowKit
theorem gots_bit {X Y:List Int} {T:List (Ino×Value)} {own:Nat→List Nat} (h:Gots X T own) (hs:∀k,820≤k→Y.getD k 0=X.getD k 0):Gots Y T own:=
 ⟨h.len,λi hi=>by
  rcases h.each i hi with h1|⟨h1,h2,h3⟩
  ·exact .inl (h1.same (λj _=>hs _ (by omega)) (λc _ j _=>hs _ (by omega)))
  ·exact .inr ⟨λn o hst=>h1 n o (hst.same (λj _=>(hs _ (by omega)).symm) (λc _ j _=>(hs _ (by omega)).symm)),h2,h3⟩⟩
theorem free_bit {X Y:List Int} (hs:∀k,820≤k→Y.getD k 0=X.getD k 0) (i:Nat):FreeP Y (i:Int)↔FreeP X (i:Int):=
 ⟨λh=>h.same λj _=>(hs _ (by omega)).symm,λh=>h.same λj _=>hs _ (by omega)⟩
theorem first_bit {X Y:List Int} {T:List (Ino×Value)} {own:Nat→List Nat} (hs:∀k,820≤k→Y.getD k 0=X.getD k 0) (hl:∀k,k<816→Y.getD k 0=X.getD k 0) {b:Nat} (hb:b<256) (hu:usedN Y b= !usedN X b) (h:∀j,j<7→PointP X T own j):FirstP (PointP Y T own) 6:=by
 refine .inr ⟨by omega,by omega,λh5=> ?_,λj hj=> ?_⟩
 ·have h1:=(h 5 (by omega)) b hb
  have h2:metT T own b≤1∧(usedN Y b=true↔metT T own b=1):=h5 b hb
  rw[hu] at h2
  have h3:=h1.2
  have h4:=h2.2
  cases hx:usedN X b
  ·rw[hx] at h3 h4
   have :=h4.1 rfl
   have :=h3.2 this
   cases this
  ·rw[hx] at h3 h4
   have :=h3.1 rfl
   have :=h4.2 this
   cases this
 ·rcases (show j=0∨j=1∨j=2∨j=3∨j=4 by omega) with rfl|rfl|rfl|rfl|rfl
  ·obtain⟨q0,q1,q2,q3,q4⟩:=h 0 (by omega)
   refine⟨by rw[hl 0 (by omega)];exact q0,by rw[hl 1 (by omega)];exact q1,by rw[hl 2 (by omega)];exact q2,λi h1 h2=>by rw[hl i (by omega)];exact q3 i h1 h2,λi h1 h2=>by rw[hs i (by omega)];exact q4 i h1 h2⟩
  ·intro i hi
   rcases (h 1 (by omega)) i hi with h1|h1
   ·exact .inl ((free_bit hs i).2 h1)
   ·exact .inr h1
  ·obtain⟨q0,q1⟩:=h 2 (by omega)
   exact⟨q0,λi hi hc hf=>q1 i hi hc ((free_bit hs i).1 hf)⟩
  ·exact h 3 (by omega)
  ·intro i hi hf
   exact(h 4 (by omega)) i hi λe=>hf ((free_bit hs i).2 e)
theorem used_xor {X:List Int} (h64:In64 X) (hX:X.length=3128) {b:Nat} (hb:b<256):usedN (X.set (816+b/64) ((bw X (b/64) ^^^ 2^(b%64):Nat):Int)) b= !usedN X b:=by
 unfold usedN
 have e:bw (X.set (816+b/64) ((bw X (b/64) ^^^ 2^(b%64):Nat):Int)) (b/64)=bw X (b/64) ^^^ 2^(b%64):=by
  show((X.set _ _).getD (816+b/64) 0).toNat=_
  rw[getD_setI _ _ _ _ (by omega),if_pos rfl,Int.toNat_natCast]
 rw[e,Nat.testBit_xor,Nat.testBit_two_pow_self]
 simp
theorem xor_lt64 {x:Nat} (hx:x<18446744073709551616) (b:Nat):x ^^^ 2^(b%64)<18446744073709551616:=
 Nat.xor_lt_two_pow (n:=64) hx (pow_lt64 (Nat.mod_lt _ (by omega)))
theorem sheet_t2 {W0 wx:World} {b N:Nat} {A:List Nat} (h:SheetW W0 b N A wx):∃gp ps T own,SheetT wx b gp (padW []) ps T own∧ps.length≤N∧W0.heap.size≤gp:=by
 obtain⟨gp,ps,h1,h2,h3,h4,h5,h6,h7⟩:=h
 obtain⟨T,own,hG⟩:=gots_ex (putAll (padW []) ps)
 exact⟨gp,ps,T,own,⟨h1,h6,hG,h1.raw.lt,h2⟩,h5,h3⟩
set_option maxRecDepth 100000 in
set_option maxHeartbeats 16000000 in
theorem checkBits_at {w:World} {a:Option Addr} {m cap:Nat} {l:List (Ino×Value)} (h:NIns w (.slice a m cap) l) (hT:TabAt w) (bn:Nat) (hbn:bn<256):
  Calls Tryz.prog 4 #[.slice a m cap,.int .u8 (bn:Int)] w λe w'=>e= .returned (.bool true)∧Keeps [] w w':=by
 have hml:l.length=m:=by
  obtain⟨-,a',c',e,h1,h2,-⟩:=h
  cases e
  rfl
 have HAW:=Lib.hid awake10_at
 have HFW:Hid (∀wx,Keeps [] w wx→Calls Tryz.prog 6 #[.slice a m cap] wx (FewsPost wx l)):=λwx hk=>few10_at (nins_keep h hk)
 have HMD:Hid (∀wx,Keeps [] w wx→(l.length≤32∧∀j,j<l.length→FewE (nT l j))→Calls Tryz.prog 7 #[.slice a m cap,.bool true] wx (MadeSheetP wx)):=λwx hk hf=>made10_at (nins_keep h hk) (hT.keep hk) (by omega) (λj hj=>hf.2 j (by omega)) true
 clear h hml hT
 have HBN:=Lib.hid hbn
 go_enter Tryz.func4,Tryz.ntmps4
 go_wp2_with fail
 refine(HAW.out _).mono ?_;rintro e w1 ⟨rfl,hk1⟩
 have HK1:=Lib.hid hk1
 have HF1:=Lib.hid (HFW.out w1 hk1)
 clear hk1 HFW
 go_wp2_with fail
 refine HF1.out.mono ?_;rintro e w2 ⟨fb,rfl,hfb,hk2⟩
 have HK2:=Lib.hid (HK1.out.trans' hk2)
 have HFB:=Lib.hid hfb
 clear hk2 hfb HF1 HK1
 cases fb
 ·clear HFB HMD
  go_wp2_with fail
  refine(HAW.out _).mono ?_;rintro e w3 ⟨rfl,hk3⟩
  have HK3:=Lib.hid (HK2.out.trans' hk3)
  clear hk3
  go_wp2_with fail
  go_ret
  exact⟨rfl,HK3.out⟩
 have HM2:=Lib.hid (HMD.out w2 HK2.out (HFB.out rfl))
 clear HMD HFB HAW
 go_wp2_with fail
 refine HM2.out.mono ?_;rintro e w3 ⟨b,rfl,hb,hs3⟩
 have HS3:=Lib.hid hs3
 have HB:=Lib.hid hb
 obtain⟨gp,qs,T,own,hST,hql,hgp⟩:=sheet_t2 hs3
 have HQL:Hid (qs.length≤30000∧w2.heap.size≤gp):=⟨hql,hgp⟩
 clear hql hgp
 have HST:=Lib.hid hST
 have HSO:=Lib.hid (sound_at hST)
 clear hs3 hb hST HM2
 go_wp2_with fail
 refine HSO.out.mono ?_;rintro e w4 ⟨k1,rfl,hf1,-,hk4⟩
 have HF1:=Lib.hid hf1
 have HS4:=Lib.hid (HS3.out.keep0 hk4)
 have HST4:=Lib.hid (HST.out.keep0 hk4)
 have HK4:=Lib.hid (HK2.out.trans' (HS3.out.keeps.trans' hk4))
 clear hf1 hk4 HSO HS3 HST
 by_cases hk1:k1=0
 rotate_left
 ·have hd:decide (k1=0)=false:=decide_eq_false hk1
  clear HF1 HS4 HST4 hk1
  go_wp2_with fail
  go_ret
  exact⟨rfl,HK4.out⟩
 subst hk1
 have HPT:Hid (∀j,j<7→PointP (putAll (padW []) qs) T own j):=by
  rcases HF1.out with ⟨-,h⟩|⟨h,-⟩
  ·exact h
  ·omega
 have HX64:=Lib.hid HST4.out.w64
 have HX31:Hid ((putAll (padW []) qs).length=3128):=HST4.out.sh.raw.lx
 have hGE:=txGet_at HST4.out.sh ((816+bn/64:Nat):Int)
 rw[getN_bits HX64.out (bn/64) (by omega)] at hGE
 have HGE:=Lib.hid hGE
 have hq4:bn/64<4:=by omega
 obtain⟨y,hy⟩:∃y:Nat,bw (putAll (padW []) qs) (bn/64) ^^^ 2^(bn%64)=y:=⟨_,rfl⟩
 have hy64:y<18446744073709551616:=by rw[←hy];exact xor_lt64 (bw_lt HX64.out _) bn
 have HPU:Hid (Calls Tryz.prog 8 #[.pointer (some ⟨b,0,none⟩),.int .i64 ((816+bn/64:Nat):Int),.int .u64 (y:Int)] w4 λe w'=>e= .returned (.tuple #[])∧Keeps [] w w'∧Calls Tryz.prog 11 #[.pointer (some ⟨b,0,none⟩)] w' λe w''=>e= .returned (.tuple #[.int .i64 6,.bool false])∧Keeps [] w' w''):=by
  refine(txPut_at HST4.out.sh (by have :=HQL.out.1;omega) ((816+bn/64:Nat):Int) (y:Int)).mono ?_
  rintro e w' ⟨rfl,gp',hg,hs,hk⟩
  have hin:inB ((816+bn/64:Nat):Int)=true:=by rw[inB_iff];omega
  rw[putN,if_pos hin] at hs
  have hX:putAll (padW []) (qs++[(((816+bn/64:Nat):Int),(y:Int))])=(putAll (padW []) qs).set (816+bn/64) (y:Int):=by
   rw[putAll_append]
   rfl
  have hsame:∀k,k≠816+bn/64→((putAll (padW []) qs).set (816+bn/64) (y:Int)).getD k 0=(putAll (padW []) qs).getD k 0:=λk hk=>by
   rw[getD_setI _ _ _ _ (by rw[HX31.out];omega),if_neg (λe=>hk e.symm)]
  have hST':SheetT w' b gp' (padW []) (qs++[(((816+bn/64:Nat):Int),(y:Int))]) T own:=by
   refine⟨hs,?_,?_,?_⟩
   ·rw[hX]
    exact HX64.out.set _ _ (by omega) (by omega)
   ·rw[hX]
    exact gots_bit HST4.out.gots λk hk=>hsame k (by omega)
   ·have h1:=HST4.out.lt
    have h2:=hk.size
    omega
  have hfk:FirstP (PointP (putAll (padW []) (qs++[(((816+bn/64:Nat):Int),(y:Int))])) T own) 6:=by
   rw[hX]
   refine first_bit (λk hk=>hsame k (by omega)) (λk hk=>hsame k (by omega)) HBN.out ?_ HPT.out
   rw[←hy]
   exact used_xor HX64.out HX31.out HBN.out
  refine⟨rfl,?_,?_⟩
  ·have h1:=HK2.out.size
   have h2:=HB.out
   have h3:=HQL.out.2
   exact HK4.out.trans hk (by intro z hz;simp only[List.mem_cons,List.not_mem_nil,or_false] at hz;omega)
  ·refine(sound_at hST').mono ?_
   rintro e w'' ⟨k,rfl,hf,-,hkk⟩
   obtain rfl:k=6:=hf.uniq hfk
   exact⟨rfl,hkk⟩
 have HXR:Hid (bits .xor .u64 ((bw (putAll (padW []) qs) (bn/64):Nat):Int) (IntKind.u64.wrap (2^(bn%64)))=(y:Int)):=by
  show _=_
  rw[mskN_shl,u64_xor_nat _ _ (bw_lt HX64.out _) (mskN_lt _)]
  unfold mskN
  rw[hy]
 clear HF1 HS4 HST4 HPT HX64 HX31 hGE hy HQL HB HK2 HBN
 generalize bw (putAll (padW []) qs) (bn/64)=W at *
 have hwb:IntKind.i64.wrap (bn:Int)=(bn:Int):=IntWalk.i64_in _ (by omega)
 have hmd:(bn:Int).tmod 64=((bn%64:Nat):Int):=rfl
 have hdv:(bn:Int).tdiv 64=((bn/64:Nat):Int):=rfl
 have hat:816+((bn/64:Nat):Int)=((816+bn/64:Nat):Int):=by omega
 have haw:wrap64 ((816+bn/64:Nat):Int)=((816+bn/64:Nat):Int):=by unfold wrap64;omega
 generalize 816+bn/64=q at *
 generalize bn/64=bq at *
 go_wp2_with fail
 refine HGE.out.mono ?_;rintro e w5 ⟨rfl,rfl⟩
 go_wp2_with fail
 rw[HXR.out]
 refine HPU.out.mono ?_;rintro e w6 ⟨rfl,hk6,hso⟩
 have HK6:=Lib.hid hk6
 have HSO2:=Lib.hid hso
 clear hk6 hso HPU HXR HGE
 go_wp2_with fail
 refine HSO2.out.mono ?_;rintro e w7 ⟨rfl,hk7⟩
 have HK7:=Lib.hid (HK6.out.trans' hk7)
 clear hk7 HSO2 HK6
 go_wp2_with fail
 go_ret
 exact⟨rfl,HK7.out⟩
end Go.Proofs.YtphojondgfjmgaaGreatDoor
