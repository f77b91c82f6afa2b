/-
  Layer 7, the reference: Bucket. Layer 7, the reference: Need. Layer 7, the reference: Need, of all inodes that are right. Layer 8, the reference's Need; what the laws' awake asks. Layer 8 (inode), plain: puts over one another at one place; how many blocks are free where some are used. Layer 8, the law InodeTurns: the sheet behind each call. Layer 8: the law InodeBent: the sheet behind each call; what Drop makes of the words. Layer 8, the reference's table: its cells; an operation's cells. Layer 8, the reference's table: Used, first. Layer 6, the reference: Same, where both are one inode; the law's sames, where both are one list; the reference's list of what is free.
-/
import Derived.Test.YtphojondgfjmgaaGreatDoorG04
import Derived.Test.YtphojondgfjmgaaGreatDoorG13
import Derived.Test.YtphojondgfjmgaaGreatDoorG10
import Derived.Test.YtphojondgfjmgaaGreatDoorG08
import Derived.Test.YtphojondgfjmgaaGreatDoorG00
import Derived.Test.YtphojondgfjmgaaGreatDoorG12
import Derived.Test.YtphojondgfjmgaaGreatDoorG09
import Derived.Test.YtphojondgfjmgaaGreatDoorG07
import Derived.Laws.StructEq
namespace Go.Proofs.YtphojondgfjmgaaGreatDoor
open Go.RowKit
open Go.RowKit
open Go.RowKit
end Go.Proofs.YtphojondgfjmgaaGreatDoor
namespace Go.Proofs.YtphojondgfjmgaaGreatDoor
open Go.RowKit
theorem pad_get (k:Nat):(padW []).getD k 0=0:=by
 have h:padW []=List.replicate 3128 0:=by decide+kernel
 rw[h,List.getD_eq_getElem?_getD,List.getElem?_replicate]
 split<;>rfl
theorem pad_64:In64 (padW []):=λk=>by rw[pad_get];omega
end Go.Proofs.YtphojondgfjmgaaGreatDoor
namespace Go.Proofs.YtphojondgfjmgaaGreatDoor
open Go.RowKit
end Go.Proofs.YtphojondgfjmgaaGreatDoor
namespace Go.Proofs.YtphojondgfjmgaaGreatDoor
open Go.RowKit
theorem turn_tab {W0 wx wy:World} {b gp:Nat} (hT:TabAt W0) (hb:W0.heap.size≤b) (hg:W0.heap.size≤gp) (hk:Keeps [] W0 wx) (hy:Keeps [b,gp] wx wy):TabAt wy:=
 hT.keep (hk.trans hy (by intro y hy;simp only[List.mem_cons,List.not_mem_nil,or_false] at hy;omega))
theorem turn_apart {W0:World} {b gp g:Nat} {v:Value} {E:List (ByteArray×Int)} (hE:EReads W0 v g E) (hb:W0.heap.size≤b) (hg:W0.heap.size≤gp):E.length≠0→g≠b∧g≠gp:=λh0=>by
 have :=hE.apart (l:=[b,gp]) (λx hx=>by simp only[List.mem_cons,List.not_mem_nil,or_false] at hx;omega) h0
 simp only[List.mem_cons,List.not_mem_nil,or_false,not_or] at this
 exact this
end Go.Proofs.YtphojondgfjmgaaGreatDoor
namespace Go.Proofs.YtphojondgfjmgaaGreatDoor
open Go.RowKit
end Go.Proofs.YtphojondgfjmgaaGreatDoor
namespace Go.Proofs.YtphojondgfjmgaaGreatDoor
open Go.RowKit
def tabL:List (Ino×Value)→List Value
 | []=>[]
 |p::T=>inoL p.1 p.2++tabL T
def tabC (T:List (Ino×Value)):Array Value:=(tabL T).toArray
def nT (T:List (Ino×Value)) (i:Nat):Ino:=(T.getD i (inoZ,.slice none 0 0)).1
def vT (T:List (Ino×Value)) (i:Nat):Value:=(T.getD i (inoZ,.slice none 0 0)).2
def TabOk (T:List (Ino×Value)):Prop:=∀p∈T,p.1.B.length=13∧p.2.oneCell'=true
theorem tabL_len:∀{T:List (Ino×Value)},TabOk T→(tabL T).length=T.length*18
 | [],_=>rfl
 |p::T,h=>by
  have h1:=(h p (by simp)).1
  show(inoL p.1 p.2++tabL T).length=_
  rw[List.length_append,inoL_len,h1,tabL_len (T:=T) λq hq=>h q (by simp[hq]),List.length_cons]
  omega
theorem tabL_one:∀{T:List (Ino×Value)},TabOk T→∀v∈tabL T,v.oneCell'=true
 | [],_=>λv hv=>by simp[tabL] at hv
 |p::T,h=>λv hv=>by
  rcases List.mem_append.1 (show v∈inoL p.1 p.2++tabL T from hv) with hv|hv
  ·exact inoL_one (h p (by simp)).2 v hv
  ·exact tabL_one (T:=T) (λq hq=>h q (by simp[hq])) v hv
theorem tabL_get:∀{T:List (Ino×Value)},TabOk T→∀i,i<T.length→∀j,j<18→(tabL T)[i*18+j]? =(inoL (nT T i) (vT T i))[j]?
 | [],_=>λi hi=>by simp at hi
 |p::T,h=>λi hi j hj=>by
  have h1:=(h p (by simp)).1
  show(inoL p.1 p.2++tabL T)[i*18+j]? =_
  cases i with
  |zero=>
   rw[List.getElem?_append_left (by rw[inoL_len,h1];omega),Nat.zero_mul,Nat.zero_add]
   rfl
  |succ i=>
   rw[List.getElem?_append_right (by rw[inoL_len,h1];omega),inoL_len,h1,show(i+1)*18+j-(13+5)=i*18+j by omega]
   exact tabL_get (T:=T) (λq hq=>h q (by simp[hq])) i (by simpa using hi) j hj
theorem tabL_set:∀{T:List (Ino×Value)},TabOk T→∀i,i<T.length→∀(n:Ino) (v:Value),n.B.length=13→(tabL T).take (i*18)++inoL n v++(tabL T).drop (i*18+(inoL n v).length)=tabL (T.set i (n,v))
 | [],_=>λi hi=>by simp at hi
 |p::T,h=>λi hi n v hB=>by
  have h1:=(h p (by simp)).1
  have hl:(inoL p.1 p.2).length=18:=by rw[inoL_len,h1]
  have hl2:(inoL n v).length=18:=by rw[inoL_len,hB]
  show(inoL p.1 p.2++tabL T).take (i*18)++inoL n v++(inoL p.1 p.2++tabL T).drop (i*18+(inoL n v).length)=_
  cases i with
  |zero=>
   rw[Nat.zero_mul,List.take_zero,List.nil_append,Nat.zero_add,hl2,←hl,List.drop_left]
   rfl
  |succ i=>
   have ih:=tabL_set (T:=T) (λq hq=>h q (by simp[hq])) i (by simpa using hi) n v hB
   rw[hl2] at ih ⊢
   rw[List.take_append,List.drop_append,hl,show(i+1)*18-18=i*18 by omega,show(i+1)*18+18-18=i*18+18 by omega,List.take_of_length_le (by omega),List.drop_of_length_le (by omega),List.nil_append,List.append_assoc,List.append_assoc]
   rw[List.append_assoc] at ih
   rw[ih]
   rfl
theorem TabOk.set {T:List (Ino×Value)} (h:TabOk T) (i:Nat) {n:Ino} {v:Value} (hB:n.B.length=13) (hv:v.oneCell'=true):TabOk (T.set i (n,v)):=by
 intro p hp
 rcases List.mem_or_eq_of_mem_set hp with hp|rfl
 ·exact h p hp
 ·exact⟨hB,hv⟩
theorem nT_set {T:List (Ino×Value)} {i:Nat} (hi:i<T.length) (n:Ino) (v:Value) (j:Nat):nT (T.set i (n,v)) j=if i=j then n else nT T j:=by
 unfold nT
 rw[List.getD_eq_getElem?_getD,List.getElem?_set]
 by_cases h:i=j
 ·subst h;simp[hi]
 ·rw[if_neg h,if_neg h,List.getD_eq_getElem?_getD]
theorem vT_set {T:List (Ino×Value)} {i:Nat} (hi:i<T.length) (n:Ino) (v:Value) (j:Nat):vT (T.set i (n,v)) j=if i=j then v else vT T j:=by
 unfold vT
 rw[List.getD_eq_getElem?_getD,List.getElem?_set]
 by_cases h:i=j
 ·subst h;simp[hi]
 ·rw[if_neg h,if_neg h,List.getD_eq_getElem?_getD]
theorem nT_len {T:List (Ino×Value)} (h:TabOk T) (i:Nat):(nT T i).B.length=13:=by
 unfold nT
 by_cases hi:i<T.length
 ·rw[List.getD_eq_getElem?_getD,List.getElem?_eq_getElem hi,Option.getD_some]
  exact(h _ (List.getElem_mem hi)).1
 ·rw[List.getD_eq_getElem?_getD,List.getElem?_eq_none (by omega)]
  rfl
theorem size_tab:(Tryz.prog.info? 39).map (·.size)=some 576:=by kernel_rfl
structure TabAtV (w:World) (g:Nat) (T:List (Ino×Value)):Prop where
 blk:Blk w g (tabC T) 39
 ok:TabOk T
 len:T.length=32
theorem TabAtV.keep {w w':World} {g:Nat} {T:List (Ino×Value)} (h:TabAtV w g T) {l:List Nat} (hk:Keeps l w w') (hg:g∉l):TabAtV w' g T:=⟨h.blk.keep hk hg,h.ok,h.len⟩
theorem TabAtV.load {w:World} {g:Nat} {T:List (Ino×Value)} (h:TabAtV w g T):(loadVar 39 ⟨g,0,none⟩).run Tryz.prog w= .ok (.agg (tabC T)) w:=
 run_loadVar_cells g 0 (tabL T) Tryz.underlying39 rfl (by rw[tabL_len h.ok,h.len];exact size_tab) λj _=>by
  rw[h.blk.cell,Nat.zero_add,tabC,List.getElem?_toArray]
theorem TabAtV.cell {w:World} {g:Nat} {T:List (Ino×Value)} (h:TabAtV w g T) {i j:Nat} (hi:i<32) (hj:j<18):w.cell? ⟨g,i*18+j,none⟩=(inoL (nT T i) (vT T i))[j]? :=by
 rw[h.blk.cell,tabC,List.getElem?_toArray,tabL_get h.ok i (by rw[h.len];exact hi) j hj]
theorem TabAtV.form {w:World} {g:Nat} {T:List (Ino×Value)} (h:TabAtV w g T) {i:Nat} (hi:i<32):w.cell? ⟨g,i*18,none⟩=some (.int .i64 (nT T i).F):=by
 have :=h.cell hi (j:=0) (by omega)
 rw[Nat.add_zero] at this
 rw[this]
 rfl
theorem TabAtV.loadI {w:World} {g:Nat} {T:List (Ino×Value)} (h:TabAtV w g T) {i:Nat} (hi:i<32):(loadVar 37 ⟨g,i*18,none⟩).run Tryz.prog w= .ok (.agg (inoC (nT T i) (vT T i))) w:=by
 have hl:(inoL (nT T i) (vT T i)).length=18:=by rw[inoL_len,nT_len h.ok]
 exact run_loadVar_cells g (i*18) (inoL (nT T i) (vT T i)) Tryz.underlying37 rfl (by rw[hl];exact size_ino) λj hj=>h.cell hi (by omega)
theorem TabAtV.storeI {w:World} {g:Nat} {T:List (Ino×Value)} (h:TabAtV w g T) {i:Nat} (hi:i<32) {n:Ino} {v:Value} (hB:n.B.length=13) (hv:v.oneCell'=true):
  ∃w',(storeVar 37 ⟨g,i*18,none⟩ (.agg (inoC n v))).run Tryz.prog w= .ok () w'∧TabAtV w' g (T.set i (n,v))∧Keeps [g] w w':=by
 have hl:(inoL n v).length=18:=by rw[inoL_len,hB]
 have hs:=tabL_set h.ok i (by rw[h.len];exact hi) n v hB
 refine⟨_,run_storeVar_cells g (i*18) (inoL n v) (tabC T) (by rw[hl];exact size_ino) h.blk (by rw[tabC,List.size_toArray,tabL_len h.ok,h.len,hl];omega) (inoL_one hv),⟨?_,h.ok.set i hB hv,by rw[List.length_set,h.len]⟩,(Keeps.refl _ _).setRow (by simp) _⟩
 have e:((tabC T).toList.take (i*18)++inoL n v++(tabC T).toList.drop (i*18+(inoL n v).length)).toArray=tabC (T.set i (n,v)):=by
  show _=(tabL (T.set i (n,v))).toArray
  rw[←hs]
  rfl
 rw[e]
 exact setRow_blk h.blk
theorem store_tab {w:World} {g:Nat} {cur:Array Value} {T:List (Ino×Value)} (hb:Blk w g cur 39) (hc:cur.size=576) (h:TabOk T) (hl:T.length=32):
  ∃w',(storeVar 39 ⟨g,0,none⟩ (.agg (tabC T))).run Tryz.prog w= .ok () w'∧TabAtV w' g T∧Keeps [g] w w':=by
 have hlen:=tabL_len h
 obtain⟨w',q1,q2,q3⟩:=store_whole (P:= Tryz.prog) (ty:= 39) (cs:=tabL T) (by rw[hlen,hl];exact size_tab) hb (by rw[hc,hlen,hl]) (tabL_one h)
 exact⟨w',q1,⟨q2,h,hl⟩,q3⟩
theorem tabC_size {T:List (Ino×Value)} (h:TabOk T) (hl:T.length=32):(tabC T).size=576:=by rw[tabC,List.size_toArray,tabL_len h,hl]
def tab0:List (Ino×Value):=List.replicate 32 (inoZ,.slice none 0 0)
theorem tab0_ok:TabOk tab0:=λp hp=>by
 rw[List.eq_of_mem_replicate hp]
 exact⟨rfl,rfl⟩
set_option maxRecDepth 100000 in
theorem zero_tab (w:World):(zeroValue 39).run Tryz.prog w= .ok (.agg (tabC tab0)) w:=by kernel_rfl
def TabR (T:List (Ino×Value)):Prop:=∀i,i<32→0<(nT T i).F→RightP (nT T i)
def TabE (w:World) (T:List (Ino×Value)):Prop:=∀i,i<32→∃g,EReads w (vT T i) g (nT T i).E
theorem TabE.keep {w w':World} {T:List (Ino×Value)} (h:TabE w T) (hk:Keeps [] w w'):TabE w' T:=λi hi=>by
 obtain⟨g,he⟩:=h i hi
 exact⟨g,he.keep hk (by simp)⟩
theorem load_entry {w:World} {g off:Nat} {s:ByteArray} {x:Int} (h0:w.cell? ⟨g,off,none⟩=some (.string s)) (h1:w.cell? ⟨g,off+1,none⟩=some (.int .i64 x)):
  (loadVar 85 ⟨g,off,none⟩).run Tryz.prog w= .ok (.agg #[.string s,.int .i64 x]) w:=
 run_loadVar_cells g off [.string s,.int .i64 x] Tryz.underlying85 rfl size_entry λj hj=>by
  rcases (show j=0∨j=1 by have :j<2:=hj;omega) with rfl|rfl
  ·exact h0
  ·exact h1
end Go.Proofs.YtphojondgfjmgaaGreatDoor
