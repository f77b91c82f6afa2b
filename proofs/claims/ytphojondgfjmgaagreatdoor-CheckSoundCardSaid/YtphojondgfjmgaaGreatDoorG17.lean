/-
  Layer 9, plain: what is reached from an inode, by the table; two ways of finding it. Layer 8, the law InodePlays: the sheet behind each call. Layer 9, plain: names in their order; a list of entries parted at a name. Nothing of the program is named here. Layer 9: strings.Compare; entries found by halves (slices.BinarySearchFunc, search). Layer 9: Find. Layer 9: what is ahead of a name, and what is behind it (around); slices.Grow, slices.Concat of entries. Layer 9: slices.Grow, slices.Concat of entries. Layer 9: an inode with other entries (having). Layer 9: With. Layer 9, the laws' awake.
-/
import Derived.Test.YtphojondgfjmgaaGreatDoorG16
import Derived.Test.YtphojondgfjmgaaGreatDoorG14
import Derived.Test.YtphojondgfjmgaaGreatDoorG10
import Derived.Lib.Bytealg
import Derived.Test.YtphojondgfjmgaaGreatDoorRows
import Derived.Deep.LoopGhost
import Derived.Test.YtphojondgfjmgaaGreatDoorG05
import Derived.Test.YtphojondgfjmgaaGreatDoorG03
import Derived.Test.YtphojondgfjmgaaGreatDoorG08
import Derived.Test.YtphojondgfjmgaaGreatDoorG11
import Derived.Test.YtphojondgfjmgaaGreatDoorG02
import Derived.Test.YtphojondgfjmgaaGreatDoorG07
namespace Go.Proofs.YtphojondgfjmgaaGreatDoor
open Go.RowKit
def succL (T:List (Ino×Value)) (a:Int):List Int:=if 0≤a∧a<32 then (nT T a.toNat).E.map (·.2) else []
inductive Reach (T:List (Ino×Value)) (d:Int):Int→Prop
 |here:Reach T d d
 |step {a b:Int}:Reach T d a→b∈succL T a→Reach T d b
def TabS (T:List (Ino×Value)):Prop:=∀i,(nT T i).F=0→(nT T i).E=[]
theorem TabS.set {T:List (Ino×Value)} (h:TabS T) {j:Nat} (hj:j<T.length) {n:Ino} (v:Value) (hn:n.F≠0):TabS (T.set j (n,v)):=λi hi=>by
 rw[nT_set hj] at hi ⊢
 by_cases e:j=i
 ·rw[if_pos e] at hi;exact absurd hi hn
 ·rw[if_neg e] at hi ⊢;exact h i hi
def TabN (T:List (Ino×Value)):Prop:=∀a,∀b∈succL T a,0≤b∧b<32
theorem tab_n {T:List (Ino×Value)} (hS:TabS T) (hR:TabR T) (hF:∀i:Nat,i<32→0≤(nT T i).F):TabN T:=λa b hb=>by
 unfold succL at hb
 split at hb
 ·next ha=>
  have h1:=hF a.toNat (by omega)
  by_cases h0:(nT T a.toNat).F=0
  ·rw[hS _ h0] at hb;simp at hb
  ·obtain⟨k,hk,he⟩:=List.getElem_of_mem hb
   rw[List.length_map] at hk
   rw[List.getElem_map] at he
   rcases (hR a.toNat (by omega) (by omega)).2.2 with ⟨-,h2⟩|⟨-,h2⟩
   ·have :=h2.2.1;omega
   ·have h3:=(h2.2.2.2 k hk).2.1
    have e:eno (nT T a.toNat).E k=b:=by
     rw[←he]
     simp[eno,List.getD_eq_getElem?_getD,hk]
    rw[e] at h3
    omega
 ·simp at hb
theorem Reach.rng {T:List (Ino×Value)} (hN:TabN T) {d x:Int} (h:Reach T d x):x=d∨(0≤x∧x<32):=by
 cases h with
 |here=>exact .inl rfl
 |step _ hb=>exact .inr (hN _ _ hb)
theorem Reach.out {T:List (Ino×Value)} {d x:Int} (hd:¬(0≤d∧d<32)) (h:Reach T d x):x=d:=by
 induction h with
 |here=>rfl
 |step _ hb ih=>
  subst ih
  unfold succL at hb
  rw[if_neg hd] at hb
  simp at hb
theorem Reach.closed {T:List (Ino×Value)} {d:Int} {P:Int→Prop} (h0:P d) (hc:∀a,P a→∀b∈succL T a,P b) {x:Int} (h:Reach T d x):P x:=by
 induction h with
 |here=>exact h0
 |step _ hb ih=>exact hc _ ih _ hb
theorem nodup_len:∀(l m:List Int),l.Nodup→(∀x∈l,x∈m)→l.length≤m.length
 | [],_,_,_=>Nat.zero_le _
 |a::l,m,hn,h=>by
  have h1:=List.nodup_cons.1 hn
  have ha:=h a (by simp)
  have h2:=nodup_len l (m.erase a) h1.2 λx hx=>by
   have hne:x≠a:=λe=>h1.1 (e▸hx)
   exact(List.mem_erase_of_ne hne).2 (h x (by simp[hx]))
  rw[List.length_erase_of_mem ha] at h2
  have :m.length≠0:=λe=>by rw[List.eq_nil_of_length_eq_zero e] at ha;simp at ha
  rw[List.length_cons]
  omega
structure BInv (T:List (Ino×Value)) (d i:Int) (R:List Int) (k:Nat):Prop where
 nodup:R.Nodup
 reach:∀x∈R,Reach T d x
 first:d∈R
 le:k≤R.length
 done:∀j,j<k→∀x,R[j]? =some x→x≠i∧∀b∈succL T x,b∈R
theorem BInv.start (T:List (Ino×Value)) (d i:Int):BInv T d i [d] 0:=
 ⟨List.nodup_cons.2 ⟨by simp,List.nodup_nil⟩,λx hx=>by rw[List.mem_singleton] at hx;subst hx;exact .here,by simp,Nat.zero_le _,λj hj=>by omega⟩
theorem BInv.len {T:List (Ino×Value)} (hN:TabN T) {d i:Int} {R:List Int} {k:Nat} (h:BInv T d i R k):R.length≤33:=by
 have h1:=nodup_len R (d::(List.range 32).map λn:Nat=>(n:Int)) h.nodup λx hx=>by
  rcases (h.reach x hx).rng hN with e|⟨h1,h2⟩
  ·rw[e];simp
  ·refine List.mem_cons_of_mem _ (List.mem_map.2 ⟨x.toNat,List.mem_range.2 (by omega),by omega⟩)
 rw[List.length_cons,List.length_map,List.length_range] at h1
 exact h1
theorem BInv.found {T:List (Ino×Value)} {d i:Int} {R:List Int} {k:Nat} (h:BInv T d i R k) {x:Int} (hx:R[k]? =some x) (e:x=i):Reach T d i:=by
 rw[←e]
 exact h.reach x (List.mem_of_getElem? hx)
theorem BInv.ended {T:List (Ino×Value)} {d i:Int} {R:List Int} {k:Nat} (h:BInv T d i R k) (hk:k=R.length):¬Reach T d i:=λhr=>by
 subst hk
 have hm:∀x,Reach T d x→x∈R:=λx hx=>Reach.closed (P:=λx=>x∈R) h.first (λa ha b hb=>by
  obtain⟨j,hj,e⟩:=List.getElem_of_mem ha
  exact(h.done j hj a (by rw[List.getElem?_eq_getElem hj,e])).2 b hb) hx
 obtain⟨j,hj,e⟩:=List.getElem_of_mem (hm i hr)
 exact(h.done j hj i (by rw[List.getElem?_eq_getElem hj,e])).1 rfl
theorem BInv.more {T:List (Ino×Value)} {d i:Int} {R:List Int} {k:Nat} (h:BInv T d i R k) {x b:Int} (hx:R[k]? =some x) (hb:b∈succL T x) (hn:b∉R):BInv T d i (R++[b]) k∧(R++[b])[k]? =some x:=by
 have hk:k<R.length:=(List.getElem?_eq_some_iff.1 hx).1
 refine⟨⟨?_,λy hy=> ?_,by simp[h.first],by rw[List.length_append];have :=h.le;omega,λj hj y hy=> ?_⟩,by rw[List.getElem?_append_left hk,hx]⟩
 ·rw[List.nodup_append]
  refine⟨h.nodup,List.nodup_cons.2 ⟨by simp,List.nodup_nil⟩,λy hy z hz e=> ?_⟩
  rw[List.mem_singleton] at hz
  rw[hz] at e
  exact hn (e▸hy)
 ·rcases List.mem_append.1 hy with hy|hy
  ·exact h.reach y hy
  ·rw[List.mem_singleton] at hy
   subst hy
   exact .step (h.reach x (List.mem_of_getElem? hx)) hb
 ·rw[List.getElem?_append_left (by omega)] at hy
  obtain⟨h1,h2⟩:=h.done j hj y hy
  exact⟨h1,λb hb=>by simp[h2 b hb]⟩
theorem BInv.next {T:List (Ino×Value)} {d i:Int} {R:List Int} {k:Nat} (h:BInv T d i R k) {x:Int} (hx:R[k]? =some x) (hne:x≠i) (hall:∀b∈succL T x,b∈R):BInv T d i R (k+1):=by
 have hk:k<R.length:=(List.getElem?_eq_some_iff.1 hx).1
 refine⟨h.nodup,h.reach,h.first,by omega,λj hj y hy=> ?_⟩
 by_cases e:j=k
 ·subst e
  rw[hx] at hy
  cases hy
  exact⟨hne,hall⟩
 ·exact h.done j (by omega) y hy
def mk (S:List Bool) (x:Int):Bool:=S.getD x.toNat false
def SubM (S S':List Bool):Prop:=∀k,S.getD k false=true→S'.getD k false=true
theorem SubM.refl (S:List Bool):SubM S S:=λ_ h=>h
theorem SubM.trans {S S' S'':List Bool} (h:SubM S S') (h':SubM S' S''):SubM S S'':=λk hk=>h' k (h k hk)
def cntM (S:List Bool):Nat:=S.countP λx=>x
theorem cntM_le:∀(S S':List Bool),S.length=S'.length→SubM S S'→cntM S≤cntM S'∧(cntM S=cntM S'→S=S')
 | [],[],_,_=>⟨Nat.le_refl _,λ_=>rfl⟩
 |a::S,b::S',hl,h=>by
  have h0:a=true→b=true:=h 0
  obtain⟨h1,h2⟩:=cntM_le S S' (by simpa using hl) λk hk=>h (k+1) hk
  unfold cntM at *
  rw[List.countP_cons,List.countP_cons]
  cases a<;>cases b
  ·exact⟨by simpa using h1,λe=>by rw[h2 (by simpa using e)]⟩
  ·exact⟨by simp;omega,λe=>by simp at e;omega⟩
  ·exact absurd (h0 rfl) (by simp)
  ·exact⟨by simp;omega,λe=>by rw[h2 (by simpa using e)]⟩
theorem SubM.set (S:List Bool) (k:Nat):SubM S (S.set k true):=λj hj=>by
 rw[List.getD_eq_getElem?_getD,List.getElem?_set]
 by_cases e:k=j
 ·rw[if_pos e]
  have :j<S.length:=by
   rcases Nat.lt_or_ge j S.length with h|h
   ·exact h
   ·rw[List.getD_eq_getElem?_getD,List.getElem?_eq_none h] at hj
    cases hj
  rw[e,if_pos this]
  rfl
 ·rw[if_neg e]
  rw[List.getD_eq_getElem?_getD] at hj
  exact hj
theorem set_mark (S:List Bool) {k:Nat} (hk:k<S.length) (j:Nat):(S.set k true).getD j false=true↔(j=k∨S.getD j false=true):=by
 rw[List.getD_eq_getElem?_getD,List.getElem?_set,List.getD_eq_getElem?_getD]
 by_cases e:k=j
 ·subst e
  simp[hk]
 ·rw[if_neg e]
  exact⟨.inr,λh=>h.resolve_left λh=>e h.symm⟩
def SoundM (T:List (Ino×Value)) (d:Int) (S:List Bool):Prop:=S.length=32∧mk S d=true∧∀k:Nat,k<32→S.getD k false=true→Reach T d (k:Int)
def CompM (T:List (Ino×Value)) (d:Int) (S:List Bool):Prop:=∀x,Reach T d x→mk S x=true
def RoundM (T:List (Ino×Value)) (d:Int) (S:List Bool) (r:Nat):Prop:=SoundM T d S∧(CompM T d S∨r+1≤cntM S)
def InM (T:List (Ino×Value)) (d:Int) (S0 S:List Bool) (k:Nat):Prop:=SoundM T d S∧SubM S0 S∧∀q:Nat,q<k→S0.getD q false=true→∀b∈succL T (q:Int),mk S b=true
theorem SoundM.mark {T:List (Ino×Value)} (hN:TabN T) {d:Int} {S:List Bool} (h:SoundM T d S) {k:Nat} (hk:k<32) (hm:S.getD k false=true) {b:Int} (hb:b∈succL T (k:Int)):SoundM T d (S.set b.toNat true):=by
 obtain⟨h1,h2,h3⟩:=h
 have hr:=hN _ _ hb
 refine⟨by rw[List.length_set,h1],SubM.set S _ _ h2,λj hj hjm=> ?_⟩
 rcases (set_mark S (by omega) j).1 hjm with e|e
 ·have :(j:Int)=b:=by omega
  rw[this]
  exact .step (h3 k hk hm) hb
 ·exact h3 j hj e
theorem RoundM.next {T:List (Ino×Value)} (hN:TabN T) {d:Int} (hd:0≤d∧d<32) {S S':List Bool} {r:Nat} (h:RoundM T d S r) (h':InM T d S S' 32):RoundM T d S' (r+1):=by
 obtain⟨h1,h2⟩:=h
 obtain⟨g1,g2,g3⟩:=h'
 refine⟨g1,?_⟩
 rcases h2 with h2|h2
 ·exact .inl λx hx=>g2 _ (h2 x hx)
 ·obtain⟨c1,c2⟩:=cntM_le S S' (by rw[h1.1,g1.1]) g2
  by_cases e:cntM S=cntM S'
  ·have e2:=c2 e
   subst e2
   refine .inl λx hx=> ?_
   have :(0≤x∧x<32)∧mk S x=true:=Reach.closed (P:=λx=>(0≤x∧x<32)∧mk S x=true) ⟨hd,h1.2.1⟩ (λa ha b hb=> ?_) hx
   ·exact this.2
   ·refine⟨hN _ _ hb,g3 a.toNat (by omega) ha.2 b ?_⟩
    rw[Int.toNat_of_nonneg ha.1.1]
    exact hb
  ·exact .inr (by omega)
theorem cntM_len (S:List Bool):cntM S≤S.length:=List.countP_le_length
theorem RoundM.ended {T:List (Ino×Value)} {d:Int} {S:List Bool} {r:Nat} (h:RoundM T d S r) (hr:32≤r) {i:Int} (hi:0≤i∧i<32):mk S i=true↔Reach T d i:=by
 obtain⟨h1,h2⟩:=h
 constructor
 ·intro hm
  have :=h1.2.2 i.toNat (by omega) hm
  rwa[Int.toNat_of_nonneg hi.1] at this
 ·intro hx
  rcases h2 with h2|h2
  ·exact h2 i hx
  ·have :=cntM_len S
   have :=h1.1
   omega
theorem RoundM.start {T:List (Ino×Value)} {d:Int} (hd:0≤d∧d<32):RoundM T d ((List.replicate 32 false).set d.toNat true) 0:=by
 have hm:=set_mark (List.replicate 32 false) (k:=d.toNat) (by rw[List.length_replicate];omega)
 refine⟨⟨by simp,(hm _).2 (.inl rfl),λk hk hkm=> ?_⟩,.inr ?_⟩
 ·rcases (hm k).1 hkm with e|e
  ·have :(k:Int)=d:=by omega
   rw[this]
   exact .here
  ·rw[List.getD_eq_getElem?_getD,List.getElem?_replicate,if_pos hk] at e
   cases e
 ·have h1:=(hm d.toNat).2 (.inl rfl)
  show 1≤List.countP _ _
  rw[Nat.succ_le_iff,List.countP_pos_iff]
  refine⟨true,?_,rfl⟩
  have hl:d.toNat<((List.replicate 32 false).set d.toNat true).length:=by simp;omega
  rw[List.getD_eq_getElem?_getD,List.getElem?_eq_getElem hl,Option.getD_some] at h1
  have hmem:((List.replicate 32 false).set d.toNat true)[d.toNat]∈(List.replicate 32 false).set d.toNat true:=List.getElem_mem hl
  rwa[h1] at hmem
end Go.Proofs.YtphojondgfjmgaaGreatDoor
namespace Go.Proofs.YtphojondgfjmgaaGreatDoor
open Go.RowKit
open Go.RowKit
open Go.RowKit
open Go.RowKit
open Go.RowKit
open Go.RowKit
open Go.RowKit
open Go.RowKit
end Go.Proofs.YtphojondgfjmgaaGreatDoor
namespace Go.Proofs.YtphojondgfjmgaaGreatDoor
open Go.RowKit
theorem store_ino9 {w:World} {g T:Nat} {cur:Array Value} {n:Ino} {v:Value} (hb:Blk w g cur T) (hc:cur.size=18) (hB:n.B.length=13) (hv:v.oneCell'=true):
  ∃w',(storeVar 37 ⟨g,0,none⟩ (.agg (inoC n v))).run Tryz.prog w= .ok () w'∧Blk w' g (inoC n v) T∧Keeps [g] w w':=
 store_whole (P:= Tryz.prog) (ty:= 37) (cs:=inoL n v) (by rw[inoL_len,hB];exact size_ino) hb (by rw[hc,inoL_len,hB]) (inoL_one hv)
theorem EReads.one {w:World} {v:Value} {g:Nat} {E:List (ByteArray×Int)} (h:EReads w v g E):v.oneCell'=true:=by
 obtain⟨a,cap,rfl,-⟩:=h
 rfl
end Go.Proofs.YtphojondgfjmgaaGreatDoor
