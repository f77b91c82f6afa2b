/-
  A region in the round of a range over a function is walked as a plain one. Arrays of numbers and inodes as values; entries (a name, a number) in memory. Nothing of the program is named here. Arrays of numbers, of words, and inodes: noughts, loaded whole, compared whole. Layer 2 (pack): Join, Bytes. Layer 2 (pack): goodByte, Good; the reference's Good. Layer 2 (pack): Word, Name; the reference's Word and Byte. Layer 6 (fmt1), plain: which inodes are right. Nothing of the program is named here. Results that live in variables; parts of arrays as slices. Layer 7 (fmt2): slices.Chunk over entries, three at a time: what it hands over. Layer 7 (fmt2), plain: the runs of thirteen numbers. Nothing of the program is named here.
-/
import Derived.Test.YtphojondgfjmgaaGreatDoorG00
import Derived.RangeFuncWrites
import Derived.RangeFuncLeaves
import Derived.RangeFuncCalls
import Derived.RangeFuncRecord
import Derived.OrdersIn
import Derived.TacticsIn
import Derived.Test.YtphojondgfjmgaaGreatDoorChecked
import Derived.Test.YtphojondgfjmgaaGreatDoorRows
import Derived.Lib.BufferWrite
import Derived.Laws.IdiomStrings
import Derived.WalkMore
import Derived.RangeFuncNested
import Derived.RangeFuncBound
import Derived.Shelf.Abstract
import Derived.Shelf.RegionOpen
import Derived.WalkKit
import Derived.OwnWalkIn
import Derived.TacticsInMore
import Derived.LoopNIn
import Derived.LoopIn
namespace Go.Proofs.YtphojondgfjmgaaGreatDoor
open Go.RowKit
variable {P:Program} {n:Nat} {r:Option Nat} {ops:Array Oper} {Q:Exit→Act→World→Prop}
theorem uponIn_of_upon {o:Oper} {a:Act} {next:Act→World→Prop} {res:Result Next} (h:o.upon P a next Q res):o.uponIn { Fence.wide with round:=r } n P a next Q res:=by
 unfold Oper.upon at h
 split at h<;>unfold Oper.uponIn<;>simp only
 ·exact h
 ·exact h
 ·exact h
 ·exact⟨λh=>(by cases h),callsIn_wide.2 h⟩
 ·refine⟨λh=>(by cases h),λc cs _=> ?_⟩
  obtain⟨v,w',hr,hs⟩:=h c cs
  exact⟨v,w',hr,stepsIn_wide.2 hs⟩
 ·exact h
 ·exact h.elim
theorem operIn_of_wp {o:Oper} {a:Act} {w:World} {next:Act→World→Prop} (hd:∀c,o.op≠.defer c) (h:o.wp P a w next Q):o.wpIn { Fence.wide with round:=r } n P a w next Q:=by
 refine⟨λ_ _=>trivial,?_⟩
 rw[Oper.semAt_eq _ _ _ hd]
 exact uponIn_of_upon h
theorem wpOpIn_of {K K':Act→World→Prop} (hq:¬LetsOut Q) (hd:∀(i:Nat) (o:Oper),ops[i]? =some o→∀c,o.op≠.defer c) (hK:∀a w,K a w→K' a w) {i:Nat} {a:Act} {w:World} (h:wpOp P ops Q i K a w):wpOpIn { Fence.wide with round:=r } n P ops Q i K' a w:=by
 unfold wpOp at h
 unfold wpOpIn
 cases ho:ops[i]? with
 |none=>rw[ho] at h;exact hK _ _ h
 |some o=>
  rw[ho] at h
  simp only at h ⊢
  split
  ·rename_i hw
   rw[if_pos hw] at h
   rcases h with h|h
   ·exact Oper.wpIn_mono hK (operIn_of_wp (hd i o ho) h)
   ·exact absurd h.2 hq
  ·rename_i hw
   rw[if_neg hw] at h
   exact⟨λ_ _=>trivial,hK _ _ h⟩
theorem wpAnyIn_of {md:Region.Mode} (hq:¬LetsOut Q) (hd:∀(i:Nat) (o:Oper),ops[i]? =some o→∀c,o.op≠.defer c):∀(fuel:Nat) (listed:Array Bool) {a:Act} {w:World},wpAny P md ops Q fuel listed a w→wpAnyIn { Fence.wide with round:=r } n P md ops Q fuel listed a w:=by
 intro fuel
 induction fuel with
 |zero=>intro listed a w h;exact h
 |succ fuel ih=>
  intro listed a w h
  exact⟨h.1,λi hi=>wpOpIn_of hq hd (λa w h=>ih _ h) (h.2 i hi)⟩
theorem wpIn_round_any {id:Nat} {a:Act} {w:World} (hm:P.follows .mixedOrders=true) (hq:¬LetsOut Q) (hd:∀(i:Nat) (o:Oper),ops[i]? =some o→∀c,o.op≠.defer c)
  (h:wpAny P .any ops Q ops.size (Array.replicate ops.size false) a { w with drawn:=w.drawn+1 }):(Code.region id ops true).wpIn { Fence.wide with round:=r } n P Q a w:=
 wpIn_region_any hm (wpAnyIn_of hq hd _ _ h)
theorem KeepsFrom.of_keeps {B:Nat} {l:List Nat} {w w':World} (h:Keeps l w w') (hl:∀k,k∈l→k<w.heap.size→k<B∨∃c T,Blk w k c T):KeepsFrom B w w':=by
 refine⟨h.size,λk o hB hk ho=> ?_⟩
 have hlt:=(Array.getElem?_eq_some_iff.1 hk).1
 refine(h.block k hlt λhm=> ?_).trans hk
 rcases hl k hm hlt with h1|⟨c,T,hb⟩
 ·omega
 ·rw[hb] at hk
  cases hk
  cases ho
theorem Blk.turn {w w':World} {b:Nat} {c:Array Value} {T:Nat} {row:Option Nat} (h:Blk w b c T) (hg:w.grownBy w' row) (hr:∀r,row=some r→∃o:Obj,w.heap[r]? =some o∧o.isCells=false):Blk w' b c T:=by
 refine(hg.block b h.lt λe=> ?_).trans h
 obtain⟨o,ho,hc⟩:=hr b e.symm
 rw[h] at ho
 cases ho
 cases hc
theorem Keeps.turn {w w1 w':World} {B:Nat} {row:Option Nat} {l:List Nat} (h:Keeps l w w1) (hg:w1.grownBy w' row) (hr:∀r,row=some r→B≤r) (hB:w.heap.size≤B):Keeps l w w':=
 h.trans (l':=row.toList) (Keeps.of_grown hg λk hk=> .inl (by rw[hk];simp)) λx hx=> .inr (by have :=hr x (by simpa using hx);omega)
def zs (l:List Int):List Value:=l.map (Value.int .i64)
theorem zs_len (l:List Int):(zs l).length=l.length:=by simp[zs]
theorem zs_get {l:List Int} {j:Nat} (h:j<l.length):(zs l)[j]? =some (.int .i64 (l.getD j 0)):=by simp[zs,h]
theorem zs_set (l:List Int) (j:Nat) (x:Int):(zs l).set j (.int .i64 x)=zs (l.set j x):=by simp[zs,List.map_set]
theorem zs_append (xs ys:List Int):zs (xs++ys)=zs xs++zs ys:=by simp[zs]
theorem zs_one (l:List Int):∀u∈zs l,u.oneCell'=true:=by
 intro u hu
 simp only[zs,List.mem_map] at hu
 obtain⟨x,-,rfl⟩:=hu
 rfl
def ecells (E:List (ByteArray×Int)):List Value:=E.flatMap λp=>[.string p.1,.int .i64 p.2]
def enm (E:List (ByteArray×Int)) (j:Nat):ByteArray:=(E.getD j (ByteArray.empty,0)).1
def eno (E:List (ByteArray×Int)) (j:Nat):Int:=(E.getD j (ByteArray.empty,0)).2
theorem enm_cons (p:ByteArray×Int) (E:List (ByteArray×Int)) (j:Nat):enm (p::E) (j+1)=enm E j:=rfl
theorem eno_cons (p:ByteArray×Int) (E:List (ByteArray×Int)) (j:Nat):eno (p::E) (j+1)=eno E j:=rfl
theorem e_mem {E:List (ByteArray×Int)} {k:Nat} (h:k<E.length):(enm E k,eno E k)∈E:=by
 have :E.getD k (ByteArray.empty,0)=E[k]:=by simp[List.getD_eq_getElem?_getD,h]
 rw[enm,eno,this]
 exact List.getElem_mem h
theorem e_ext {E F:List (ByteArray×Int)} (hl:E.length=F.length) (h:∀k,k<E.length→enm E k=enm F k∧eno E k=eno F k):E=F:=by
 apply List.ext_getElem hl
 intro k h1 h2
 have :=h k h1
 have e1:E.getD k (ByteArray.empty,0)=E[k]:=by simp[List.getD_eq_getElem?_getD,h1]
 have e2:F.getD k (ByteArray.empty,0)=F[k]:=by simp[List.getD_eq_getElem?_getD,h2]
 rw[enm,enm,eno,eno,e1,e2] at this
 exact Prod.ext this.1 this.2
theorem ecells_len (E:List (ByteArray×Int)):(ecells E).length=E.length*2:=by
 induction E with
 |nil=>rfl
 |cons p E ih=>simp[ecells] at ih ⊢;omega
theorem ecells_append (E F:List (ByteArray×Int)):ecells (E++F)=ecells E++ecells F:=by simp[ecells]
theorem ecells_get (E:List (ByteArray×Int)):∀k,k<E.length→(ecells E)[k*2]? =some (.string (enm E k))∧(ecells E)[k*2+1]? =some (.int .i64 (eno E k)):=by
 induction E with
 |nil=>intro k h;simp at h
 |cons p E ih=>
  intro k h
  have hc:ecells (p::E)= .string p.1:: .int .i64 p.2::ecells E:=rfl
  cases k with
  |zero=>rw[hc];exact⟨rfl,rfl⟩
  |succ k=>
   have :=ih k (by simpa using h)
   rw[hc,show(k+1)*2=k*2+1+1 by omega,enm_cons,eno_cons]
   simp only[List.getElem?_cons_succ]
   exact this
theorem ecells_one (E:List (ByteArray×Int)):∀u∈ecells E,u.oneCell'=true:=by
 intro u hu
 simp only[ecells,List.mem_flatMap,List.mem_cons,List.not_mem_nil,or_false] at hu
 obtain⟨p,-,rfl|rfl⟩:=hu<;>rfl
def EReads (w:World) (v:Value) (g:Nat) (E:List (ByteArray×Int)):Prop:=
 ∃a cap,v= .slice a E.length cap∧E.length≤cap∧cap≤maxLen∧(E.length≠0→g<w.heap.size∧∃off,a=some ⟨g,off,none⟩∧
  ∀j,j<E.length→w.cell? ⟨g,off+j*2,none⟩=some (.string (enm E j))∧w.cell? ⟨g,off+j*2+1,none⟩=some (.int .i64 (eno E j)))
theorem EReads.keep {w w':World} {v:Value} {g:Nat} {E:List (ByteArray×Int)} (h:EReads w v g E) {l:List Nat} (hk:Keeps l w w') (hg:E.length≠0→g∉l):EReads w' v g E:=by
 obtain⟨a,cap,h1,h2,h3,h4⟩:=h
 refine⟨a,cap,h1,h2,h3,λhx=> ?_⟩
 obtain⟨hlt,off,h5,h6⟩:=h4 hx
 refine⟨Nat.lt_of_lt_of_le hlt hk.size,off,h5,λj hj=> ?_⟩
 have hb:=hk.block g hlt (hg hx)
 exact⟨(World.cell?_of_block (w:=w) (w':=w') (a:=⟨g,off+j*2,none⟩) hb).trans (h6 j hj).1,(World.cell?_of_block (w:=w) (w':=w') (a:=⟨g,off+j*2+1,none⟩) hb).trans (h6 j hj).2⟩
theorem EReads.open {w:World} {v:Value} {g:Nat} {E:List (ByteArray×Int)} (h:EReads w v g E):∃a cap,v= .slice a E.length cap∧E.length≤cap∧cap≤maxLen∧
  Hid (∀k,k<E.length→g<w.heap.size∧∃off,a=some ⟨g,off,none⟩∧w.cell? ⟨g,off+k*2,none⟩=some (.string (enm E k))∧w.cell? ⟨g,off+k*2+1,none⟩=some (.int .i64 (eno E k))):=by
 obtain⟨a,cap,h1,h2,h3,h4⟩:=h
 refine⟨a,cap,h1,h2,h3,λk hk=> ?_⟩
 obtain⟨h5,off,h6,h7⟩:=h4 (by omega)
 exact⟨h5,off,h6,h7 k hk⟩
theorem EReads.apart {w:World} {v:Value} {g:Nat} {E:List (ByteArray×Int)} (h:EReads w v g E) {l:List Nat} (hl:∀x,x∈l→w.heap.size≤x):E.length≠0→g∉l:=λh0 hm=>by
 obtain⟨a,cap,h1,h2,h3,h4⟩:=h
 have :=(h4 h0).1
 have :=hl g hm
 omega
theorem EReads.nil (w:World) (g:Nat):EReads w (.slice none 0 0) g []:=⟨none,0,rfl,by simp,by simp[maxLen],λh=>absurd rfl h⟩
theorem EReads.anyG {w:World} {v:Value} {g:Nat} {E:List (ByteArray×Int)} (h:EReads w v g E) (he:E.length=0) (g':Nat):EReads w v g' E:=by
 obtain⟨a,cap,h1,h2,h3,h4⟩:=h
 exact⟨a,cap,h1,h2,h3,λh=>absurd he h⟩
theorem Owns.ereads {w:World} {v:Value} {g T n:Nat} {E:List (ByteArray×Int)} (h:Owns w v g T 2 n (ecells E)) (hn:n=E.length):EReads w v g E:=by
 subst hn
 obtain⟨a,cap,hv,h1,h2⟩:=h.val
 refine⟨a,cap,hv,h1,h2,λh0=> ?_⟩
 obtain⟨hg,⟨cap',hv',-,-⟩,hc,-⟩:=h.cell h0
 rw[hv] at hv'
 cases hv'
 refine⟨hg,0,rfl,λj hj=> ?_⟩
 rw[Nat.zero_add,hc (j*2) (by omega),hc (j*2+1) (by omega)]
 exact ecells_get E j hj
structure Ino where
 F:Int
 K:Int
 L:Int
 S:Int
 B:List Int
 E:List (ByteArray×Int)
def inoL (n:Ino) (v:Value):List Value:= .int .i64 n.F:: .int .i64 n.K:: .int .i64 n.L:: .int .i64 n.S::(zs n.B++[v])
def inoC (n:Ino) (v:Value):Array Value:=(inoL n v).toArray
theorem inoL_len (n:Ino) (v:Value):(inoL n v).length=n.B.length+5:=by simp[inoL,zs_len]
theorem inoC_B {n:Ino} (v:Value) {k:Nat} (h:k<n.B.length):(inoC n v)[4+k]? =some (.int .i64 (n.B.getD k 0)):=by
 rw[inoC,List.getElem?_toArray,inoL,show 4+k=k+1+1+1+1 by omega]
 simp only[List.getElem?_cons_succ]
 rw[List.getElem?_append_left (by rw[zs_len];exact h),zs_get h]
theorem inoC_E {n:Ino} (v:Value) (h:n.B.length=13):(inoC n v)[17]? =some v:=by
 rw[inoC,List.getElem?_toArray,inoL]
 simp only[List.getElem?_cons_succ]
 rw[List.getElem?_append_right (by rw[zs_len,h];omega),zs_len,h]
 rfl
structure InoAt (Z:Array Value) (n:Ino) (v:Value):Prop where
 f0:Z[0]? =some (.int .i64 n.F)
 f1:Z[1]? =some (.int .i64 n.K)
 f2:Z[2]? =some (.int .i64 n.L)
 f3:Z[3]? =some (.int .i64 n.S)
 f4:∀k,k<13→Z[4+k]? =some (.int .i64 (n.B.getD k 0))
 f5:Z[17]? =some v
 len:n.B.length=13
 eq:Z=inoC n v
theorem inoAt {n:Ino} (v:Value) (h:n.B.length=13):InoAt (inoC n v) n v:=
 ⟨rfl,rfl,rfl,rfl,λ_ hk=>inoC_B v (by omega),inoC_E v h,h,rfl⟩
theorem z_ext {l m:List Int} (hl:l.length=m.length) (h:∀k,k<l.length→l.getD k 0=m.getD k 0):l=m:=by
 apply List.ext_getElem hl
 intro k h1 h2
 have :=h k h1
 simpa[List.getD_eq_getElem?_getD,h1,h2] using this
theorem run_equalIn_ints {P:Program} (w:World) (d:Nat) (t e:TypeId) (len:Nat) (k k':IntKind) (a b:List Int) (ht:P.underlying t=some (.array len e)) (he:P.underlying e=some (.int k')) (hz:(P.info? e).map (·.size)=some 1)
  (ha:a.length=len) (hb:b.length=len):
  (Op.equalIn (d+2) t (.agg (a.map (Value.int k)).toArray) (.agg (b.map (Value.int k)).toArray)).run P w= .ok (decide (a=b)) w:=by
 have hpart:∀(l:List Int) (i:Nat) (wx:World),i<l.length→(part e (l.map (Value.int k)).toArray i).run P wx= .ok (.int k (l.getD i 0)) wx:=by
  intro l i wx hi
  have hagg:(isAgg e).run P wx= .ok false wx:=by
   unfold isAgg
   rw[Sem.run_bind,run_underlying he wx]
   rfl
  unfold part
  rw[Sem.run_bind,hagg]
  simp[hi]
 have hsz:∀wx:World,(sizeOf e).run P wx= .ok 1 wx:=by
  intro wx
  cases hq:P.info? e with
  |none=>simp[hq] at hz
  |some i=>simp[sizeOf,typeInfo,hq] at hz ⊢;exact hz
 have heq:∀(x y:Int) (wx:World),(Op.equalIn (d+1) e (.int k x) (.int k y)).run P wx= .ok (x==y) wx:=λx y wx=>run_equalIn_int wx d e k k' x y he
 rw[Op.equalIn]
 simp only[Sem.run_bind,run_underlying ht,Result.andThen_ok,hsz,Std.Legacy.Range.forIn_eq_forIn_range',Std.Legacy.Range.size,Nat.sub_zero,Nat.add_sub_cancel,Nat.div_one,Nat.mul_one]
 have key:∀(m s:Nat),s+m=len→Sem.run P (forIn (List.range' s m) ((none:Option Bool),()) λi _=>do
      let x ←part e (List.map (Value.int k) a).toArray i
      let y ←part e (List.map (Value.int k) b).toArray i
      let r ←Op.equalIn (d+1) e x y
      if (!r)=true then pure (ForInStep.done (some false,())) else pure (ForInStep.yield (none,()))) w= .ok (if a.drop s=b.drop s then none else some false,()) w:=by
  intro m
  induction m with
  |zero=>
   intro s hs
   rw[List.drop_of_length_le (by omega),List.drop_of_length_le (by omega),if_pos rfl]
   simp
  |succ m ih=>
   intro s hs
   have h1:s<a.length:=by omega
   have h2:s<b.length:=by omega
   rw[List.range'_succ,List.forIn_cons]
   simp only[Sem.run_bind,hpart a s w h1,hpart b s w h2,Result.andThen_ok,heq]
   rw[List.drop_eq_getElem_cons h1,List.drop_eq_getElem_cons h2]
   have g1:a.getD s 0=a[s]:=by simp[List.getD_eq_getElem?_getD,h1]
   have g2:b.getD s 0=b[s]:=by simp[List.getD_eq_getElem?_getD,h2]
   by_cases hab:a[s]=b[s]
   ·rw[g1,g2,hab]
    have :=ih (s+1) (by omega)
    simp only[BEq.rfl,Bool.not_true,Bool.false_eq_true,if_false,Sem.run_pure,Result.andThen_ok,List.cons.injEq,true_and]
    exact this
   ·have hne:(a[s]==b[s])=false:=by simpa using hab
    rw[g1,g2,hne]
    simp
    intro hd
    rw[List.drop_eq_getElem_cons h1,List.drop_eq_getElem_cons h2] at hd
    exact absurd (List.cons.inj hd).1 hab
 rw[key len 0 (by omega)]
 by_cases h:a=b
 ·simp[h]
 ·simp[h]
theorem run_index_ints {P:Program} (t e:TypeId) (len:Nat) (k':IntKind) (Z:Array Value) (k:Nat) (v:Value) (ht:P.underlying t=some (.array len e)) (he:P.underlying e=some (.int k')) (hz:(P.info? e).map (·.size)=some 1)
  (hk:k<len) (hv:Z[k]? =some v) (w:World):(Instr.index t (.agg Z) (.int .i64 (k:Int))).run P w= .ok v w:=by
 have hsz:∀wx:World,(sizeOf e).run P wx= .ok 1 wx:=by
  intro wx
  cases hq:P.info? e with
  |none=>simp[hq] at hz
  |some i=>simp[sizeOf,typeInfo,hq] at hz ⊢;exact hz
 have hagg:(isAgg e).run P w= .ok false w:=by
  unfold isAgg
  rw[Sem.run_bind,run_underlying he w]
  rfl
 have hi:(0:Int)≤(k:Int)∧(k:Int)<(len:Int):=by omega
 unfold Instr.index
 simp[run_underlying ht,hi,hsz,part,hagg,hv,asIntOf]
 intro h
 omega
theorem size_n13:(Tryz.prog.info? 34).map (·.size)=some 13:=by kernel_rfl
theorem size_n8:(Tryz.prog.info? 138).map (·.size)=some 8:=by kernel_rfl
theorem size_r8:(Tryz.prog.info? 74).map (·.size)=some 8:=by kernel_rfl
theorem size_r13:(Tryz.prog.info? 137).map (·.size)=some 13:=by kernel_rfl
theorem size_ino:(Tryz.prog.info? 37).map (·.size)=some 18:=by kernel_rfl
theorem size_int1:(Tryz.prog.info? 3).map (·.size)=some 1:=by kernel_rfl
theorem zero_n13 (w:World):(zeroValue 34).run Tryz.prog w= .ok (.agg (zs (List.replicate 13 0)).toArray) w:=by kernel_rfl
theorem zero_n8 (w:World):(zeroValue 138).run Tryz.prog w= .ok (.agg (zs (List.replicate 8 0)).toArray) w:=by kernel_rfl
theorem zero_r8 (w:World):(zeroValue 74).run Tryz.prog w= .ok (.agg (u64s (List.replicate 8 0)).toArray) w:=by kernel_rfl
theorem zero_r13 (w:World):(zeroValue 137).run Tryz.prog w= .ok (.agg (u64s (List.replicate 13 0)).toArray) w:=by kernel_rfl
def inoZ:Ino:=⟨0,0,0,0,List.replicate 13 0,[]⟩
theorem zero_ino (w:World):(zeroValue 37).run Tryz.prog w= .ok (.agg (inoC inoZ (.slice none 0 0))) w:=by kernel_rfl
theorem eq_n13 {a b:List Int} (ha:a.length=13) (hb:b.length=13) (w:World):(Op.equalIn 10000 34 (.agg (zs a).toArray) (.agg (zs b).toArray)).run Tryz.prog w= .ok (decide (a=b)) w:=
 run_equalIn_ints w 9998 34 3 13 .i64 .i64 a b Tryz.underlying34 Tryz.underlying3 size_int1 ha hb
theorem eq_n8 {a b:List Int} (ha:a.length=8) (hb:b.length=8) (w:World):(Op.equalIn 10000 138 (.agg (zs a).toArray) (.agg (zs b).toArray)).run Tryz.prog w= .ok (decide (a=b)) w:=
 run_equalIn_ints w 9998 138 3 8 .i64 .i64 a b Tryz.underlying138 Tryz.underlying3 size_int1 ha hb
theorem eq_r8 {a b:List Int} (ha:a.length=8) (hb:b.length=8) (w:World):(Op.equalIn 10000 74 (.agg (u64s a).toArray) (.agg (u64s b).toArray)).run Tryz.prog w= .ok (decide (a=b)) w:=
 run_equalIn_ints w 9998 74 29 8 .u64 .u64 a b Tryz.underlying74 Tryz.underlying29 size_u64 ha hb
theorem guard_n13: Tryz.prog.eqGuardType Tryz.prog.depth 34 =false:=by kernel_rfl
theorem guard_n8: Tryz.prog.eqGuardType Tryz.prog.depth 138 =false:=by kernel_rfl
theorem guard_r8: Tryz.prog.eqGuardType Tryz.prog.depth 74 =false:=by kernel_rfl
theorem index_n13 {Z:Array Value} {k:Nat} {v:Value} (hk:k<13) (hv:Z[k]? =some v) (w:World):(Instr.index 34 (.agg Z) (.int .i64 (k:Int))).run Tryz.prog w= .ok v w:=
 run_index_ints 34 3 13 .i64 Z k v Tryz.underlying34 Tryz.underlying3 size_int1 hk hv w
theorem index_n8 {Z:Array Value} {k:Nat} {v:Value} (hk:k<8) (hv:Z[k]? =some v) (w:World):(Instr.index 138 (.agg Z) (.int .i64 (k:Int))).run Tryz.prog w= .ok v w:=
 run_index_ints 138 3 8 .i64 Z k v Tryz.underlying138 Tryz.underlying3 size_int1 hk hv w
theorem index_r8 {Z:Array Value} {k:Nat} {v:Value} (hk:k<8) (hv:Z[k]? =some v) (w:World):(Instr.index 74 (.agg Z) (.int .i64 (k:Int))).run Tryz.prog w= .ok v w:=
 run_index_ints 74 29 8 .u64 Z k v Tryz.underlying74 Tryz.underlying29 size_u64 hk hv w
theorem index_r13 {Z:Array Value} {k:Nat} {v:Value} (hk:k<13) (hv:Z[k]? =some v) (w:World):(Instr.index 137 (.agg Z) (.int .i64 (k:Int))).run Tryz.prog w= .ok v w:=
 run_index_ints 137 29 13 .u64 Z k v Tryz.underlying137 Tryz.underlying29 size_u64 hk hv w
theorem load_n13 {w:World} {g off T:Nat} {Z:Array Value} {l:List Int} (hb:Blk w g Z T) (hl:l.length=13) (hz:∀k,k<13→Z[off+k]? =some (.int .i64 (l.getD k 0))):
  (loadVar 34 ⟨g,off,none⟩).run Tryz.prog w= .ok (.agg (zs l).toArray) w:=
 run_loadVar_cells g off (zs l) Tryz.underlying34 rfl (by rw[zs_len,hl];exact size_n13) λj hj=>by
  rw[zs_len,hl] at hj
  rw[hb.cell,hz j hj,zs_get (by omega)]
theorem load_r8 {w:World} {g T:Nat} {l:List Int} (hb:Blk w g (u64s l).toArray T) (hl:l.length=8):
  (loadVar 74 ⟨g,0,none⟩).run Tryz.prog w= .ok (.agg (u64s l).toArray) w:=
 run_loadVar_cells g 0 (u64s l) Tryz.underlying74 rfl (by rw[u64s_len,hl];exact size_r8) λj _=>by
  rw[hb.cell,Nat.zero_add,List.getElem?_toArray]
theorem load_r13 {w:World} {g T:Nat} {l:List Int} (hb:Blk w g (u64s l).toArray T) (hl:l.length=13):
  (loadVar 137 ⟨g,0,none⟩).run Tryz.prog w= .ok (.agg (u64s l).toArray) w:=
 run_loadVar_cells g 0 (u64s l) Tryz.underlying137 rfl (by rw[u64s_len,hl];exact size_r13) λj _=>by
  rw[hb.cell,Nat.zero_add,List.getElem?_toArray]
theorem load_n8 {w:World} {g off T:Nat} {Z:Array Value} {l:List Int} (hb:Blk w g Z T) (hl:l.length=8) (hz:∀k,k<8→Z[off+k]? =some (.int .i64 (l.getD k 0))):
  (loadVar 138 ⟨g,off,none⟩).run Tryz.prog w= .ok (.agg (zs l).toArray) w:=
 run_loadVar_cells g off (zs l) Tryz.underlying138 rfl (by rw[zs_len,hl];exact size_n8) λj hj=>by
  rw[zs_len,hl] at hj
  rw[hb.cell,hz j hj,zs_get (by omega)]
theorem load_ino {w:World} {g T:Nat} {n:Ino} {v:Value} (hb:Blk w g (inoC n v) T) (hl:n.B.length=13):
  (loadVar 37 ⟨g,0,none⟩).run Tryz.prog w= .ok (.agg (inoC n v)) w:=
 run_loadVar_cells g 0 (inoL n v) Tryz.underlying37 rfl (by rw[inoL_len,hl];exact size_ino) λj _=>by
  rw[hb.cell,Nat.zero_add,inoC,List.getElem?_toArray]
theorem store_whole {P:Program} {w:World} {ty T g:Nat} {cs:List Value} {cur:Array Value} (hi:(P.info? ty).map (·.size)=some cs.length) (hg:Blk w g cur T) (hl:cur.size=cs.length) (h1:∀v∈cs,v.oneCell'=true):
  ∃w',(storeVar ty ⟨g,0,none⟩ (.agg cs.toArray)).run P w= .ok () w'∧Blk w' g cs.toArray T∧Keeps [g] w w':=by
 refine⟨_,run_storeVar_cells g 0 cs cur hi hg (by omega) h1,?_,(Keeps.refl _ _).setRow (by simp) _⟩
 have e:(cur.toList.take 0++cs++cur.toList.drop (0+cs.length)).toArray=cs.toArray:=by
  rw[List.drop_of_length_le (by simp;omega)]
  simp
 rw[e]
 exact setRow_blk hg
theorem inoL_one {n:Ino} {v:Value} (hv:v.oneCell'=true):∀u∈inoL n v,u.oneCell'=true:=by
 intro u hu
 simp only[inoL,List.mem_cons,List.mem_append,List.not_mem_nil,or_false] at hu
 rcases hu with rfl|rfl|rfl|rfl|hu|rfl
 all_goals first|rfl|exact hv|exact zs_one _ u hu
def u8s (l:List Nat):List Value:=l.map λc:Nat=>Value.int .u8 (c:Int)
theorem u8s_len (l:List Nat):(u8s l).length=l.length:=by simp[u8s]
theorem u8s_get {l:List Nat} {j:Nat} (h:j<l.length):(u8s l)[j]? =some (.int .u8 (l.getD j 0:Nat)):=by simp[u8s,h]
theorem u8s_one (l:List Nat):∀u∈u8s l,u.oneCell'=true:=by
 intro u hu
 simp only[u8s,List.mem_map] at hu
 obtain⟨x,-,rfl⟩:=hu
 rfl
theorem eightN {α:Type} {l:List α} (h:l.length=8):∃x0 x1 x2 x3 x4 x5 x6 x7,l=[x0,x1,x2,x3,x4,x5,x6,x7]:=by
 match l,h with
 | [x0,x1,x2,x3,x4,x5,x6,x7],_=>exact⟨x0,x1,x2,x3,x4,x5,x6,x7,rfl⟩
theorem index_bytes (l:List Nat) (h:l.length=8) (k:Nat) (hk:k<8) (w:World):(Instr.index 133 (.agg (u8s l).toArray) (.int .i64 (k:Int))).run Tryz.prog w= .ok (.int .u8 (l.getD k 0:Nat)) w:=by
 obtain⟨x0,x1,x2,x3,x4,x5,x6,x7,rfl⟩:=eightN h
 have hc:k=0∨k=1∨k=2∨k=3∨k=4∨k=5∨k=6∨k=7:=by omega
 rcases hc with rfl|rfl|rfl|rfl|rfl|rfl|rfl|rfl<;>(show Sem.run _ _ _=_;kernel_rfl)
theorem wrap64_nat (n:Nat) (h:n<18446744073709551616):IntKind.u64.wrap (n:Int)=(n:Int):=by rw[IntKind.wrap_u64];omega
theorem pow8 (k:Nat):2^(8*k)=256^k:=by rw[Nat.pow_mul]
theorem mul_pow_lt {c k:Nat} (hc:c<256) (hk:k<8):c*256^k<18446744073709551616:=by
 have h1:256^k≤256^7:=Nat.pow_le_pow_right (by decide) (by omega)
 have h2:(256:Nat)^7=72057594037927936:=rfl
 rw[h2] at h1
 have :=Nat.mul_le_mul (show c≤255 by omega) h1
 omega
theorem shl_nat {c k:Nat} (hc:c<256) (hk:k<8):IntKind.u64.wrap (IntKind.u64.wrap (c:Int)*2^(8*k))=((c*256^k:Nat):Int):=by
 rw[wrap64_nat c (by omega),show(2:Int)^(8*k)=((256^k:Nat):Int) by rw[←pow8];simp,←Int.natCast_mul,wrap64_nat _ (mul_pow_lt hc hk)]
theorem or_step {l:List Nat} (hl:l.length=8) (hb:∀c∈l,c<256) {k:Nat} (hk:k<8):
  bits .or .u64 ((joinN (l.take k):Nat):Int) (IntKind.u64.wrap (IntKind.u64.wrap ((l.getD k 0:Nat):Int)*2^(8*k)))=((joinN (l.take (k+1)):Nat):Int):=by
 have hc:l.getD k 0<256:=by
  rw[List.getD_eq_getElem?_getD,List.getElem?_eq_getElem (by omega)]
  exact hb _ (List.getElem_mem _)
 have hj:=joinN_lt (take_lt hb k)
 rw[List.length_take,Nat.min_eq_left (by omega)] at hj
 have hp:256^k≤256^7:=Nat.pow_le_pow_right (by decide) (by omega)
 rw[show(256:Nat)^7=72057594037927936 from rfl] at hp
 rw[shl_nat hc hk,u64_or_nat _ _ (by omega) (mul_pow_lt hc hk),joinN_take_succ l k (by omega),Nat.or_comm,nat_join (8*k) _ _ (by rw[pow8];exact Nat.mul_mod_left _ _) (by rw[pow8];exact hj),Nat.add_comm]
set_option maxHeartbeats 1000000 in
theorem join_at (l:List Nat) (hl:l.length=8) (hb:∀c∈l,c<256) (w:World):
  Calls Tryz.prog 120 #[.agg (u8s l).toArray] w λe w'=>e= .returned (.int .u64 (joinN l:Nat))∧Keeps [] w w':=by
 have hix:=λk hk=>index_bytes l hl k hk
 have hld:∀wz:World,(∀j,j<8→wz.cell? ⟨w.heap.size,j,none⟩=(u8s l)[j]?)→(loadVar 133 ⟨w.heap.size,0,none⟩).run Tryz.prog wz= .ok (.agg (u8s l).toArray) wz:=λwz hc=>
  run_loadVar_cells w.heap.size 0 (u8s l) Tryz.underlying133 rfl (by rw[u8s_len,hl];kernel_rfl) λj hj=>by
   rw[u8s_len,hl] at hj
   rw[Nat.zero_add]
   exact hc j hj
 have HLD:=Lib.hid (hld (w.alloc (.cells (u8s l).toArray 133)) λj hj=>by rw[(Blk.new w (u8s l).toArray 133).cell];simp)
 have HIX:=Lib.hid hix
 clear hld hix
 go_enter Tryz.func120,Tryz.ntmps120
 go_wp2_with((with_reducible show wpList _ _ _ (⟨_,.load 133 (.tmp 1),_,_,_,_⟩::_) _ _);refine wpList_load_any rfl 133 (.tmp 1) rfl _ rfl _ HLD.out ?_)
 clear HLD
 go_loop [3,7] (λs3 s7=>∃k:Nat,k≤8∧s7= .int .i64 (k:Int)∧s3= .int .u64 (joinN (l.take k):Nat)) (λ_ i=>8-(intOf i).toNat)
 case atStart=>exact⟨0,by omega,rfl,rfl⟩
 case round=>
  obtain⟨k,hk,rfl,rfl⟩:=hrel
  by_cases hlt:k<8
  ·have hx:=HIX.out k hlt
   have hlt':(k:Int)<8:=by omega
   have HO:=Lib.hid (or_step hl hb hlt)
   generalize l.getD k 0=c at *
   go_wp2_with fail
   go_round
   case rel=>
    refine⟨k+1,by omega,by go_num,?_⟩
    rw[←HO.out]
   case measure=>simp[intOf];omega
  ·have hlt':¬(k:Int)<8:=by omega
   obtain rfl:k=8:=by omega
   rw[List.take_of_length_le (by omega)]
   go_wp2_with fail
   go_ret
   exact⟨rfl,(Keeps.refl _ _).alloc _⟩
theorem Tryz.info_bytes:(Tryz.prog.info? 133).map (·.size)=some 8:=by kernel_rfl
def bytTo (W k:Nat):List Nat:=(List.range 8).map λj=>if j<k then byt W j else 0
theorem bytTo_all (W:Nat):bytTo W 8=byts W:=by
 unfold bytTo byts
 apply List.map_congr_left
 intro j hj
 rw[if_pos (by simpa using hj)]
theorem bytTo_set (W k:Nat) (hk:k<8):(u8s (bytTo W k)).set k (.int .u8 (byt W k:Nat))=u8s (bytTo W (k+1)):=by
 apply List.ext_getElem?
 intro j
 rw[List.getElem?_set]
 simp only[u8s,bytTo,List.getElem?_map,List.length_map,List.length_range]
 by_cases h:k=j
 ·subst h
  simp[hk]
 ·rw[if_neg h]
  by_cases hj:j<8
  ·simp only[hj,List.getElem?_range,Option.map_some]
   simp only[show j<k+1↔j<k by omega]
  ·simp[hj]
theorem bytTo_len (W k:Nat):(bytTo W k).length=8:=by simp[bytTo]
theorem shr_nat (W k:Nat):(W:Int)/2^(8*k)%256=((byt W k:Nat):Int):=by
 rw[show(2:Int)^(8*k)=((256^k:Nat):Int) by rw[←pow8];simp]
 rfl
theorem load_bytes {w:World} {b:Nat} {l:List Nat} (hl:l.length=8) (h:Blk w b (u8s l).toArray 133):(loadVar 133 ⟨b,0,none⟩).run Tryz.prog w= .ok (.agg (u8s l).toArray) w:=
 run_loadVar_cells b 0 (u8s l) Tryz.underlying133 rfl (by rw[u8s_len,hl];exact Tryz.info_bytes) λj _=>by rw[h.cell];simp
theorem store_bytes {w:World} {b:Nat} {l m:List Nat} (hl:l.length=8) (hm:m.length=8) (h:Blk w b (u8s l).toArray 133):
  ∃w',(storeVar 133 ⟨b,0,none⟩ (.agg (u8s m).toArray)).run Tryz.prog w= .ok () w'∧Blk w' b (u8s m).toArray 133∧Keeps [b] w w':=by
 have hr:=run_storeVar_cells (P:= Tryz.prog) (ty:= 133) b 0 (u8s m) _ (by rw[u8s_len,hm];exact Tryz.info_bytes) h (by simp[u8s_len,hl,hm]) (u8s_one m)
 refine⟨_,hr,?_,(Keeps.refl _ _).setRow (by simp) _⟩
 have :=setRow_heap _ b _ (List.take 0 (u8s l).toArray.toList++u8s m++List.drop (0+(u8s m).length) (u8s l).toArray.toList).toArray _ _ h
 unfold Blk
 rw[this]
 simp[List.drop_of_length_le,u8s_len,hl,hm]
theorem zero_bytes (W:Nat):(#[.int .u8 0,.int .u8 0,.int .u8 0,.int .u8 0,.int .u8 0,.int .u8 0,.int .u8 0,.int .u8 0]:Array Value)=(u8s (bytTo W 0)).toArray:=by
 simp[u8s,bytTo,List.range,List.range.loop]
set_option maxHeartbeats 1000000 in
theorem bytes_at (W:Nat) (w:World):
  Calls Tryz.prog 89 #[.int .u64 (W:Int)] w λe w'=>e= .returned (.agg (u8s (byts W)).toArray)∧Keeps [] w w':=by
 go_enter Tryz.func89,Tryz.ntmps89
 go_wp2_with fail
 go_loopg [5] 8 (λg s5 wx=>∃k:Nat,k+g=8∧s5= .int .i64 (k:Int)∧Hid (Blk wx (w.heap.size+1) (u8s (bytTo W k)).toArray 133∧Blk wx w.heap.size (u8s (bytTo W 0)).toArray 133∧Keeps [] w wx))
 case atStart=>
  refine⟨0,by omega,rfl,?_,?_,((Keeps.refl _ _).alloc _).alloc _⟩
  ·have :=Blk.new (w.alloc (.cells (u8s (bytTo W 0)).toArray 133)) (u8s (bytTo W 0)).toArray 133
   simpa[zero_bytes W] using this
  ·have :=(Blk.new w (u8s (bytTo W 0)).toArray 133).alloc (.cells (u8s (bytTo W 0)).toArray 133)
   simpa[zero_bytes W] using this
 case round=>
  obtain⟨k,hk8,rfl,HP⟩:=hrel
  cases gk with
  |zero=>
   obtain rfl:k=8:=by omega
   have HL:=Lib.hid (load_bytes (bytTo_len W 8) HP.out.1)
   obtain⟨w2,hs,hb,hk⟩:=store_bytes (bytTo_len W 0) (bytTo_len W 8) HP.out.2.1
   have HS:=Lib.hid hs
   rw[bytTo_all] at hb
   have HB:Hid (∀j,j<8→w2.cell? ⟨w.heap.size,j,none⟩=some (.int .u8 (byt W j:Nat))):=λj hj=>by
    rw[hb.cell,←byts_get W j hj]
    simpa using u8s_get (l:=byts W) (j:=j) (by rw[byts_len];omega)
   have HK:=Lib.hid (HP.out.2.2.trans hk (by simp))
   clear hs hb hk HP
   rw[bytTo_all] at HL HS
   go_wp2_with(first|((with_reducible show wpList _ _ _ (⟨_,.load 133 (.tmp 3),_,_,_,_⟩::_) _ _);refine wpList_load_any rfl 133 (.tmp 3) rfl _ rfl _ HL.out ?_)|((with_reducible show wpList _ _ _ (⟨_,.store 133 (.tmp 2) (.tmp 16),_,_,_,_⟩::_) _ _);refine wpList_store_any rfl 133 (.tmp 2) (.tmp 16) rfl _ rfl _ rfl _ HS.out ?_))
   have hb:=HB.out
   exact bodyPost_ret (v:= .agg (u8s (byts W)).toArray) (by simp[results,Tryz.results89,go_sem,hb 0,hb 1,hb 2,hb 3,hb 4,hb 5,hb 6,hb 7,u8s,byts,List.range,List.range.loop]) rfl ⟨rfl,HK.out⟩
  |succ g=>
   have hlt:(k:Int)<8:=by omega
   have hc:wr.cell? ⟨w.heap.size+1,k,none⟩=some (.int .u8 ((bytTo W k).getD k 0:Nat)):=by
    rw[HP.out.1.cell]
    simpa using u8s_get (l:=bytTo W k) (j:=k) (by rw[bytTo_len];omega)
   have hf:wr.frozen? ⟨w.heap.size+1,k,none⟩=false:=HP.out.1.frozen _
   generalize (bytTo W k).getD k 0=c at *
   go_wp2_with fail
   go_roundg g
   case measure=>omega
   case rel=>
    refine⟨k+1,by omega,by go_num,?_⟩
    rw[shr_nat]
    refine⟨?_,HP.out.2.1.other (by simp) _,HP.out.2.2.setCell (.inr (by simp)) _⟩
    have :=HP.out.1.set k (.int .u8 (byt W k:Nat))
    rw[List.setIfInBounds_toArray,bytTo_set W k (by omega)] at this
    exact this
def bl (s:ByteArray):List Nat:=s.data.toList.map UInt8.toNat
theorem bl_len (s:ByteArray):(bl s).length=s.size:=by simp[bl]
theorem bl_lt (s:ByteArray):∀c∈bl s,c<256:=by
 intro c hc
 simp only[bl,List.mem_map] at hc
 obtain⟨x,-,rfl⟩:=hc
 exact x.toNat_lt
theorem bl_get (s:ByteArray) (k:Nat) (h:k<s.size):(bl s).getD k 0=s[k].toNat:=by
 simp[bl,h]
 rfl
theorem bl_inj {s t:ByteArray} (h:bl s=bl t):s=t:=by
 apply ByteArray.ext
 apply Array.toList_inj.1
 have :=List.map_inj_right (f:=UInt8.toNat) (λa b e=>UInt8.toNat_inj.1 e) |>.1 h
 exact this
theorem goodByte_at (c:Nat) (w:World):Calls Tryz.prog 90 #[.int .u8 (c:Int)] w λe w'=>e= .returned (.bool (okByte c))∧w=w':=by
 by_cases h1:33≤c
 ·by_cases h2:c≤126
  ·by_cases h3:c=47
   ·subst h3
    go_enter Tryz.func90,Tryz.ntmps90
    go_wp2
    go_ret
    exact⟨rfl,rfl⟩
   ·have e:okByte c=true:=by simp[okByte,h1,h2,h3]
    have h4:((c:Int) != 47)=true:=by simp;omega
    rw[e]
    clear e h3
    go_enter Tryz.func90,Tryz.ntmps90
    go_wp2
    go_ret
    exact⟨rfl,rfl⟩
  ·have e:okByte c=false:=by simp[okByte,h2]
   rw[e]
   go_enter Tryz.func90,Tryz.ntmps90
   go_wp2
   go_ret
   exact⟨rfl,rfl⟩
 ·have e:okByte c=false:=by simp[okByte,h1]
  rw[e]
  go_enter Tryz.func90,Tryz.ntmps90
  go_wp2
  go_ret
  exact⟨rfl,rfl⟩
theorem all_take_succ (l:List Nat) (k:Nat) (h:k<l.length):(l.take (k+1)).all okByte=((l.take k).all okByte&&okByte (l.getD k 0)):=by
 rw[List.take_succ_eq_append_getElem h,List.all_append]
 simp[List.getD_eq_getElem?_getD,h]
theorem all_false {l:List Nat} {k:Nat} (h:k<l.length) (hb:okByte (l.getD k 0)=false):l.all okByte=false:=by
 rw[List.all_eq_false]
 refine⟨l.getD k 0,?_,by rw[hb];simp⟩
 rw[List.getD_eq_getElem?_getD,List.getElem?_eq_getElem h]
 exact List.getElem_mem _
theorem good_mid {s:ByteArray} (d1:s≠⟨#[46]⟩) (d2:s≠⟨#[46,46]⟩) (h1:1≤s.size) (h2:s.size≤7):goodN (bl s)=(bl s).all okByte:=by
 have e1:(bl s != [46])=true:=by
  simp only[bne_iff_ne,ne_eq]
  intro e
  exact d1 (bl_inj (t:=⟨#[46]⟩) e)
 have e2:(bl s != [46,46])=true:=by
  simp only[bne_iff_ne,ne_eq]
  intro e
  exact d2 (bl_inj (t:=⟨#[46,46]⟩) e)
 simp[goodN,bl_len,h1,h2,e1,e2]
theorem str_ne {s:ByteArray} {l:List UInt8} (h:s≠⟨l.toArray⟩):(s.toList==l)=false:=by
 rw[ByteArray.toList_eq]
 simp only[beq_eq_false_iff_ne,ne_eq]
 intro e
 apply h
 apply ByteArray.ext
 apply Array.toList_inj.1
 rw[e]
set_option maxHeartbeats 1000000 in
theorem good_at (s:ByteArray) (hs:s.size≤9223372036854775807) (w:World):Calls Tryz.prog 72 #[.string s] w λe w'=>e= .returned (.bool (goodN (bl s)))∧w=w':=by
 by_cases d1:s=⟨#[46]⟩
 ·subst d1
  go_enter Tryz.func72,Tryz.ntmps72
  go_wp2
  go_ret
  exact⟨rfl,rfl⟩
 by_cases d2:s=⟨#[46,46]⟩
 ·subst d2
  go_enter Tryz.func72,Tryz.ntmps72
  go_wp2
  go_ret
  exact⟨rfl,rfl⟩
 by_cases h1:1≤s.size
 ·by_cases h2:s.size≤7
  ·rw[good_mid d1 d2 h1 h2]
   have q1:(s.toList == [46])=false:=str_ne (l:=[46]) d1
   have q2:(s.toList == [46,46])=false:=str_ne (l:=[46,46]) d2
   have q3:decide ((s.size:Int)<1)=false:=by simp;omega
   have q4:decide (7<(s.size:Int))=false:=by simp;omega
   clear d1 d2
   go_enter Tryz.func72,Tryz.ntmps72
   go_wp2
   go_loop [22] (λi=>∃k:Nat,k≤s.size∧i= .int .i64 (k:Int)∧Hid (((bl s).take k).all okByte=true)) (λi=>s.size-(intOf i).toNat)
   case atStart=>exact⟨0,Nat.zero_le _,rfl,rfl⟩
   case round=>
    obtain⟨k,hk,rfl,HA⟩:=hrel
    by_cases hlt:k<s.size
    ·have hlt':(k:Int)<(s.size:Int):=by omega
     have HG:=Lib.hid (goodByte_at (s[k].toNat) w)
     have HB:=Lib.hid (bl_get s k hlt)
     have HT:=Lib.hid (all_take_succ (bl s) k (by rw[bl_len];exact hlt))
     cases hb:okByte s[k].toNat
     ·have HN:=Lib.hid (all_false (l:=bl s) (k:=k) (by rw[bl_len];exact hlt) (by rw[HB.out];exact hb))
      rw[hb] at HG
      clear hb
      go_wp2_with(go_at_call 90;refine HG.out.mono ?_;rintro e w' ⟨rfl,rfl⟩)
      go_ret
      exact⟨by rw[HN.out];rfl,rfl⟩
     ·rw[hb] at HG
      have HN:=Lib.hid hb
      clear hb
      go_wp2_with(go_at_call 90;refine HG.out.mono ?_;rintro e w' ⟨rfl,rfl⟩)
      go_round
      case rel=>exact⟨k+1,by omega,by go_num,by rw[HT.out,HB.out,HN.out,HA.out];rfl⟩
      case measure=>simp[intOf];omega
    ·obtain rfl:k=s.size:=by omega
     have hlt':¬(s.size:Int)<(s.size:Int):=by omega
     rw[List.take_of_length_le (by rw[bl_len];exact Nat.le_refl _)] at HA
     go_wp2_with fail
     go_ret
     exact⟨by rw[HA.out];rfl,rfl⟩
  ·have e:goodN (bl s)=false:=by simp[goodN,bl_len,h2]
   rw[e]
   clear e d1 d2
   go_enter Tryz.func72,Tryz.ntmps72
   go_wp2
   go_ret
   exact⟨rfl,rfl⟩
 ·have e:goodN (bl s)=false:=by simp[goodN,bl_len,h1]
  rw[e]
  clear e d1 d2
  go_enter Tryz.func72,Tryz.ntmps72
  go_wp2
  go_ret
  exact⟨rfl,rfl⟩
theorem okByte_false {c:Nat} (h:okByte c=false):c≤32∨127≤c∨c=47:=by
 simp[okByte] at h;omega
theorem okByte_true {c:Nat} (h:okByte c=true):33≤c∧c≤126∧c≠47:=by
 simpa[okByte] using h
theorem goodN_not_all {l:List Nat} (h:l.all okByte=false):goodN l=false:=by simp[goodN,h]
set_option maxHeartbeats 1000000 in
theorem refGood_at (s:ByteArray) (hs:s.size≤9223372036854775807) (w:World):Calls Tryz.prog 35 #[.string s] w λe w'=>e= .returned (.bool (goodN (bl s)))∧w=w':=by
 go_enter Tryz.func35,Tryz.ntmps35
 go_wp2
 go_loop [3] (λi=>∃k:Nat,k≤s.size∧i= .int .i64 (k:Int)∧Hid (((bl s).take k).all okByte=true)) (λi=>s.size-(intOf i).toNat)
 case atStart=>exact⟨0,Nat.zero_le _,rfl,rfl⟩
 case round=>
  obtain⟨k,hk,rfl,HA⟩:=hrel
  by_cases hlt:k<s.size
  ·have hlt':(k:Int)<(s.size:Int):=by omega
   have HB:=Lib.hid (bl_get s k hlt)
   have HT:=Lib.hid (all_take_succ (bl s) k (by rw[bl_len];exact hlt))
   cases hb:okByte s[k].toNat
   ·have HN:=Lib.hid (goodN_not_all (all_false (l:=bl s) (k:=k) (by rw[bl_len];exact hlt) (by rw[HB.out];exact hb)))
    have hc:=okByte_false hb
    clear hb
    rcases hc with hc|hc|hc
    ·have e1:decide ((s[k].toNat:Int)≤32)=true:=by simp;omega
     clear hc
     go_wp2_with fail
     go_ret
     exact⟨by rw[HN.out];rfl,rfl⟩
    ·have e1:decide ((s[k].toNat:Int)≤32)=false:=by simp;omega
     have e2:decide (127≤(s[k].toNat:Int))=true:=by simp;omega
     clear hc
     go_wp2_with fail
     go_ret
     exact⟨by rw[HN.out];rfl,rfl⟩
    ·have e1:decide ((s[k].toNat:Int)≤32)=false:=by simp;omega
     have e2:decide (127≤(s[k].toNat:Int))=false:=by simp;omega
     have e3:((s[k].toNat:Int)==47)=true:=by simp;omega
     clear hc
     go_wp2_with fail
     go_ret
     exact⟨by rw[HN.out];rfl,rfl⟩
   ·have HN:=Lib.hid hb
    obtain⟨c1,c2,c3⟩:=okByte_true hb
    have e1:decide ((s[k].toNat:Int)≤32)=false:=by simp;omega
    have e2:decide (127≤(s[k].toNat:Int))=false:=by simp;omega
    have e3:((s[k].toNat:Int)==47)=false:=by simp;omega
    clear hb c1 c2 c3
    go_wp2_with fail
    go_round
    case rel=>exact⟨k+1,by omega,by go_num,by rw[HT.out,HB.out,HN.out,HA.out];rfl⟩
    case measure=>simp[intOf];omega
  ·obtain rfl:k=s.size:=by omega
   have hlt':¬(s.size:Int)<(s.size:Int):=by omega
   rw[List.take_of_length_le (by rw[bl_len];exact Nat.le_refl _)] at HA
   by_cases d1:s=⟨#[46]⟩
   ·have HN:Hid (goodN (bl s)=false):=by rw[d1];rfl
    have q1:(s.toList == [46])=true:=by rw[d1,ByteArray.toList_eq];rfl
    have q3:decide (0<s.size)=true:=by rw[d1];rfl
    have q4:decide ((s.size:Int)<8)=true:=by rw[d1];rfl
    clear d1 HA
    go_wp2_with fail
    go_ret
    exact⟨by rw[HN.out];rfl,rfl⟩
   by_cases d2:s=⟨#[46,46]⟩
   ·have HN:Hid (goodN (bl s)=false):=by rw[d2];rfl
    have q1:(s.toList == [46])=false:=by rw[d2,ByteArray.toList_eq];rfl
    have q2:(s.toList == [46,46])=true:=by rw[d2,ByteArray.toList_eq];rfl
    have q3:decide (0<s.size)=true:=by rw[d2];rfl
    have q4:decide ((s.size:Int)<8)=true:=by rw[d2];rfl
    clear d1 d2 HA
    go_wp2_with fail
    go_ret
    exact⟨by rw[HN.out];rfl,rfl⟩
   by_cases h1:1≤s.size
   ·by_cases h2:s.size≤7
    ·have HN:Hid (goodN (bl s)=true):=by rw[good_mid d1 d2 h1 h2];exact HA.out
     have q1:(s.toList == [46])=false:=str_ne (l:=[46]) d1
     have q2:(s.toList == [46,46])=false:=str_ne (l:=[46,46]) d2
     have q3:decide (0<s.size)=true:=by simp;omega
     have q4:decide ((s.size:Int)<8)=true:=by simp;omega
     clear d1 d2 h1 h2 HA
     go_wp2_with fail
     go_ret
     exact⟨by rw[HN.out];rfl,rfl⟩
    ·have HN:=Lib.hid (show goodN (bl s)=false by simp[goodN,bl_len,h2])
     have q3:decide (0<s.size)=true:=by simp;omega
     have q4:decide ((s.size:Int)<8)=false:=by simp;omega
     clear d1 d2 h1 h2 HA
     go_wp2_with fail
     go_ret
     exact⟨by rw[HN.out];rfl,rfl⟩
   ·have HN:=Lib.hid (show goodN (bl s)=false by simp[goodN,bl_len,h1])
    have q3:decide (0<s.size)=false:=decide_eq_false (by omega)
    clear d1 d2 h1 HA
    go_wp2_with fail
    go_ret
    exact⟨by rw[HN.out];rfl,rfl⟩
def strN (l:List Nat):ByteArray:=⟨(l.map UInt8.ofNat).toArray⟩
theorem bl_strN {l:List Nat} (h:∀c∈l,c<256):bl (strN l)=l:=by
 simp only[bl,strN,List.map_map]
 conv=>rhs;rw[←List.map_id l]
 apply List.map_congr_left
 intro c hc
 simp[Nat.mod_eq_of_lt (h c hc)]
theorem strN_bl (s:ByteArray):strN (bl s)=s:=bl_inj (bl_strN (bl_lt s))
theorem strN_size (l:List Nat):(strN l).size=l.length:=by simp[strN,ByteArray.size]
theorem Tryz.info_byte:(Tryz.prog.info? 5).map (·.size)=some 1:=by kernel_rfl
def wordV (l:List Nat):Nat:=if goodN l=true then wordN l else 0
theorem pad_set {l:List Nat} (h:l.length≤7):(u8s (l++List.replicate (8-l.length) 0)).set 7 (.int .u8 (l.length:Int))=u8s (padN l):=by
 have e:List.replicate (8-l.length) 0=List.replicate (7-l.length) 0++[0]:=by rw[show 8-l.length=7-l.length+1 by omega,List.replicate_succ']
 rw[e,←List.append_assoc,padN]
 generalize hA:l++List.replicate (7-l.length) 0=A
 have hl:A.length=7:=by rw[←hA];simp;omega
 simp only[u8s,List.map_append,List.map_cons,List.map_nil]
 rw[List.set_append_right _ _ (by simp[hl])]
 simp[hl]
theorem copied {w:World} {b:Nat} {s:ByteArray} (h:s.size≤7) (hb:Blk w b (u8s (List.replicate 8 0)).toArray 133):∃w',
  (Builtin.copy_ #[172,9] 3 #[.slice (some ⟨b,0,none⟩) 8 8,.string s]).run Tryz.prog w= .ok (goInt s.size) w'∧Blk w' b (u8s (bl s++List.replicate (8-s.size) 0)).toArray 133∧Keeps [b] w w':=by
 have hr:=Lib.run_copy_row_string (P:= Tryz.prog) w 172 9 3 5 b 0 8 8 s _ _ Tryz.underlying172 Tryz.info_byte hb (by omega) (by simp[u8s];omega)
 refine⟨_,hr,?_,(Keeps.refl _ _).setRow (by simp) _⟩
 unfold Blk
 rw[setRow_heap _ b _ _ _ _ hb]
 have e1:List.take 0 (u8s (List.replicate 8 0)).toArray.toList++Lib.byteCells s.data.toList++List.drop (0+s.size) (u8s (List.replicate 8 0)).toArray.toList=u8s (bl s++List.replicate (8-s.size) 0):=by
  have e2:u8s (List.replicate 8 0)=List.replicate 8 (Value.int .u8 0):=by simp only[u8s,List.map_replicate];rfl
  rw[e2,Nat.zero_add,List.take_zero,List.nil_append,List.drop_replicate]
  simp only[u8s,bl,Lib.byteCells,List.map_append,List.map_map,List.map_replicate]
  rfl
 rw[e1]
set_option maxHeartbeats 1000000 in
theorem word_at (s:ByteArray) (hs:s.size≤9223372036854775807) (w:World):Calls Tryz.prog 109 #[.string s] w λe w'=>e= .returned (.tuple #[.int .u64 (wordV (bl s):Nat),.bool (goodN (bl s))])∧Keeps [] w w':=by
 have HG:=Lib.hid (good_at s hs w)
 unfold wordV
 cases hg:goodN (bl s)
 ·rw[hg] at HG
  clear hg
  go_enter Tryz.func109,Tryz.ntmps109
  go_wp2_with(go_at_call 72;refine HG.out.mono ?_;rintro e w' ⟨rfl,rfl⟩)
  go_ret2
  exact⟨rfl,Keeps.refl _ _⟩
 ·rw[hg] at HG
  rw[if_pos rfl]
  obtain⟨l1,l2⟩:=goodN_len hg
  rw[bl_len] at l1 l2
  clear hg
  obtain⟨w2,hc,hb,hk⟩:=copied l2 (Blk.new w (u8s (List.replicate 8 0)).toArray 133)
  have hc7:w2.cell? ⟨w.heap.size,7,none⟩=some (.int .u8 ((bl s++List.replicate (8-s.size) 0).getD 7 0:Nat)):=by
   rw[hb.cell]
   simpa using u8s_get (l:=bl s++List.replicate (8-s.size) 0) (j:=7) (by simp[bl_len];omega)
  have hf7:w2.frozen? ⟨w.heap.size,7,none⟩=false:=hb.frozen 7
  have hb3:=hb.set 7 (.int .u8 (s.size:Int))
  rw[List.setIfInBounds_toArray,←bl_len,pad_set (by rw[bl_len];exact l2),bl_len] at hb3
  have HL:=Lib.hid (load_bytes (padN_len (by rw[bl_len];exact l2)) hb3)
  have HC:=Lib.hid hc
  have HK:=Lib.hid ((((Keeps.refl [] w).alloc (.cells (u8s (List.replicate 8 0)).toArray 133)).trans hk (by simp)).setCell (p:=⟨w.heap.size,7,none⟩) (.inr (Nat.le_refl _)) (.int .u8 (s.size:Int)))
  have HJ:=λwz=>join_at (padN (bl s)) (padN_len (by rw[bl_len];exact l2)) (padN_lt (by rw[bl_len];exact l2) (bl_lt s)) wz
  rw[joinN_padN (by rw[bl_len];exact l2)] at HJ
  have HJ:=Lib.hid HJ
  generalize (bl s++List.replicate (8-s.size) 0).getD 7 0=c at *
  clear hc hb hb3 hk
  go_enter Tryz.func109,Tryz.ntmps109
  go_wp2_with(first|(go_at_call 72;refine HG.out.mono ?_;rintro e w' ⟨rfl,rfl⟩)|((with_reducible show wpList _ _ _ (⟨some 10,_,_,_,_,_⟩::_) _ _);refine wpList_copy_any rfl (.tmp 8) (.tmp 9) 172 9 rfl _ _ rfl rfl HC.out ?_)|((with_reducible show wpList _ _ _ (⟨_,.load 133 (.tmp 4),_,_,_,_⟩::_) _ _);refine wpList_load_any rfl 133 (.tmp 4) rfl _ rfl _ HL.out ?_)|(go_at_call 120;refine(HJ.out _).mono ?_;rintro e w' ⟨rfl,hk4⟩;have HK4:=Lib.hid hk4;clear hk4))
  go_ret2
  exact⟨rfl,HK.out.trans HK4.out (by simp)⟩
def NumsP (l:List Int):Prop:=∀k,k<13→(0≤l.getD k 0∧l.getD k 0<256)∧(l.getD k 0≠0→∀j,j<k→l.getD j 0≠l.getD k 0)
instance (l:List Int):Decidable (NumsP l):=by unfold NumsP;infer_instance
def uptoL (l:List Int) (c:Nat):List Int:=l.take c++List.replicate (13-c) 0
theorem uptoL_len {l:List Int} (hl:l.length=13) {c:Nat} (hc:c≤13):(uptoL l c).length=13:=by simp[uptoL,hl];omega
theorem uptoL_get {l:List Int} (hl:l.length=13) {c:Nat} (hc:c≤13) (k:Nat):(uptoL l c).getD k 0=if k<c then l.getD k 0 else 0:=by
 simp only[uptoL,List.getD_eq_getElem?_getD,List.getElem?_append,List.length_take,List.getElem?_take,List.getElem?_replicate]
 by_cases h:k<c
 ·rw[if_pos (by omega),if_pos h,if_pos h]
 ·rw[if_neg (by omega),if_neg h]
  split<;>rfl
def blocksN (n:Nat):Nat:=(n+3)/4
def partsN (n:Nat):Nat:=(n+63)/64
def leB (a b:ByteArray):Bool:=Op.bytesLess a.toList b.toList||(a.toList==b.toList)
def FileP (n:Ino):Prop:=(0≤n.S∧n.S≤832)∧n.E.length=0∧n.B=uptoL n.B (partsN n.S.toNat)∧NumsP n.B
def EntP (E:List (ByteArray×Int)) (k:Nat):Prop:=goodN (bl (enm E k))=true∧(0≤eno E k∧eno E k≤31)∧(0<k→leB (enm E k) (enm E (k-1))=false)
def DirP (n:Ino):Prop:=n.E.length≤24∧n.S=n.E.length∧n.B=List.replicate 13 0∧∀k,k<n.E.length→EntP n.E k
def RightP (n:Ino):Prop:=(n.F=1∨n.F=2)∧(0≤n.L∧n.L≤65535)∧(n.K=1∧FileP n∨n.K=2∧DirP n)
instance (n:Ino):Decidable (FileP n):=by unfold FileP;infer_instance
instance (E:List (ByteArray×Int)) (k:Nat):Decidable (EntP E k):=by unfold EntP;infer_instance
instance (n:Ino):Decidable (DirP n):=by unfold DirP;infer_instance
instance (n:Ino):Decidable (RightP n):=by unfold RightP;infer_instance
def seenL (l:List Int) (k:Nat):List Bool:=(List.range 256).map λc=>decide (∃j,j<k∧l.getD j 0=((c:Nat):Int))
theorem seenL_len (l:List Int) (k:Nat):(seenL l k).length=256:=by rw[seenL,List.length_map,List.length_range]
theorem seenL_get (l:List Int) (k c:Nat) (hc:c<256):(seenL l k).getD c false=decide (∃j,j<k∧l.getD j 0=((c:Nat):Int)):=by
 rw[seenL,List.getD_eq_getElem?_getD,List.getElem?_map,List.getElem?_range hc]
 rfl
theorem seenL_zero (l:List Int):List.replicate 256 false=seenL l 0:=by
 apply List.ext_getElem (by rw[List.length_replicate,seenL_len])
 intro j h1 h2
 rw[List.getElem_replicate]
 simp only[seenL,List.getElem_map,List.getElem_range]
 exact(decide_eq_false λ⟨i,hi,_⟩=>by omega).symm
theorem seenL_succ (l:List Int) (k c:Nat) (h:l.getD k 0=((c:Nat):Int)):(seenL l k).set c true=seenL l (k+1):=by
 apply List.ext_getElem (by rw[List.length_set,seenL_len,seenL_len])
 intro j h1 h2
 rw[List.getElem_set]
 simp only[seenL,List.getElem_map,List.getElem_range]
 by_cases e:c=j
 ·subst e
  rw[if_pos rfl]
  exact(decide_eq_true ⟨k,by omega,h⟩).symm
 ·rw[if_neg e]
  refine decide_eq_decide.2 ⟨λ⟨i,hi,hx⟩=>⟨i,by omega,hx⟩,λ⟨i,hi,hx⟩=> ?_⟩
  by_cases hik:i=k
  ·subst hik
   rw[h] at hx
   exact absurd (Int.ofNat_inj.1 hx) e
  ·exact⟨i,by omega,hx⟩
theorem wpList_load_want {P:Program} {ops:Array Oper} {rest:List Oper} {o:Oper} {a:Act} {w:World} {Q:Exit→Act→World→Prop} (hw:Region.wanted o (yielded ops a.tmps)=true) (ty:TypeId) (x:Operand) (ho:o.op= .load ty x) (ad:Addr)
  (hx:a.eval x= .pointer (some ad)) (v:Value) (hr:(loadVar ty ad).run P w= .ok v w) (h:wpList P ops Q rest (a.put o.dst v) w):wpList P ops Q (o::rest) a w:=
 wpList_step λ_ hK=>by
  rw[if_pos hw]
  unfold Oper.wp execOp
  simp only[ho,hx,Instr.loadAt,Instr.sureAddr,Sem.run_bind,Sem.run_pure,Result.andThen_ok,hr]
  exact hK _ _ h
theorem step_load_any {P:Program} {ops:Array Oper} {o:Oper} {a:Act} {w:World} {K:Act→World→Prop} {Q:Exit→Act→World→Prop} {E:Prop} (hgd:o.guard=none) (ty:TypeId) (x:Operand) (ho:o.op= .load ty x) (ad:Addr)
  (hx:a.eval x= .pointer (some ad)) (v:Value) (hr:(loadVar ty ad).run P w= .ok v w) (h:K (a.put o.dst v) w):if Region.wanted o (yielded ops a.tmps)=true then Oper.wp P o a w K Q else E:=by
 have hw:Region.wanted o (yielded ops a.tmps)=true:=by simp[Region.wanted,hgd]
 rw[if_pos hw]
 unfold Oper.wp execOp
 simp only[ho,hx,Instr.loadAt,Instr.sureAddr,Sem.run_bind,Sem.run_pure,Result.andThen_ok,hr]
 exact h
theorem load_one {P:Program} {w:World} {ty:TypeId} {k:IntKind} {g off T:Nat} {Z:Array Value} {v:Value} (hu:P.underlying ty=some (.int k)) (hb:Blk w g Z T) (hz:Z[off]? =some v):(loadVar ty ⟨g,off,none⟩).run P w= .ok v w:=by
 have hagg:(isAgg ty).run P w= .ok false w:=by
  unfold isAgg
  rw[Sem.run_bind,run_underlying hu w]
  rfl
 have hc:w.cell? ⟨g,off,none⟩=some v:=by rw[hb.cell,hz]
 simp[loadVar,Sem.run_bind,hagg,hc]
theorem asAddr_ptr {P:Program} (ad:Addr) (w:World):(asAddr (.pointer (some ad))).run P w= .ok ad w:=rfl
theorem results_cell {P:Program} {fn:Func} {tmps:Array Value} {a t:Nat} {ad:Addr} {v:Value} {w:World} (hfn:fn.results= #[.cell a t]) (ha:tmps.getD a undef= .pointer (some ad)) (hl:(loadVar t ad).run P w= .ok v w):
  (results fn tmps).run P w= .ok v w:=by
 rw[Array.getD_eq_getD_getElem?] at ha
 unfold results
 rw[hfn]
 simp[Sem.run_bind,ha,asAddr_ptr,hl]
theorem results_cell3 {P:Program} {fn:Func} {tmps:Array Value} {a t b c:Nat} {ad:Addr} {v x y:Value} {w:World} (hfn:fn.results= #[.cell a t,.tmp b,.tmp c]) (ha:tmps.getD a undef= .pointer (some ad)) (hl:(loadVar t ad).run P w= .ok v w)
  (hb:tmps.getD b undef=x) (hc:tmps.getD c undef=y):(results fn tmps).run P w= .ok (.tuple #[v,x,y]) w:=by
 rw[Array.getD_eq_getD_getElem?] at ha hb hc
 unfold results
 rw[hfn]
 simp[Sem.run_bind,ha,asAddr_ptr,hl,hb,hc]
theorem slice_from_lt (b c:Nat) (hc:c<13) (w:World):(Instr.sliceAt 34 (.pointer (some ⟨b,0,none⟩)) (some (.int .i64 (c:Int))) none none).run Tryz.prog w= .ok (.slice (some ⟨b,c,none⟩) (13-c) (13-c)) w:=by
 have h:c=0∨c=1∨c=2∨c=3∨c=4∨c=5∨c=6∨c=7∨c=8∨c=9∨c=10∨c=11∨c=12:=by omega
 rcases h with rfl|rfl|rfl|rfl|rfl|rfl|rfl|rfl|rfl|rfl|rfl|rfl|rfl
 all_goals (show Sem.run _ _ _=_;kernel_rfl)
theorem slice_from_end (b:Nat) (w:World):∃off cap,(Instr.sliceAt 34 (.pointer (some ⟨b,0,none⟩)) (some (.int .i64 (13:Nat))) none none).run Tryz.prog w= .ok (.slice (some ⟨b,off,none⟩) 0 cap) w:=
 ⟨0,0,by show Sem.run _ _ _=_;kernel_rfl⟩
theorem slice_from (b c:Nat) (hc:c≤13) (w:World):∃off cap,(Instr.sliceAt 34 (.pointer (some ⟨b,0,none⟩)) (some (.int .i64 (c:Int))) none none).run Tryz.prog w= .ok (.slice (some ⟨b,off,none⟩) (13-c) cap) w∧(c<13→off=c):=by
 by_cases h:c<13
 ·exact⟨c,13-c,slice_from_lt b c h w,λ_=>rfl⟩
 ·obtain rfl:c=13:=by omega
  obtain⟨off,cap,h1⟩:=slice_from_end b w
  exact⟨off,cap,h1,λh2=>absurd h2 h⟩
theorem slice_to (b c:Nat) (hc:c≤13) (w:World):(Instr.sliceAt 34 (.pointer (some ⟨b,0,none⟩)) none (some (.int .i64 (c:Int))) none).run Tryz.prog w= .ok (.slice (some ⟨b,0,none⟩) c 13) w:=by
 have h:c=0∨c=1∨c=2∨c=3∨c=4∨c=5∨c=6∨c=7∨c=8∨c=9∨c=10∨c=11∨c=12∨c=13:=by omega
 rcases h with rfl|rfl|rfl|rfl|rfl|rfl|rfl|rfl|rfl|rfl|rfl|rfl|rfl|rfl
 all_goals (show Sem.run _ _ _=_;kernel_rfl)
theorem set_tail (l:List Int) (c:Nat) (hl:l.length=13) (hc:c≤13):((zs l).take c++zs (List.replicate (13-c) 0)++(zs l).drop (c+(zs (List.replicate (13-c) 0)).length)).toArray=(zs (uptoL l c)).toArray:=by
 rw[List.drop_of_length_le (by rw[zs_len,zs_len,List.length_replicate,hl];omega),List.append_nil]
 unfold uptoL
 rw[zs_append]
 simp[zs,List.map_take]
theorem zeroCells_int (n:Nat):(Builtin.zeroCells (Value.int .i64 0).cells n).toList=zs (List.replicate n 0):=by
 have e:(Value.int IntKind.i64 0).cells= #[Value.int .i64 0]:=rfl
 rw[e]
 apply List.ext_getElem
 ·simp[Builtin.zeroCells,zs]
 ·intro j h1 h2
  simp[Builtin.zeroCells,zs,Nat.mod_one]
theorem clear_tail {w:World} {b c T off cap:Nat} {l:List Int} (hb:Blk w b (zs l).toArray T) (hl:l.length=13) (hc:c≤13) (ho:c<13→off=c):∃w',(∀ty,(Builtin.clear_ #[40] ty #[.slice (some ⟨b,off,none⟩) (13-c) cap]).run Tryz.prog w= .ok (.tuple #[]) w')∧Blk w' b (zs (uptoL l c)).toArray T∧Keeps [b] w w':=by
 by_cases h:c<13
 ·obtain rfl:=ho h
  have hr:=run_storeCells_at Tryz.prog b off T (zs (List.replicate (13-off) 0)) 0 (zs l).toArray w hb (by simp[zs_len,hl];omega) (zs_one _)
  refine⟨_,λty=> ?_,?_,(Keeps.refl _ _).setRow (g:=b) (by simp) ((zs l).take off++zs (List.replicate (13-off) 0)++(zs l).drop (off+(zs (List.replicate (13-off) 0)).length)).toArray⟩
  ·have hz:(Builtin.zeroCells (Value.int .i64 0).cells (13-off)).toList=zs (List.replicate (13-off) 0):=zeroCells_int _
   have hzv:(zeroValue 3).run Tryz.prog w= .ok (.int .i64 0) w:=by kernel_rfl
   obtain⟨m,hm⟩:∃m,13-off=m+1:=⟨12-off,by omega⟩
   unfold Builtin.clear_
   rw[hm] at hz hr ⊢
   simp only[Sem.run_bind,run_underlying Tryz.underlying40,Result.andThen_ok,List.getElem?_toArray,List.getElem?_cons_zero,hzv,hz]
   simp only[Nat.add_zero] at hr
   rw[hr]
   simp
  ·rw[set_tail l off hl hc]
   exact setRow_blk hb
 ·obtain rfl:c=13:=by omega
  refine⟨w,λty=> ?_,?_,Keeps.refl _ _⟩
  ·unfold Builtin.clear_
   simp[run_underlying Tryz.underlying40]
  ·rw[show uptoL l 13=l by unfold uptoL;rw[List.take_of_length_le (by omega)];simp]
   exact hb
end Go.Proofs.YtphojondgfjmgaaGreatDoor
namespace Go.Proofs.YtphojondgfjmgaaGreatDoor
open Go.RowKit Go.Shelf
attribute [local go_sem] Oper.semAt_some
set_option maxRecDepth 100000 in
theorem chunk_at (a:Option Addr) (len cap:Nat) (w:World):Calls Tryz.prog 119 #[.slice a len cap,.int .i64 3] w λe w'=>
  e= .returned (.func (.func 126) #[] #[.pointer (some ⟨w.heap.size,0,none⟩),.pointer (some ⟨w.heap.size+1,0,none⟩)])∧
   w'=(w.alloc (.cells #[.slice a len cap] 35)).alloc (.cells #[.int .i64 3] 3):=by
 have h1:=Blk.new (w.alloc (.cells #[.slice a len cap] 35)) #[.int .i64 3] 3
 have hs:(w.alloc (.cells #[.slice a len cap] 35)).heap.size=w.heap.size+1:=by simp
 rw[hs] at h1
 have c1:((w.alloc (.cells #[.slice a len cap] 35)).alloc (.cells #[.int .i64 3] 3)).cell? ⟨w.heap.size+1,0,none⟩=some (.int .i64 3):=by rw[h1.cell];rfl
 clear h1
 go_enter Tryz.func119,Tryz.ntmps119
 go_wp2_with fail
 go_ret
 exact⟨rfl,rfl⟩
def chV (a:Option Addr) (len x:Nat):Value:=
 match a with
 |some ⟨g,off,_⟩=> .slice (some ⟨g,off+x*3*2,none⟩) (min 3 (len-3*x)) (min 3 (len-3*x))
 |none=> .slice none 0 0
def KpC (bs bn:Nat) (W W':World):Prop:=W'.heap[bs]? =W.heap[bs]? ∧W'.heap[bn]? =W.heap[bn]?
set_option maxRecDepth 100000 in
set_option maxHeartbeats 2000000 in
theorem chunk1_in (n l bs bn g off len cap:Nat) (hn:1≤n) (hlen:len≤10000) (hcap:len≤cap) (J Jx:List Nat→World→Prop) (B:Nat) (hJ:AbidesFrom B J)
  (hY:∀pre x W,J pre W→pre.length<(len+2)/3→YieldAt Fence.wide (n-1) Tryz.prog l #[chV (some ⟨g,off,none⟩) len x] W λe W'=>
   (e= .returned (.bool true)∧J (pre++[x]) W'∧KpC bs bn W W')∨(e= .returned (.bool false)∧Jx (pre++[x]) W'))
  (W:World) (hbs:Blk W bs #[.slice (some ⟨g,off,none⟩) len cap] 35) (hbn:Blk W bn #[.int .i64 3] 3) (h0:J [] W):
  CallsIn Fence.wide n Tryz.prog 126 #[.func (.yield l) #[] #[],.pointer (some ⟨bs,0,none⟩),.pointer (some ⟨bn,0,none⟩)] W λe W'=>(∃v,e= .returned v)∧
   ((∃ys,ys=List.range ((len+2)/3)∧J ys W')∨(∃pre,True∧Jx pre W')):=by
 refine callsIn_of_wp Tryz.func126 rfl trivial ?_ rfl
 simp only[Tryz.ntmps126,List.size_toArray,List.length_cons,List.length_nil,Nat.reduceAdd,Nat.reduceSub,Array.replicate_succ,Array.replicate_zero,List.push_toArray,List.append_toArray,List.nil_append,List.cons_append]
 gi_wp2
 gi_loopw [4] (λi wr=>∃k:Nat,k≤(len+2)/3∧i= .int .i64 ((k*3:Nat):Int)∧J (List.range k) wr∧KpC bs bn W wr)
  (λi _=>len+3-(intOf i).toNat)
 case atStart=>exact⟨0,Nat.zero_le _,rfl,h0,rfl,rfl⟩
 case round=>
  obtain⟨k,hk,rfl,hJs,hk1,hk2⟩:=hrel
  have cs:wr.cell? ⟨bs,0,none⟩=some (.slice (some ⟨g,off,none⟩) len cap):=(World.cell?_of_block (a:=⟨bs,0,none⟩) hk1).trans (by rw[hbs.cell];rfl)
  have cn:wr.cell? ⟨bn,0,none⟩=some (.int .i64 3):=(World.cell?_of_block (a:=⟨bn,0,none⟩) hk2).trans (by rw[hbn.cell];rfl)
  obtain⟨i,hi⟩:∃i:Nat,i=k*3:=⟨_,rfl⟩
  rw[←hi]
  by_cases hlt:i<len
  ·have hJd:J (List.range k) wr.drew:=hJ _ _ _ none hJs ⟨rfl,rfl,rfl,Nat.le_refl _,λ_ _ _=>rfl⟩ (λr e=>by cases e)
   obtain⟨fn,tmps,assign,body,hy,hR⟩:=hY _ k wr.drew hJd (by rw[List.length_range];omega)
   obtain⟨m,hm⟩:∃m:Nat,m=min 3 (len-i):=⟨_,rfl⟩
   have hv:chV (some ⟨g,off,none⟩) len k= .slice (some ⟨g,off+i*2,none⟩) m m:=by
    show Value.slice (some ⟨g,off+k*3*2,none⟩) (min 3 (len-3*k)) (min 3 (len-3*k))=_
    rw[hm,hi,Nat.mul_comm 3 k]
   rw[hv] at hy
   clear hv hY hbs hbn
   have hlt':(i:Int)<(len:Int):=by omega
   have hi0:(0:Int)≤(i:Int):=by omega
   have hil:(i:Int)≤(len:Int):=by omega
   have hci:cap≠i:=by omega
   have hiq:(i:Int)≤((i+m:Nat):Int):=by omega
   have hqc:((i+m:Nat):Int)≤(cap:Int):=by omega
   have hqi:i+m≠i:=by omega
   have hqm:i+m-i=m:=by omega
   have hw2:wrap64 ((i:Int)+3)=(i:Int)+3:=by unfold wrap64;omega
   have HI:=Lib.hid hi
   have HJS:=Lib.hid hJs
   have HFIN:Hid (len+3-(i+3)<len+3-i∧k+1≤(len+2)/3):=by show _∧_;omega
   clear hk hJ hJs hi
   obtain⟨y,hy3,hyw,hyq,hyc,hyr⟩:∃y:Int,(i:Int)+(m:Int)=y∧wrap64 y=y∧(i:Int)≤y∧y≤(cap:Int)∧y.toNat=i+m:=⟨_,rfl,by unfold wrap64;omega,by omega,by omega,by omega⟩
   obtain⟨r,hr⟩:∃r:Nat,r=len-i:=⟨_,rfl⟩
   rw[←hr] at hm
   have hsub:(len:Int)-(i:Int)=(r:Int):=by omega
   have hr3:((3:Int)≤(r:Int)∧m=3)∨(¬(3:Int)≤(r:Int)∧m=r):=by omega
   have hrl:=hr.symm
   clear hr hm
   rcases hr3 with ⟨hr3,rfl⟩|⟨hr3,rfl⟩
   all_goals
    gi_wp2
    gi_region
    all_goals try clear hrl
    gi_wp2
    refine hR.mono ?_
    rintro e W3 (⟨rfl,hJ3,hk3⟩|⟨rfl,hJx3⟩)
    ·have cn3:W3.cell? ⟨bn,0,none⟩=some (.int .i64 3):=(World.cell?_of_block (w:=wr.drew) (a:=⟨bn,0,none⟩) hk3.2).trans cn
     gi_wp2
     go_roundw
     case rel=>exact⟨k+1,HFIN.out.2,by rw[HI.out];simp;omega,by rw[List.range_succ];exact hJ3,hk3.1.trans hk1,hk3.2.trans hk2⟩
     case measure=>have :=HFIN.out.1;simp[intOf];omega
    ·gi_wp2
     refine bodyPost_ret (results_none rfl _ _ _) rfl ?_
     exact⟨⟨_,rfl⟩,.inr ⟨_,trivial,hJx3⟩⟩
  ·have hlt':¬(i:Int)<(len:Int):=by omega
   obtain rfl:k=(len+2)/3:=by omega
   have HJS:=Lib.hid hJs
   clear hY hbs hbn hi hk hJs hJ
   gi_wp2
   go_end0
   exact⟨⟨_,rfl⟩,.inl HJS.out⟩
set_option maxRecDepth 100000 in
set_option maxHeartbeats 2000000 in
theorem chunk0_in (n l bs bn:Nat) (a:Option Addr) (cap:Nat) (J Jx:List Nat→World→Prop) (W:World) (hbs:Blk W bs #[.slice a 0 cap] 35) (h0:J [] W):
  CallsIn Fence.wide n Tryz.prog 126 #[.func (.yield l) #[] #[],.pointer (some ⟨bs,0,none⟩),.pointer (some ⟨bn,0,none⟩)] W λe W'=>(∃v,e= .returned v)∧
   ((∃ys,ys=List.range 0∧J ys W')∨(∃pre,True∧Jx pre W')):=by
 have cs:W.cell? ⟨bs,0,none⟩=some (.slice a 0 cap):=by rw[hbs.cell];rfl
 refine callsIn_of_wp Tryz.func126 rfl trivial ?_ rfl
 simp only[Tryz.ntmps126,List.size_toArray,List.length_cons,List.length_nil,Nat.reduceAdd,Nat.reduceSub,Array.replicate_succ,Array.replicate_zero,List.push_toArray,List.append_toArray,List.nil_append,List.cons_append]
 gi_wp2
 gi_loopw [4] (λi wr=>i= .int .i64 0∧wr=W) (λ_ _=>0)
 case atStart=>exact⟨rfl,rfl⟩
 case round=>
  obtain⟨rfl,rfl⟩:=hrel
  gi_wp2
  go_end0
  exact⟨⟨_,rfl⟩,.inl ⟨_,rfl,h0⟩⟩
theorem chunk_stops (n:Nat) (hn:1≤n) (a:Option Addr) (len cap:Nat) (hlen:len≤10000) (hcap:len≤cap) (ha:len≠0→∃g off,a=some ⟨g,off,none⟩) (bs bn:Nat) (w:World)
  (hbs:Blk w bs #[.slice a len cap] 35) (hbn:Blk w bn #[.int .i64 3] 3):
  SeqStopsK Fence.wide n Tryz.prog 126 #[.pointer (some ⟨bs,0,none⟩),.pointer (some ⟨bn,0,none⟩)] (λx=> #[chV a len x]) (KpC bs bn) (λys=>ys=List.range ((len+2)/3)) (λ_=>True) ((len+2)/3) w:=by
 intro l J Jx W hW hJ hJx hY hj
 have hbs':Blk W bs #[.slice a len cap] 35 :=(hW.block bs hbs.lt).trans hbs
 have hbn':Blk W bn #[.int .i64 3] 3 :=(hW.block bn hbn.lt).trans hbn
 by_cases h:len=0
 ·subst h
  exact chunk0_in n l bs bn a cap J Jx W hbs' hj
 ·obtain⟨g,off,rfl⟩:=ha h
  exact chunk1_in n l bs bn g off len cap hn hlen hcap J Jx _ hJ hY W hbs' hbn' hj
end Go.Proofs.YtphojondgfjmgaaGreatDoor
namespace Go.Proofs.YtphojondgfjmgaaGreatDoor
open Go.RowKit
def isB (x:Int):Prop:=0<x∧x<256
instance (x:Int):Decidable (isB x):=by unfold isB;infer_instance
def contP (l:List Int) (j:Nat):Prop:=0<j∧j<13∧isB (l.getD j 0)∧isB (l.getD (j-1) 0)∧l.getD j 0=l.getD (j-1) 0+1
instance (l:List Int) (j:Nat):Decidable (contP l j):=by unfold contP;infer_instance
def endAt (l:List Int):Nat→Nat→Nat
 |0,e=>e
 |f+1,e=>if contP l e then endAt l f (e+1) else e
theorem endAt_is (l:List Int) (j:Nat) (hj:¬contP l j):∀(f e:Nat),e≤j→j-e≤f→(∀i,e≤i→i<j→contP l i)→endAt l f e=j
 |0,e,h1,h2,_=>by unfold endAt;omega
 |f+1,e,h1,h2,h3=>by
  unfold endAt
  by_cases h:e=j
  ·subst h;rw[if_neg hj]
  ·rw[if_pos (h3 e (Nat.le_refl _) (by omega))]
   exact endAt_is l j hj f (e+1) (by omega) (by omega) λi hi hi2=>h3 i (by omega) hi2
def startP (l:List Int) (k:Nat):Prop:=isB (l.getD k 0)∧¬contP l k
instance (l:List Int) (k:Nat):Decidable (startP l k):=by unfold startP;infer_instance
def lenAt (l:List Int) (k:Nat):Nat:=endAt l 13 (k+1)-k
def runW (k:Nat) (b:Int) (n:Nat):Int:=(k:Int)*4294967296+b*256+(n:Int)
def runsTo (l:List Int):Nat→List Int
 |0=>[]
 |k+1=>if startP l k then runsTo l k++[runW k (l.getD k 0) (lenAt l k)] else runsTo l k
def runsL (l:List Int):List Int:=runsTo l 13
theorem runsTo_len (l:List Int):∀k,(runsTo l k).length≤k
 |0=>by simp[runsTo]
 |k+1=>by
  unfold runsTo
  have :=runsTo_len l k
  split
  ·rw[List.length_append,List.length_singleton];omega
  ·omega
theorem runsTo_cont (l:List Int) (f:Nat):∀j,f≤j→(∀i,f≤i→i<j→contP l i)→runsTo l j=runsTo l f
 |0,h,_=>by have :f=0:=by omega
            subst this;rfl
 |j+1,h,hc=>by
  by_cases e:f=j+1
  ·subst e;rfl
  ·rw[runsTo,if_neg (λhs=>hs.2 (hc j (by omega) (by omega)))]
   exact runsTo_cont l f j (by omega) λi h1 h2=>hc i h1 (by omega)
theorem runsTo_run {l:List Int} {f j:Nat} (hs:startP l f) (hfj:f<j) (hj:j≤13) (hc:∀i,f<i→i<j→contP l i) (hn:¬contP l j):runsTo l j=runsTo l f++[runW f (l.getD f 0) (j-f)]:=by
 rw[runsTo_cont l (f+1) j (by omega) (λi h1 h2=>hc i (by omega) h2),runsTo,if_pos hs,lenAt,endAt_is l j hn 13 (f+1) (by omega) (by omega) λi h1 h2=>hc i (by omega) h2]
theorem runsTo_none {l:List Int} {f:Nat} (h:¬isB (l.getD f 0)):runsTo l (f+1)=runsTo l f:=by
 rw[runsTo,if_neg (λhs=>h hs.1)]
theorem run_num {l:List Int} {f j:Nat} (hc:∀i,f<i→i<j→contP l i):∀i,f≤i→i<j→l.getD i 0=l.getD f 0+((i-f:Nat):Int):=by
 intro i
 induction i with
 |zero=>intro h _;have :f=0:=by omega
        subst this;simp
 |succ i ih=>
  intro h1 h2
  by_cases e:f=i+1
  ·subst e;simp
  ·have h:=(hc (i+1) (by omega) h2).2.2.2.2
   rw[Nat.add_sub_cancel] at h
   rw[h,ih (by omega) (by omega)]
   omega
theorem run_isB {l:List Int} {f j:Nat} (hs:isB (l.getD f 0)) (hc:∀i,f<i→i<j→contP l i) (i:Nat) (h1:f≤i) (h2:i<j):isB (l.getD i 0):=by
 by_cases e:f=i
 ·subst e;exact hs
 ·exact(hc i (by omega) h2).2.2.1
theorem cont_iff {l:List Int} {f j:Nat} (hs:isB (l.getD f 0)) (hfj:f<j) (hc:∀i,f<i→i<j→contP l i):contP l j↔j<13∧isB (l.getD j 0)∧l.getD j 0=l.getD (j-1) 0+1:=by
 unfold contP
 exact⟨λh=>⟨h.2.1,h.2.2.1,h.2.2.2.2⟩,λh=>⟨by omega,h.1,h.2.1,run_isB hs hc _ (by omega) (by omega),h.2.2⟩⟩
end Go.Proofs.YtphojondgfjmgaaGreatDoor
