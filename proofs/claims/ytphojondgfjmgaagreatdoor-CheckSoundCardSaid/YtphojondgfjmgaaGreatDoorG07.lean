/-
  A region that draws its order, with one operation F that may come up when what it waits for has, and what is free of it in whatever order; then last operations, one behind the other. Nothing of the program is named here. A region that draws its order, whose loads and moves may all be taken first (what they read is kept by all), then its last operations one behind the other. In a round of a range over a function too. Nothing of the program is named here. Layer 7 (fmt2): laidDir: a directory's words, by a range over slices.Chunk. Layer 6 (fmt1): tagged, inodeRow, listRow. Layer 6 (fmt1): an inode's variable, its numbers or its entries stored. Layer 5 (palloc): Take. Layer 4 (tx): Inode. Layer 6 (fmt1): what Lay puts, plain; copying numbers.
-/
import Derived.Test.YtphojondgfjmgaaGreatDoorG03
import Derived.Test.YtphojondgfjmgaaGreatDoorG02
import Derived.OrdersHeld
import Derived.Test.YtphojondgfjmgaaGreatDoorG06
import Derived.Test.YtphojondgfjmgaaGreatDoorG05
import Derived.Test.YtphojondgfjmgaaGreatDoorG04
import Derived.Deep.RegionHeld3
import Derived.Test.YtphojondgfjmgaaGreatDoorG01
import Derived.Test.YtphojondgfjmgaaGreatDoorG00
import Derived.Laws.IdiomCopy
namespace Go.Proofs.YtphojondgfjmgaaGreatDoor
section
variable {P:Program} {ops:Array Oper} {Q:Exit→Act→World→Prop} {md:Region.Mode}
def listedOf (listed:Array Bool):List Nat→Array Bool
 | []=>listed
 |i::is=>listedOf (listed.setIfInBounds i true) is
theorem Each2.call {S S':World→Prop} {o:Oper} {v:Value} {a:Act} (hw:Region.wanted o (yielded ops a.tmps)=true) (f:Nat) (args:Array Value) (he:∀w,(execOp a.eval o).run P w= .ok (.enter f args) w) (h:∀w,S w→Calls P f args w λe w'=>e= .returned v∧S' w'):Each2 P ops S S' o v a:=
 ⟨hw,λw hS=>by rw[he w];exact h w hS⟩
end
end Go.Proofs.YtphojondgfjmgaaGreatDoor
namespace Go.Proofs.YtphojondgfjmgaaGreatDoor
open Go.RowKit
section
variable {P:Program} {ops:Array Oper} {Q:Exit→Act→World→Prop} {md:Region.Mode} {S:World→Prop}
def andS (S:World→Prop) (K:Act→World→Prop) (Q:Exit→Act→World→Prop):Exit→Act→World→Prop
 | .normal,a,w=>S w∧K a w
 |e,a,w=>Q e a w
def tailS (P:Program) (ops:Array Oper) (Q:Exit→Act→World→Prop) (S:World→Prop):List Oper→Act→World→Prop
 | [],a,w=>Q .normal a w
 |o::rest,a,w=>wpList P ops (andS S (tailS P ops Q S rest) Q) [o] a w
def YieldList (P:Program) (ops:Array Oper) (S:World→Prop) (E:Act→Prop):List Oper→Act→Prop
 | [],a=>E a
 |o::rest,a=>∃v,YieldsIf P ops S o v a∧YieldList P ops S E rest (a.put o.dst v)
theorem wpOp_of_list {i:Nat} {o:Oper} {K:Act→World→Prop} {a:Act} {w:World} (ho:ops[i]? =some o) (h:wpList P ops (andS S K Q) [o] a w):wpOp P ops Q i (λa w=>S w∧K a w) a w:=by
 unfold Go.wpOp
 simp only[ho]
 unfold wpList at h
 split
 ·rename_i hw
  rw[if_pos hw] at h
  rcases h with h|⟨h1,h2⟩
  ·refine .inl ?_
   unfold Oper.wp at *
   generalize (execOp a.eval o).run P w=r at *
   cases r with
   |ok n w'=>
    cases n<;>simp only[Oper.upon] at h ⊢
    case value u=>exact h
    case skip=>exact h
    case defer d=>exact h
    case enter f args=>
     refine Calls.mono h λe w'' he=> ?_
     cases e with
     |returned u=>exact he
     |panicked c=>exact he
     |outgrown=>exact he
    case row row args=>exact Rows.mono h λu w'' he=>he
   |halt x w'=>
    cases x<;>simp only[Oper.upon] at h ⊢
    case panic u=>exact h
  ·exact .inr ⟨h1,h2⟩
 ·rename_i hw
  rw[if_neg hw] at h
  exact h
def takeB (md:Region.Mode) (ops:Array Oper) (listed:Array Bool):List Nat→Bool
 | []=>true
 |i::is=>Region.free md ops listed i&&(Region.ready md ops listed).contains i&&takeB md ops (listed.setIfInBounds i true) is
def lastB (md:Region.Mode) (ops:Array Oper) (listed:Array Bool):List Nat→Bool
 | []=>Region.ready md ops listed == []
 |i::is=>(Region.ready md ops listed == [i])&&lastB md ops (listed.setIfInBounds i true) is
theorem wpAnyH_last:∀(tail:List Nat) (tl:List Oper) (listed:Array Bool) (a:Act) (w:World),lastB md ops listed tail=true→tl=tail.filterMap (λi=>ops[i]?)→tl.length=tail.length→tailS P ops Q S tl a w→
  wpAnyH P md ops Q S tail.length listed a w
 | [],tl,listed,a,w,hb,hl,_,h=>by
  have :tl=[]:=by rw[hl];rfl
  subst this
  exact wpAnyH_done (by simpa[lastB] using hb) h 0
 |i::is,tl,listed,a,w,hb,hl,hlen,h=>by
  unfold lastB at hb
  simp only[Bool.and_eq_true] at hb
  have h1:Region.ready md ops listed=[i]:=by simpa using hb.1
  cases ho:ops[i]? with
  |none=>
   exfalso
   rw[hl,List.filterMap_cons,ho] at hlen
   have :=List.length_filterMap_le (λi=>ops[i]?) is
   simp only[List.length_cons] at hlen
   omega
  |some o=>
   rw[List.filterMap_cons,ho] at hl
   subst hl
   refine wpAnyH_all h1 (by simp) λj hj=> ?_
   rw[List.mem_singleton] at hj
   subst hj
   exact wpOp_mono (λa' w' h'=>⟨h'.1,wpAnyH_last is _ _ a' w' hb.2 rfl (by simpa using hlen) h'.2⟩) (wpOp_of_list ho h)
theorem wpAnyH_order (hns:Region.noSelect ops=true) (hQ:∀d v c a w,Q (.panic c) (Act.put a d v) w→Q (.panic c) a w) (tail:List Nat) (tl:List Oper) (w:World) (hS:S w) (htl:tl=tail.filterMap (λi=>ops[i]?)) (htll:tl.length=tail.length):
  ∀(path:List Nat) (l:List Oper) (listed:Array Bool) (a:Act),takeB md ops listed path=true→lastB md ops (listedOf listed path) tail=true→l=path.filterMap (λi=>ops[i]?)→l.length=path.length→
   YieldList P ops S (λa=>tailS P ops Q S tl a w) l a→wpAnyH P md ops Q S (tail.length+path.length) listed a w
 | [],l,listed,a,_,hb,hl,_,h=>by
  have :l=[]:=by rw[hl];rfl
  subst this
  exact wpAnyH_last tail tl listed a w hb htl htll h
 |i::is,l,listed,a,ht,hb,hl,hlen,h=>by
  unfold takeB at ht
  simp only[Bool.and_eq_true] at ht
  cases ho:ops[i]? with
  |none=>
   exfalso
   rw[hl,List.filterMap_cons,ho] at hlen
   have :=List.length_filterMap_le (λi=>ops[i]?) is
   simp only[List.length_cons] at hlen
   omega
  |some o=>
   rw[List.filterMap_cons,ho] at hl
   subst hl
   obtain⟨v,hv,hr⟩:=h
   rw[List.length_cons,←Nat.add_assoc]
   exact wpAnyH_take ho hns ht.1.1 ht.1.2 (hQ o.dst v) hv hS (wpAnyH_order hns hQ tail tl w hS htl htll is _ _ _ ht.2 hb rfl (by simpa using hlen) hr)
theorem wpAny_order {a:Act} {w:World} (path tail:List Nat) {l tl:List Oper} (hns:Region.noSelect ops=true) (ht:takeB .any ops (Array.replicate ops.size false) path=true) (hb:lastB .any ops (listedOf (Array.replicate ops.size false) path) tail=true)
  (hl:l=path.filterMap (λi=>ops[i]?)) (hll:l.length=path.length) (htl:tl=tail.filterMap (λi=>ops[i]?)) (htll:tl.length=tail.length) (hsz:tail.length+path.length=ops.size)
  (hQ:∀d v c a w,Q (.panic c) (Act.put a d v) w→Q (.panic c) a w) (hS:S w) (h:YieldList P ops S (λa=>tailS P ops Q S tl a w) l a):wpAny P .any ops Q ops.size (Array.replicate ops.size false) a w:=by
 rw[←hsz]
 refine wpAny_of_held _ _ _ _ (wpAnyH_order hns hQ tail tl w hS htl htll path l _ a ?_ ?_ hl hll h)
 ·rw[hsz];exact ht
 ·rw[hsz];exact hb
def noDeferB (ops:Array Oper):Bool:=ops.all λo=>match o.op with | .defer _=>false|_=>true
theorem noDefer_spec (h:noDeferB ops=true):∀(i:Nat) (o:Oper),ops[i]? =some o→∀c,o.op≠.defer c:=λi o ho c e=>by
 unfold noDeferB at h
 rw[Array.all_eq_true] at h
 obtain⟨hi,hg⟩:=Array.getElem?_eq_some_iff.1 ho
 have :=h i hi
 rw[hg] at this
 simp only[e] at this
 cases this
theorem filterMap_range:∀(l:List Oper),(List.range l.length).filterMap (λi=>l[i]?)=l
 | []=>rfl
 |o::l=>by
  rw[List.length_cons,List.range_succ_eq_map,List.filterMap_cons]
  simp only[List.getElem?_cons_zero]
  rw[List.filterMap_map]
  congr 1
  exact filterMap_range l
theorem filterMap_same {f g:Nat→Option Oper}:∀{l:List Nat},(∀i,i∈l→f i=g i)→l.filterMap f=l.filterMap g
 | [],_=>rfl
 |i::l,h=>by
  rw[List.filterMap_cons,List.filterMap_cons,h i (by simp),filterMap_same λj hj=>h j (by simp[hj])]
theorem filterMap_text {l tl:List Oper} (h:ops.toList=l++tl):l=(List.range l.length).filterMap (λi=>ops[i]?)∧tl=((List.range tl.length).map (l.length+·)).filterMap (λi=>ops[i]?):=by
 have hget:∀i,ops[i]? =(l++tl)[i]? :=λi=>by rw[←h,Array.getElem?_toList]
 constructor
 ·refine(filterMap_range l).symm.trans (filterMap_same λi hi=> ?_)
  rw[hget,List.getElem?_append_left (by simpa using hi)]
 ·rw[List.filterMap_map]
  refine(filterMap_range tl).symm.trans (filterMap_same λi hi=> ?_)
  show _=ops[l.length+i]?
  rw[hget,List.getElem?_append_right (by omega),Nat.add_sub_cancel_left]
theorem wpAny_text {a:Act} {w:World} {l tl:List Oper} (hops:ops.toList=l++tl) (hns:Region.noSelect ops=true) (ht:takeB .any ops (Array.replicate ops.size false) (List.range l.length)=true) (hb:lastB .any ops (listedOf (Array.replicate ops.size false) (List.range l.length)) ((List.range tl.length).map (l.length+·))=true)
  (hQ:∀d v c a w,Q (.panic c) (Act.put a d v) w→Q (.panic c) a w) (hS:S w) (h:YieldList P ops S (λa=>tailS P ops Q S tl a w) l a):wpAny P .any ops Q ops.size (Array.replicate ops.size false) a w:=
 wpAny_order (List.range l.length) ((List.range tl.length).map (l.length+·)) hns ht hb (filterMap_text hops).1 (by simp) (filterMap_text hops).2 (by simp) (by rw[←Array.length_toList,hops];simp;omega) hQ hS h
theorem wp_region_text {id:Nat} {a:Act} {w:World} {l tl:List Oper} (hm:P.follows .mixedOrders=true) (hops:ops.toList=l++tl) (hns:Region.noSelect ops=true) (ht:takeB .any ops (Array.replicate ops.size false) (List.range l.length)=true) (hb:lastB .any ops (listedOf (Array.replicate ops.size false) (List.range l.length)) ((List.range tl.length).map (l.length+·))=true)
  (hQ:∀d v c a w,Q (.panic c) (Act.put a d v) w→Q (.panic c) a w) (hS:S w.drew) (h:YieldList P ops S (λa=>tailS P ops Q S tl a w.drew) l a):(Code.region id ops true).wp P Q a w:=
 wp_region_any hm (wpAny_text hops hns ht hb hQ hS h)
theorem wpIn_region_text {n:Nat} {r:Option Nat} {id:Nat} {a:Act} {w:World} {l tl:List Oper} (hm:P.follows .mixedOrders=true) (hops:ops.toList=l++tl) (hns:Region.noSelect ops=true) (hq:¬LetsOut Q) (hd:noDeferB ops=true) (ht:takeB .any ops (Array.replicate ops.size false) (List.range l.length)=true) (hb:lastB .any ops (listedOf (Array.replicate ops.size false) (List.range l.length)) ((List.range tl.length).map (l.length+·))=true)
  (hQ:∀d v c a w,Q (.panic c) (Act.put a d v) w→Q (.panic c) a w) (hS:S w.drew) (h:YieldList P ops S (λa=>tailS P ops Q S tl a w.drew) l a):(Code.region id ops true).wpIn { Fence.wide with round:=r } n P Q a w:=
 wpIn_round_any hm hq (noDefer_spec hd) (wpAny_text hops hns ht hb hQ hS h)
theorem YieldList.cons {E:Act→Prop} {o:Oper} {rest:List Oper} {a:Act} (v:Value) (h:YieldsIf P ops S o v a) (hr:YieldList P ops S E rest (a.put o.dst v)):YieldList P ops S E (o::rest) a:=⟨v,h,hr⟩
theorem YieldList.done {E:Act→Prop} {a:Act} (h:E a):YieldList P ops S E [] a:=h
theorem YieldsIf.val {o:Oper} {v:Value} {a:Act} (hw:Region.wanted o (yielded ops a.tmps)=true) (h:∀w,S w→(execOp a.eval o).run P w= .ok (.value v) w):YieldsIf P ops S o v a:= .inl ⟨hw,h⟩
theorem YieldsIf.load {o:Oper} {v:Value} {a:Act} (hw:Region.wanted o (yielded ops a.tmps)=true) (ty:TypeId) (x:Operand) (ho:o.op= .load ty x) (ad:Addr) (hx:a.eval x= .pointer (some ad)) (h:∀w,S w→(loadVar ty ad).run P w= .ok v w):YieldsIf P ops S o v a:=
 YieldsIf.val hw λw hS=>by
  unfold execOp
  simp only[ho,hx,Instr.loadAt,Instr.sureAddr,Sem.run_bind,Sem.run_pure,Result.andThen_ok,h w hS]
end
end Go.Proofs.YtphojondgfjmgaaGreatDoor
namespace Go.Proofs.YtphojondgfjmgaaGreatDoor
open Go.RowKit Go.Shelf
attribute [local go_sem] Oper.semAt_some
theorem Tryz.info_r8:(Tryz.prog.info? 74).map (λi=>(i.zero,i.size,i.bytes))=some (some (.agg #[.int .u64 0,.int .u64 0,.int .u64 0,.int .u64 0,.int .u64 0,.int .u64 0,.int .u64 0,.int .u64 0]),8,64):=by kernel_rfl
theorem make_rows (n:Nat) (hn:n≤100000) (m:Int) (hm:m=(n:Int)) (w:World):(Instr.makeSlice 128 (.int .i64 m) (.int .i64 m)).run Tryz.prog w=
  .ok (.slice (some ⟨w.heap.size,0,none⟩) n n) (w.alloc (.cells (madeCells #[.int .u64 0,.int .u64 0,.int .u64 0,.int .u64 0,.int .u64 0,.int .u64 0,.int .u64 0,.int .u64 0] (n*8)) 74)):=by
 subst hm
 obtain⟨i0,hi,hz0,hz1,hz2⟩:=info_parts Tryz.info_r8
 have :=run_make (P:= Tryz.prog) w 128 74 i0 _ Tryz.underlying128 hi hz0 .i64 .i64 (n:Int) (n:Int) (by omega) (by omega) (by rw[hz2];omega) (by omega)
 rw[hz1,Int.toNat_natCast] at this
 exact this
theorem made_rows (n:Nat):madeCells #[Value.int .u64 0,.int .u64 0,.int .u64 0,.int .u64 0,.int .u64 0,.int .u64 0,.int .u64 0,.int .u64 0] (n*8)=(u64s (List.replicate (8*n) 0)).toArray:=by
 apply Array.toList_inj.1
 apply List.ext_getElem?
 intro j
 simp only[madeCells,Array.toList_map,Array.toList_range,List.getElem?_map,u64s,List.map_replicate,List.getElem?_replicate]
 by_cases hj:j<n*8
 ·rw[List.getElem?_range hj,if_pos (by omega)]
  have h8:j%8<8:=Nat.mod_lt _ (by omega)
  show some ((#[Value.int .u64 0,.int .u64 0,.int .u64 0,.int .u64 0,.int .u64 0,.int .u64 0,.int .u64 0,.int .u64 0]:Array Value)[j%8]!)=_
  generalize j%8=q at *
  rcases (show q=0∨q=1∨q=2∨q=3∨q=4∨q=5∨q=6∨q=7 by omega) with rfl|rfl|rfl|rfl|rfl|rfl|rfl|rfl<;>rfl
 ·rw[List.getElem?_eq_none (by simpa using hj),if_neg (by omega)]
  rfl
structure DirS (w5 wx:World) (n:Ino) (own:List Nat) (gB wB fB:Nat) (b:Nat) (pre:List Nat):Prop where
 keep:Keeps [gB,wB,fB] w5 wx
 rows:∃C,DirC n.E own b pre C∧Blk wx gB (u64s C).toArray 74
 row:Blk wx wB (u64s (rowD n own b pre.length)).toArray 74
 fill:Blk wx fB #[.int .i64 ((fstN n.E b+pre.length:Nat):Int)] 3
def markD (D:Nat):Deferred:={ target:= .collected D,args:= #[] }
theorem leaves_marks {P:Program} {n:Nat} {fn:Func} {tmps:Array Value} {R:Ending→World→Prop}:∀(Ds:List Nat) (W:World),Ds.Nodup→(∀D∈Ds,W.heap[D]? =some (.deferred (some [])))→
  (∀W',Keeps Ds W W'→∃v,(results fn tmps).run P W'= .ok v W'∧R (.returned v) W')→LeavesInM Fence.wide n P fn tmps R (Ds.map markD) .returning W
 | [],W,_,_,h=>h W (Keeps.refl _ _)
 |D::Ds,W,hn,hm,h=>by
  have h1:=hm D (by simp)
  have hlt:=(Array.getElem?_eq_some_iff.1 h1).1
  have hk:Keeps [D] W (W.putObj D (.deferred none)):=Keeps.of_grown (grownBy_putObj' W D _) λk hk=> .inl (by cases hk;simp)
  refine⟨by simp,.inl ⟨D,_,rfl,run_takeDeferred h1,?_⟩⟩
  rw[List.nodup_cons] at hn
  refine leaves_marks Ds _ hn.2 (λD' hD'=> ?_) λW' hk'=>h W' ?_
  ·have h2:=hm D' (by simp[hD'])
   refine(World.putObj_heap_other (λe=>hn.1 (by rw[←e];exact hD'))).trans h2
  ·exact(hk.mono (by simp)).trans' (hk'.mono λk hk _=>List.mem_cons_of_mem _ hk)
theorem DirS.turn {w5 A A':World} {n:Ino} {own:List Nat} {gB wB fB b:Nat} {pre:List Nat} (h:DirS w5 A n own gB wB fB b pre) {row:Option Nat} {B:Nat} (hg:A.grownBy A' row) (hr:∀r,row=some r→B≤r∧∃o:Obj,A.heap[r]? =some o∧o.isCells=false) (hB:w5.heap.size≤B):DirS w5 A' n own gB wB fB b pre:=by
 obtain⟨h1,⟨C,h2,h3⟩,h4,h5⟩:=h
 exact⟨h1.turn hg (λr e=>(hr r e).1) hB,⟨C,h2,h3.turn hg λr e=>(hr r e).2⟩,h4.turn hg λr e=>(hr r e).2,h5.turn hg λr e=>(hr r e).2⟩
def lnkD (E:List (ByteArray×Int)) (gB wB b p:Nat):Addr:=if p=0 then ⟨wB,2+b,none⟩ else ⟨gB,8*(fstN E b+p-1),none⟩
theorem DirS.link {w5 W:World} {n:Ino} {own:List Nat} {gB wB fB b f:Nat} {pre:List Nat} (h:DirS w5 W n own gB wB fB b pre) (hb:b<4) (hf:f=fstN n.E b+pre.length) (hfo:f<own.length) (hne:gB≠wB):
  ∃lg lo C1 old,lnkD n.E gB wB b pre.length=⟨lg,lo,none⟩∧(lg=gB∨lg=wB)∧W.cell? ⟨lg,lo,none⟩=some (.int .u64 old)∧W.frozen? ⟨lg,lo,none⟩=false∧8*f+7<C1.length∧
   (∀x,DirC n.E own b (pre++[x]) (overL C1 (8*f+1) (wordsE (chE (sprE n.E b) x))))∧
   Blk (W.drew.setCell ⟨lg,lo,none⟩ (.int .u64 ((own.getD f 0:Nat):Int))) gB (u64s C1).toArray 74∧Blk (W.drew.setCell ⟨lg,lo,none⟩ (.int .u64 ((own.getD f 0:Nat):Int))) wB (u64s (rowD n own b (pre.length+1))).toArray 74 :=by
 obtain⟨C,hC,hbC⟩:=h.rows
 by_cases hp:pre.length=0
 ·refine⟨wB,2+b,C,(rowD n own b pre.length).getD (2+b) 0,by rw[lnkD,if_pos hp],.inr rfl,by rw[h.row.cell,List.getElem?_toArray,u64s_get (by rw[rowD_len];omega)],h.row.frozen _,by rw[hC.len];omega,λx=>hC.step x f hf hfo (by rw[if_pos hp]),hbC.drew.other hne _,?_⟩
  have :=h.row.drew.set (2+b) (.int .u64 ((own.getD f 0:Nat):Int))
  rw[List.setIfInBounds_toArray,u64s_set] at this
  have e:(rowD n own b pre.length).set (2+b) ((own.getD f 0:Nat):Int)=rowD n own b (pre.length+1):=by
   rw[hp] at hf ⊢
   rw[hf]
   exact rowD_set n own b hb
  rw[e] at this
  exact this
 ·have hl:8*(fstN n.E b+pre.length-1)<C.length:=by rw[hC.len];omega
  refine⟨gB,8*(fstN n.E b+pre.length-1),C.set (8*(f-1)) ((own.getD f 0:Nat):Int),C.getD (8*(fstN n.E b+pre.length-1)) 0,by rw[lnkD,if_neg hp],.inl rfl,by rw[hbC.cell,List.getElem?_toArray,u64s_get hl],hbC.frozen _,by rw[List.length_set,hC.len];omega,λx=>hC.step x f hf hfo (by rw[if_neg hp]),?_,?_⟩
  ·have :=hbC.drew.set (8*(fstN n.E b+pre.length-1)) (.int .u64 ((own.getD f 0:Nat):Int))
   rw[List.setIfInBounds_toArray,u64s_set] at this
   rw[hf]
   rw[hf] at this
   exact this
  ·rw[←rowD_more n own b pre.length hp]
   exact h.row.drew.other (λe=>hne e.symm) _
theorem chV_reads {w:World} {a:Option Addr} {len cap g:Nat} {l:List (ByteArray×Int)} (h:EReads w (.slice a len cap) g l) (x:Nat):EReads w (chV a len x) g (chE l x):=by
 obtain⟨a',c',h1,h2,h3,h4⟩:=h
 cases h1
 by_cases h0:l.length=0
 ·have hc:(chE l x).length=0:=by rw[chE_len,h0];omega
  refine⟨?_,?_,?_,?_,?_,λh=>absurd hc h⟩
  ·exact match a with | some ⟨g,off,_⟩=>some ⟨g,off+x*3*2,none⟩|none=>none
  ·exact 0
  ·rw[hc]
   cases a with
   |none=>rfl
   |some a=>simp[chV,h0]
  ·rw[hc];exact Nat.le_refl _
  ·unfold maxLen;omega
 ·obtain⟨hg,off,rfl,hcc⟩:=h4 h0
  refine⟨some ⟨g,off+x*3*2,none⟩,min 3 (l.length-3*x),by rw[chE_len];rfl,by rw[chE_len];exact Nat.le_refl _,by unfold maxLen;omega,λ_=>⟨hg,_,rfl,λj hj=> ?_⟩⟩
  rw[chE_len] at hj
  have h5:=hcc (3*x+j) (by omega)
  have e:l[3*x+j]? =(chE l x)[j]? :=by
   unfold chE
   rw[List.getElem?_take_of_lt (by omega),List.getElem?_drop]
  have e1:enm (chE l x) j=enm l (3*x+j):=by simp only[enm,List.getD_eq_getElem?_getD];rw[e]
  have e2:eno (chE l x) j=eno l (3*x+j):=by simp only[eno,List.getD_eq_getElem?_getD];rw[e]
  rw[e1,e2,show off+x*3*2+j*2=off+(3*x+j)*2 by omega]
  exact h5
theorem chE_get (l:List (ByteArray×Int)) (x j:Nat) (hj:j<(chE l x).length):3*x+j<l.length∧enm (chE l x) j=enm l (3*x+j)∧eno (chE l x) j=eno l (3*x+j):=by
 rw[chE_len] at hj
 have e:l[3*x+j]? =(chE l x)[j]? :=by
  unfold chE
  rw[List.getElem?_take_of_lt (by omega),List.getElem?_drop]
 exact⟨by omega,by simp only[enm,List.getD_eq_getElem?_getD];rw[e],by simp only[eno,List.getD_eq_getElem?_getD];rw[e]⟩
theorem spr_mem {E:List (ByteArray×Int)} {b k:Nat} (h:k<(sprE E b).length):∃j,j<E.length∧enm (sprE E b) k=enm E j∧eno (sprE E b) k=eno E j:=by
 have hm:(enm (sprE E b) k,eno (sprE E b) k)∈E:=(List.mem_filter.1 (e_mem h)).1
 obtain⟨j,hj,e⟩:=List.getElem_of_mem hm
 have :E.getD j (ByteArray.empty,0)=E[j]:=by simp[List.getD_eq_getElem?_getD,hj]
 exact⟨j,hj,by rw[enm,enm,this,e];rfl,by rw[eno,eno,this,e];rfl⟩
theorem chE_ok {E:List (ByteArray×Int)} (h:EntOk E) (b x:Nat):EntOk (chE (sprE E b) x):=by
 refine⟨by rw[chE_len];omega,λk hk=> ?_,λk hk=> ?_⟩
 ·obtain⟨h1,h2,h3⟩:=chE_get _ _ _ hk
  obtain⟨j,hj,e1,e2⟩:=spr_mem h1
  rw[h2,e1]
  exact h.size j hj
 ·obtain⟨h1,h2,h3⟩:=chE_get _ _ _ hk
  obtain⟨j,hj,e1,e2⟩:=spr_mem h1
  rw[h3,e2]
  exact h.ino j hj
set_option maxRecDepth 100000 in
set_option maxHeartbeats 8000000 in
theorem laidDir_at {w:World} (n:Ino) (v:Value) (g:Nat) (hB:n.B.length=13) (ht:TagOk n) (hE:EReads w v g n.E) (hEo:EntOk n.E) (hlen:n.E.length≤1000) (vo:Value) (go:Nat) (own:List Nat) (hO:Reads w vo go (i64s own)) (hneed:fstN n.E 4=own.length) (h256:∀c∈own,c<256):
  Calls Tryz.prog 102 #[.agg (inoC n v),vo] w (LaidPost w (dirRow n own) (dirTo n.E own 4)):=by
 have hol:own.length≤4000:=by
  have h1:=sprE_len n.E 0
  have h2:=sprE_len n.E 1
  have h3:=sprE_len n.E 2
  have h4:=sprE_len n.E 3
  simp only[fstN,dN] at hneed
  omega
 obtain⟨ao,co,rfl,hoc,hom,HOC⟩:=ints_cellR hO
 have HH:=Lib.hid (head_at n v hB ht)
 obtain⟨W0,hW0⟩:∃W0,W0=((w.alloc (.cells (inoC n v) 37)).alloc (.cells #[.slice ao own.length co] 40)).alloc (.cells (u64s (List.replicate 8 0)).toArray 74):=⟨_,rfl⟩
 have hb0:Blk W0 w.heap.size (inoC n v) 37 :=by
  rw[hW0]
  exact((Blk.new w _ _).alloc _).alloc _
 have hb1:Blk W0 (w.heap.size+1) #[.slice ao own.length co] 40 :=by
  have :=Blk.new (w.alloc (.cells (inoC n v) 37)) #[.slice ao own.length co] 40
  have e:(w.alloc (.cells (inoC n v) 37)).heap.size=w.heap.size+1:=by simp
  rw[e] at this
  rw[hW0]
  exact this.alloc _
 have HBR:Hid (Blk W0 (w.heap.size+2) (u64s (List.replicate 8 0)).toArray 74):=by
  have :=Blk.new ((w.alloc (.cells (inoC n v) 37)).alloc (.cells #[.slice ao own.length co] 40)) (u64s (List.replicate 8 0)).toArray 74
  have e:((w.alloc (.cells (inoC n v) 37)).alloc (.cells #[.slice ao own.length co] 40)).heap.size=w.heap.size+2:=by simp
  rw[e,←hW0] at this
  exact this
 have HK0:Hid (Keeps [] w W0):=by
  rw[hW0]
  exact(((Keeps.refl [] w).alloc _).alloc _).alloc _
 have HLI:=Lib.hid (load_ino hb0 hB)
 have HC17:Hid (∀wx,Keeps [] W0 wx→wx.cell? ⟨w.heap.size,17,none⟩=some v):=λwx hk=>by rw[(hb0.keep hk (by simp)).cell];exact inoC_E _ hB
 have HC3:Hid (∀wx,Keeps [] W0 wx→wx.cell? ⟨w.heap.size+1,0,none⟩=some (.slice ao own.length co)):=λwx hk=>by rw[(hb1.keep hk (by simp)).cell];rfl
 have HSP:Hid (∀wx,Keeps [] w wx→Calls Tryz.prog 101 #[v] wx (SpreadPost wx n.E)):=λwx hk=>spread_at (hE.keep hk (by simp)) (by omega) hEo.size
 have hzv:=zero_r8
 have HW0:=Lib.hid hW0
 have HB0:=Lib.hid hb0
 have HB1:=Lib.hid hb1
 have HHL:Hid (headL n=rowD n own 0 0):=(rowD_zero n own).symm
 have hh8:=headL_len n
 generalize headL n=H at *
 generalize inoC n v=Z at *
 clear hb0 hb1 hW0 hB hE hO ht
 generalize hz8:(u64s (List.replicate 8 0)).toArray=Z8 at *
 have HZ8:=Lib.hid hz8
 clear hz8
 refine(callsIn_wide (n:=3)).1 (callsIn_of_wp_marks Tryz.func102 rfl trivial (wpIn_wide.2 ?_) rfl)
 simp only[Tryz.ntmps102,List.size_toArray,List.length_cons,List.length_nil,Nat.reduceAdd,Nat.reduceSub,Array.replicate_succ,Array.replicate_zero,List.push_toArray,List.append_toArray,List.nil_append,List.cons_append]
 go_wp2_with((with_reducible show wpList _ _ _ (⟨_,.load 37 (.tmp 2),_,_,_,_⟩::_) _ _);rw[←HW0.out];refine wpList_load_any rfl 37 (.tmp 2) rfl _ rfl _ HLI.out ?_)
 refine(HH.out _).mono ?_;rintro e w1 ⟨rfl,hk1⟩
 obtain⟨w2,hst,hb6,hk2⟩:=store_whole (P:= Tryz.prog) (ty:= 74) (cs:=u64s H) (by rw[u64s_len,hh8];exact size_r8) (Blk.new w1 Z8 74) (by rw[←HZ8.out];simp[u64s_len,hh8]) (u64s_one _)
 have hk02:Keeps [] W0 w2:=(hk1.alloc (.cells Z8 74)).trans hk2 (by intro x hx;rw[List.mem_singleton] at hx;have :=hk1.size;omega)
 have HST:=Lib.hid hst
 have HB6:=Lib.hid hb6
 have HK2:=Lib.hid hk02
 have c3:=HC3.out w2 hk02
 have hg1:w.heap.size+2<w1.heap.size:=Nat.lt_of_lt_of_le HBR.out.lt hk1.size
 have hg2:w1.heap.size<w2.heap.size:=hb6.lt
 have hmk:=make_rows own.length (by omega) (own.length:Int) rfl w2
 rw[made_rows] at hmk
 obtain⟨W3,hW3⟩:∃W3,W3=((w2.alloc (.cells (u64s (List.replicate (8*own.length) 0)).toArray 74)).alloc (.cells #[.slice (some ⟨w2.heap.size,0,none⟩) own.length own.length] 128)).alloc (.cells #[.int .i64 0] 3):=⟨_,rfl⟩
 have hk23:Keeps [] w2 W3:=by
  rw[hW3]
  exact(((Keeps.refl [] w2).alloc _).alloc _).alloc _
 have hk03:Keeps [] W0 W3:=hk02.trans' hk23
 have c17:=HC17.out W3 hk03
 rw[hW3] at c17
 have HC3':=Lib.hid (HC3.out W3 hk03)
 have HK3:=Lib.hid (HK0.out.trans' hk03)
 have HBG3:Hid (Blk W3 w2.heap.size (u64s (List.replicate (8*own.length) 0)).toArray 74):=by
  rw[hW3]
  exact((Blk.new w2 _ _).alloc _).alloc _
 have HBB3:Hid (Blk W3 (w2.heap.size+1) #[.slice (some ⟨w2.heap.size,0,none⟩) own.length own.length] 128):=by
  have :=Blk.new (w2.alloc (.cells (u64s (List.replicate (8*own.length) 0)).toArray 74)) #[.slice (some ⟨w2.heap.size,0,none⟩) own.length own.length] 128
  have e:(w2.alloc (.cells (u64s (List.replicate (8*own.length) 0)).toArray 74)).heap.size=w2.heap.size+1:=by simp
  rw[e] at this
  rw[hW3]
  exact this.alloc _
 have HBF3:Hid (Blk W3 (w2.heap.size+1+1) #[.int .i64 0] 3):=by
  have :=Blk.new ((w2.alloc (.cells (u64s (List.replicate (8*own.length) 0)).toArray 74)).alloc (.cells #[.slice (some ⟨w2.heap.size,0,none⟩) own.length own.length] 128)) #[.int .i64 0] 3
  have e:((w2.alloc (.cells (u64s (List.replicate (8*own.length) 0)).toArray 74)).alloc (.cells #[.slice (some ⟨w2.heap.size,0,none⟩) own.length own.length] 128)).heap.size=w2.heap.size+1+1:=by simp
  rw[e] at this
  rw[hW3]
  exact this
 have HBW3:=Lib.hid (hb6.keep hk23 (by simp))
 have HBR3:=Lib.hid (HBR.out.keep hk03 (by simp))
 have HB13:=Lib.hid (HB1.out.keep hk03 (by simp))
 have HW3:=Lib.hid hW3
 clear hst hb6 hk2 hk02 hk1 hk23 hk03 HH HBR HB1 HB0 HLI HC17 HC3 hW3
 generalize hg6:w1.heap.size=g6 at *
 go_wp2_with(first|((with_reducible show wpList _ _ _ (⟨_,.store 74 (.tmp 6) (.tmp 14),_,_,_,_⟩::_) _ _);refine wpList_store_any rfl 74 (.tmp 6) (.tmp 14) rfl _ rfl _ rfl _ HST.out ?_))
 clear c17 c3 hmk HST HB6 HK2 hzv hg6
 refine((HSP.out _ (HW3.out▸HK3.out)).mono ?_);rintro e w5 ⟨S,rfl,hk5,hS⟩
 rw[←HW3.out] at hk5
 have HK5:=Lib.hid (HK3.out.trans' hk5)
 have HS5:Hid (∀b,b<4→∃a cap g,S b= .slice a (sprE n.E b).length cap∧(sprE n.E b).length≤cap∧cap≤maxLen∧((sprE n.E b).length≠0→∃g off,a=some ⟨g,off,none⟩)∧EReads w5 (.slice a (sprE n.E b).length cap) g (sprE n.E b)∧W3.heap.size≤g):=λb hb=>by
  obtain⟨g,h1,h2⟩:=hS b hb
  obtain⟨a,cap,h3,h4,h5,h6⟩:=h1
  refine⟨a,cap,g,h3,h4,h5,λh0=> ?_,h3▸⟨a,cap,h3,h4,h5,h6⟩,by rw[HW3.out];exact h2⟩
  obtain⟨-,off,h7,-⟩:=h6 h0
  exact⟨g,off,h7⟩
 have HBG5:=Lib.hid (HBG3.out.keep hk5 (by simp))
 have HBB5:=Lib.hid (HBB3.out.keep hk5 (by simp))
 have HBF5:=Lib.hid (HBF3.out.keep hk5 (by simp))
 have HBW5:=Lib.hid (HBW3.out.keep hk5 (by simp))
 have HBR5:=Lib.hid (HBR3.out.keep hk5 (by simp))
 have HB15:=Lib.hid (HB13.out.keep hk5 (by simp))
 have hsz5:W3.heap.size≤w5.heap.size:=hk5.size
 have hszB:w2.heap.size+3≤W3.heap.size:=by rw[HW3.out];simp
 clear hk5 hS HSP HBG3 HBB3 HBF3 HBW3 HBR3 HB13 HC3' HK0 HW0 HW3
 generalize w2.heap.size=gB at *
 have HST5:Hid (DirS w5 w5 n own gB g6 (gB+1+1) 0 []):=⟨Keeps.refl _ _,⟨_,DirC.start n.E own,HBG5.out⟩,by have :=HBW5.out;rw[HHL.out] at this;exact this,HBF5.out⟩
 have hfm:∀b,b<4→fstN n.E b+dN n.E b≤own.length:=λb hb=>by
  have :=fstN_mono n.E (show b+1≤4 by omega)
  rw[fstN,hneed] at this
  exact this
 have HFM:=Lib.hid hfm
 clear hfm
 have hgne:gB≠g6:=by omega
 go_wp2_with fail
 refine wp_loop (λa wx=>∃(k:Nat) (Ds:List Nat) (u9 u10 u11 u22 u23 u24 u25 u26 u27 u28 u29 u51:Value),k≤4∧a={ tmps:= #[.agg Z,.slice ao own.length co,.pointer (some ⟨w.heap.size,0,none⟩),.pointer (some ⟨w.heap.size+1,0,none⟩),.pointer (some ⟨w.heap.size+1+1,0,none⟩),.slice none 0 0,.pointer (some ⟨g6,0,none⟩),.pointer (some ⟨gB+1,0,none⟩),.pointer (some ⟨gB+1+1,0,none⟩),u9,u10,u11,undef,.agg Z,.agg (u64s H).toArray,.slice ao own.length co,.int .i64 (own.length:Int),.slice (some ⟨gB,0,none⟩) own.length own.length,.pointer (some ⟨w.heap.size,17,none⟩),v,.agg (fourC S),.int .i64 (k:Int),u22,u23,u24,u25,u26,u27,u28,u29,undef,undef,undef,undef,undef,undef,undef,undef,undef,undef,undef,undef,undef,undef,undef,undef,undef,undef,undef,undef,undef,u51,undef,undef],defers:=Ds.map markD }∧
   Hid (DirS w5 wx n own gB g6 (gB+1+1) k []∧Ds.Nodup∧∀D∈Ds,w5.heap.size≤D∧wx.heap[D]? =some (.deferred (some [])))) (λa _=>4-(intOf (a.tmps.getD 21 undef)).toNat) ⟨0,[],_,_,_,_,_,_,_,_,_,_,_,_,by omega,rfl,HST5.out,List.nodup_nil,λD hD=>by cases hD⟩ ?_
 rintro a wr ⟨k,Ds,u9,u10,u11,u22,u23,u24,u25,u26,u27,u28,u29,u51,hk4,rfl,HP⟩
 clear HST5
 by_cases hk:k<4
 ·have hlt:(k:Int)<4:=by omega
  obtain⟨ak,capk,gk,hSk,hck,hmk,hak,hEk,hgk⟩:=HS5.out k hk
  have hix:=λw=>index_four S hk w
  rw[hSk] at hix
  obtain⟨ji,hj,hjw,hj0,hj8,hjt⟩:∃ji:Int,2+(k:Int)=ji∧wrap64 ji=ji∧0≤ji∧ji<8∧ji.toNat=2+k:=⟨_,rfl,by unfold wrap64;omega,by omega,by omega,by omega⟩
  obtain⟨kn,hkn,hknw,HKN⟩:∃kn:Int,(k:Int)+1=kn∧wrap64 kn=kn∧Hid (kn=((k+1:Nat):Int)):=⟨_,rfl,by unfold wrap64;omega,(by show _=_;omega)⟩
  have HHB:=Lib.hid hgk
  have HEK:=Lib.hid hEk
  have HAK:=Lib.hid hak
  have HCK:=Lib.hid hck
  have HMK:=Lib.hid hmk
  have HK:=Lib.hid hk
  have HK4:=Lib.hid hk4
  clear hSk hgk hEk hak hck hmk hk hk4
  generalize hki:(k:Int)=ki at *
  have HKI:=Lib.hid hki
  clear hki
  go_wp2_with fail
  refine(chunk_at _ _ _ _).mono ?_;rintro e wL ⟨rfl,hwL⟩
  have hbs1:(wr.alloc (.cells #[.pointer (some ⟨g6,2+k,none⟩)] 168)).heap.size=wr.heap.size+1:=by simp
  have HBL:Hid (Blk wL wr.heap.size #[.pointer (some ⟨g6,2+k,none⟩)] 168):=by
   rw[hwL]
   exact((Blk.new wr _ _).alloc _).alloc _
  have HBS:Hid (Blk wL (wr.heap.size+1) #[.slice ak (sprE n.E k).length capk] 35):=by
   rw[hwL,←hbs1]
   exact(Blk.new _ _ _).alloc _
  have HBN:Hid (Blk wL (wr.heap.size+1+1) #[.int .i64 3] 3):=by
   have :=Blk.new ((wr.alloc (.cells #[.pointer (some ⟨g6,2+k,none⟩)] 168)).alloc (.cells #[.slice ak (sprE n.E k).length capk] 35)) #[.int .i64 3] 3
   have e:((wr.alloc (.cells #[.pointer (some ⟨g6,2+k,none⟩)] 168)).alloc (.cells #[.slice ak (sprE n.E k).length capk] 35)).heap.size=wr.heap.size+1+1:=by simp
   rw[e] at this
   rw[hwL]
   exact this
  have hkL:Keeps [] wr wL:=by
   rw[hwL]
   exact(((Keeps.refl [] wr).alloc _).alloc _).alloc _
  have hszL:wL.heap.size=wr.heap.size+3:=by rw[hwL];simp
  rw[hbs1]
  clear hwL hbs1
  obtain⟨hds,hnd,hmk⟩:=HP.out
  have hdsL:DirS w5 wL n own gB g6 (gB+1+1) k []:=⟨hds.keep.trans' (hkL.mono (by simp)),by obtain⟨C,h1,h2⟩:=hds.rows;exact⟨C,h1,h2.keep hkL (by simp)⟩,hds.row.keep hkL (by simp),hds.fill.keep hkL (by simp)⟩
  have hszr:w5.heap.size≤wr.heap.size:=hds.keep.size
  have HMKL:Hid (∀D∈Ds,w5.heap.size≤D∧D<wr.heap.size∧wL.heap[D]? =some (.deferred (some []))):=λD hD=>by
   obtain⟨h1,h2⟩:=hmk D hD
   have h3:=(Array.getElem?_eq_some_iff.1 h2).1
   exact⟨h1,h3,(hkL.block D h3 (by simp)).trans h2⟩
  have HDSL:=Lib.hid hdsL
  have HND:=Lib.hid hnd
  clear hds hdsL hmk hkL HP hnd
  generalize wr.heap.size=lB at *
  go_wp2_with fail
  refine(wpIn_wide (n:=3)).1 ?_
  refine wpIn_rangeFunc_ownG (F:=Fence.wide) rfl (by omega) (gf:= 126) (lb:= #[.pointer (some ⟨lB+1,0,none⟩),.pointer (some ⟨lB+1+1,0,none⟩)]) rfl trivial (enters_of Tryz.func126 (by kernel_rfl) rfl)
   (chunk_stops (3-1) (by omega) ak (sprE n.E k).length capk (Nat.le_trans (sprE_len _ _) (by omega)) HCK.out HAK.out (lB+1) (lB+1+1) wL HBS.out HBN.out)
   (λh1 h2=>⟨h2.1.trans h1.1,h2.2.trans h1.2⟩) (λW l o o' h1 h2 _ _=>⟨World.putObj_heap_other (by omega),World.putObj_heap_other (by omega)⟩) (Below.refl _ _) (λ_=>rfl)
   (λpre W=>DirS w5 W n own gB g6 (gB+1+1) k pre∧Blk W lB #[.pointer (some (lnkD n.E gB g6 k pre.length))] 168∧Keeps [gB,g6,gB+1+1,lB] wL W)
   (λ_ _ _=>False)
   (λpre A A' row h hg hr=>⟨h.1.turn hg hr (by omega),h.2.1.turn hg (λr e=>(hr r e).2),h.2.2.turn hg (λr e=>(hr r e).1) (Nat.le_refl _)⟩)
   (λ_ _ _ _ _ h _ _=>h)
   ⟨HDSL.out,by have :=HBL.out;exact this,Keeps.refl _ _⟩
   (λx=>{ tmps:= #[.agg Z,.slice ao own.length co,.pointer (some ⟨w.heap.size,0,none⟩),.pointer (some ⟨w.heap.size+1,0,none⟩),.pointer (some ⟨w.heap.size+1+1,0,none⟩),.slice none 0 0,.pointer (some ⟨g6,0,none⟩),.pointer (some ⟨gB+1,0,none⟩),.pointer (some ⟨gB+1+1,0,none⟩),.int .i64 ki,.slice ak (sprE n.E k).length capk,.pointer (some ⟨lB,0,none⟩),chV ak (sprE n.E k).length x,.agg Z,.agg (u64s H).toArray,.slice ao own.length co,.int .i64 (own.length:Int),.slice (some ⟨gB,0,none⟩) own.length own.length,.pointer (some ⟨w.heap.size,17,none⟩),v,.agg (fourC S),.int .i64 ki,.bool true,.int .i64 ki,.slice ak (sprE n.E k).length capk,.int .i64 ki,.int .i64 ji,.pointer (some ⟨g6,2+k,none⟩),.slice ak (sprE n.E k).length capk,.func (.func 126) #[] #[.pointer (some ⟨lB+1,0,none⟩),.pointer (some ⟨lB+1+1,0,none⟩)],chV ak (sprE n.E k).length x,undef,undef,undef,undef,undef,undef,undef,undef,undef,undef,undef,undef,undef,undef,undef,undef,undef,undef,undef,undef,u51,undef,undef],defers:=[] }) ?assign ?body ?done ?stop
  case assign=>
   intro l x W K hK
   gi_wp2
   exact hK
  case stop=>
   rintro D c pre W _ _ h _
   exact h.elim
  case done=>
   rintro D ys W hD rfl ⟨hdsW,hblW,hkW⟩ hKD
   have hrl:(List.range (((sprE n.E k).length+2)/3)).length=dN n.E k:=List.length_range
   have hnext:DirS w5 W n own gB g6 (gB+1+1) (k+1) []:=by
    obtain⟨h1,⟨C,h2,h3⟩,h4,h5⟩:=hdsW
    rw[hrl] at h4 h5
    exact⟨h1,⟨C,h2.next,h3⟩,by rw[rowD_next] at h4;exact h4,h5⟩
   have HFIN:Hid (DirS w5 W n own gB g6 (gB+1+1) (k+1) []∧(D::Ds).Nodup∧∀D'∈D::Ds,w5.heap.size≤D'∧W.heap[D']? =some (.deferred (some []))):=by
    refine⟨hnext,List.nodup_cons.2 ⟨λhm=> ?_,HND.out⟩,λD' hD'=> ?_⟩
    ·have :=(HMKL.out D hm).2.1
     omega
    ·rcases List.mem_cons.1 hD' with rfl|hm
     ·exact⟨by omega,hKD⟩
     ·obtain⟨h1,h2,h3⟩:=HMKL.out D' hm
      exact⟨h1,(hkW.block D' (by omega) (by
       have h4:D'≠gB∧D'≠g6∧D'≠gB+1+1∧D'≠lB:=by omega
       simp only[List.mem_cons,List.not_mem_nil,or_false]
       omega)).trans h3⟩
   clear hdsW hblW hkW hKD hnext hrl
   go_wp2_with fail
   refine⟨⟨k+1,D::Ds,_,_,_,_,_,_,_,_,_,_,_,_,HK.out,by rw[←HKN.out];rfl,HFIN.out⟩,?_⟩
   have h1:=HKN.out
   have h2:=HKI.out
   have h3:=HK.out
   simp[intOf]
   omega
  case body=>
   rintro l pre x W ⟨hdsW,hblW,hkW⟩ hpre
   obtain⟨f,hf⟩:∃f,f=fstN n.E k+pre.length:=⟨_,rfl⟩
   have hfo:f<own.length:=by
    have h1:=HFM.out k HK.out
    have h2:pre.length<dN n.E k:=hpre
    omega
   obtain⟨lg,lo,C1,old,hl1,hl2,hcL,hfL,hC1,hDC,hbG1,hbW1⟩:=hdsW.link HK.out hf hfo hgne
   obtain⟨hgo,offo,rfl,hcO⟩:=HOC.out f hfo
   rw[hl1] at hblW
   have hx256:own.getD f 0<256:=h256 _ (by rw[List.getD_eq_getElem?_getD,List.getElem?_eq_getElem hfo];exact List.getElem_mem hfo)
   have hfill:=hdsW.fill
   rw[←hf] at hfill
   obtain⟨xi,hxi,hxw⟩:∃xi:Int,((own.getD f 0:Nat):Int)=xi∧IntKind.u64.wrap xi=xi:=⟨_,rfl,by rw[wrap_nat64 (by omega) (by omega)]⟩
   obtain⟨fi,hfi,hfi0,hfil,hfit,hfw⟩:∃fi:Int,((f:Nat):Int)=fi∧0≤fi∧fi<(own.length:Int)∧fi.toNat=f∧wrap64 (fi+1)=fi+1:=⟨_,rfl,by omega,by omega,by omega,by unfold wrap64;omega⟩
   rw[hxi] at hcO hbG1 hbW1
   rw[hfi] at hfill
   have HX10:Hid (∀wx,Keeps [gB,g6] W wx→wx.cell? ⟨lB,0,none⟩=some (.pointer (some ⟨lg,lo,none⟩))∧wx.cell? ⟨w.heap.size+1,0,none⟩=some (.slice (some ⟨go,offo,none⟩) own.length co)∧wx.cell? ⟨gB+1+1,0,none⟩=some (.int .i64 fi)∧wx.cell? ⟨go,offo+f,none⟩=some (.int .i64 xi)):=λwx hk=>by
    refine⟨by rw[(hblW.keep hk (by simp<;>omega)).cell];rfl,by rw[((HB15.out.keep hdsW.keep (by simp<;>omega)).keep hk (by simp<;>omega)).cell];rfl,by rw[(hfill.keep hk (by simp<;>omega)).cell];rfl,?_⟩
    have hk5:=HK5.out
    have h1:go<w5.heap.size:=Nat.lt_of_lt_of_le hgo hk5.size
    have h2:go<W.heap.size:=Nat.lt_of_lt_of_le h1 hdsW.keep.size
    refine(World.cell?_of_block (a:=⟨go,offo+f,none⟩) ?_).trans hcO
    show wx.heap[go]? =w.heap[go]?
    exact((hk.block go h2 (by simp<;>omega)).trans (hdsW.keep.block go h1 (by simp<;>omega))).trans (hk5.block go hgo (by simp))
   have hcL':W.drew.cell? ⟨lg,lo,none⟩=some (.int .u64 old):=hcL
   have hfL':W.drew.frozen? ⟨lg,lo,none⟩=false:=hfL
   have hdr:W.drew.setCell ⟨lg,lo,none⟩ (.int .u64 xi)=(W.setCell ⟨lg,lo,none⟩ (.int .u64 xi)).drew:=rfl
   obtain⟨W1,hW1⟩:∃W1,W1=(W.setCell ⟨lg,lo,none⟩ (.int .u64 xi)).drew:=⟨_,rfl⟩
   rw[hdr,←hW1] at hbG1 hbW1
   have hkW1:Keeps [gB,g6] W W1:=by
    rw[hW1]
    exact((Keeps.refl _ _).setCell (.inl (by rcases hl2 with h|h<;>simp[h])) _).drew
   have HDSW:=Lib.hid hdsW
   have HBLW:=Lib.hid hblW
   have HKW:=Lib.hid hkW
   have HFILL:=Lib.hid hfill
   have HBG1:=Lib.hid hbG1
   have HBW1:=Lib.hid hbW1
   have HKW1:=Lib.hid hkW1
   have HW1:=Lib.hid hW1
   have HDC:=Lib.hid hDC
   have HC1:=Lib.hid hC1
   have HF:=Lib.hid hf
   have HFI:=Lib.hid hfi
   have HPRE:=Lib.hid hpre
   clear hdsW hblW hkW hfill hbG1 hbW1 hkW1 hW1 hdr hDC hC1 hf hpre hl1 hcO hxi hfi hcL hfL hx256
   refine wpIn_block (wpIn_seq_k λK hKs=> ?_)
   refine wpIn_region_text (r:=some l) (S:=λwx=>Keeps [gB,g6] W wx) (l:=[_,_,_,_,_,_]) (tl:=[_,_]) (by kernel_rfl) rfl (by kernel_rfl) (by rintro⟨a,w,h⟩;exact h) (by kernel_rfl) (by kernel_rfl) (by kernel_rfl) (λd _ _ _ _ h=>by cases d<;>exact h) (Keeps.refl _ _).drew ?_
   repeat (refine YieldList.cons ?_ (YieldsIf.val rfl ?h) ?_;(case h=>(intro wx hx;obtain⟨h1,h2,h3,h4⟩:=HX10.out wx hx;go_simp;rfl));simp only[Act.put,List.setIfInBounds_toArray,List.set_cons_zero,List.set_cons_succ])
   refine YieldList.done ?_
   unfold tailS
   go_wp2_with fail
   refine⟨(Keeps.refl _ _).drew,?_⟩
   unfold tailS
   go_wp2_with fail
   rw[←HW1.out]
   refine⟨HKW1.out,?_⟩
   unfold tailS
   refine hKs _ _ ?_
   clear hKs K HX10 hcL' hfL' hxw HW1 HBG5 HBW5 HBF5
   -- the entries' words
   have hdk:=HKW1.out
   have hk15:Keeps [gB,g6,gB+1+1] w5 W1:=HDSW.out.keep.trans' (HKW1.out.mono (by simp<;>omega))
   have hbB1:Blk W1 (gB+1) #[.slice (some ⟨gB,0,none⟩) own.length own.length] 128 :=HBB5.out.keep hk15 (by simp<;>omega)
   have hbF1:Blk W1 (gB+1+1) #[.int .i64 fi] 3 :=HFILL.out.keep hdk (by simp<;>omega)
   have hbL1:=HBLW.out.keep hdk (by simp<;>omega)
   have HX11:Hid (∀wx,Keeps [gB] W1 wx→wx.cell? ⟨gB+1,0,none⟩=some (.slice (some ⟨gB,0,none⟩) own.length own.length)∧wx.cell? ⟨gB+1+1,0,none⟩=some (.int .i64 fi)):=λwx hk=>by
    exact⟨by rw[(hbB1.keep hk (by simp<;>omega)).cell];rfl,by rw[(hbF1.keep hk (by simp<;>omega)).cell];rfl⟩
   have hsl:∀wx,(Instr.sliceAt 74 (.pointer (some ⟨gB,f*8,none⟩)) (some (.int .i64 1)) none none).run Tryz.prog wx= .ok (.slice (some ⟨gB,f*8+1,none⟩) 7 7) wx:=λwx=>by show Sem.run _ _ _=_;kernel_rfl
   have HENT:Hid (∀wx,Keeps [] W1 wx→Calls Tryz.prog 97 #[chV ak (sprE n.E k).length x] wx (MadeWords wx (wordsE (chE (sprE n.E k) x)))):=λwx hk=>by
    refine rowEntries_at (E:=chE (sprE n.E k) x) (g:=gk) ?_ (chE_ok hEo k x)
    refine(((chV_reads HEK.out x).keep hk15 ?_).keep hk (by simp))
    intro _
    have :=HHB.out
    simp
    omega
   have HK15:=Lib.hid hk15
   have HBB1:=Lib.hid hbB1
   have HBF1:=Lib.hid hbF1
   have HBL1:=Lib.hid hbL1
   clear hdk hk15 hbB1 hbF1 hbL1
   refine wpIn_seq_k λK hKs=> ?_
   refine wpIn_region_text (r:=some l) (S:=λwx=>Keeps [gB] W1 wx) (l:=[_,_,_,_,_]) (tl:=[_,_]) (by kernel_rfl) rfl (by kernel_rfl) (by rintro⟨a,w,h⟩;exact h) (by kernel_rfl) (by kernel_rfl) (by kernel_rfl) (λd _ _ _ _ h=>by cases d<;>exact h) (Keeps.refl _ _).drew ?_
   repeat (refine YieldList.cons ?_ (YieldsIf.val rfl ?h) ?_;(case h=>(intro wx hx;obtain⟨h1,h2⟩:=HX11.out wx hx;go_simp;rfl));simp only[Act.put,List.setIfInBounds_toArray,List.set_cons_zero,List.set_cons_succ])
   refine YieldList.done ?_
   unfold tailS
   go_wp2_with fail
   refine(HENT.out _ (Keeps.refl _ _).drew).mono ?_;rintro e W2 ⟨va,ga,rfl,hra,hga,hka⟩
   have hk2:Keeps [] W1 W2:=((Keeps.refl _ _).drew).trans' hka
   obtain⟨aa,ca,rfl,-,-,-⟩:=u64s_cell hra
   have hws:(wordsE (chE (sprE n.E k) x)).length≤6:=by rw[wordsE_len,chE_len];omega
   obtain⟨vc,W3x,hcp,hbG3,hk3⟩:=copy_reads (o:=f*8+1) (n:=7) (cap:=7) (HBG1.out.keep hk2 (by simp)) hra (by omega) (by have :=HC1.out;omega)
   have HCP:=Lib.hid hcp
   have HK2:Hid (Keeps [gB] W1 W2):=hk2.mono (by simp)
   have HK3x:Hid (Keeps [gB] W1 W3x):=(hk2.mono (l':=[gB]) (by simp)).trans' hk3
   have HBG3:Hid (Blk W3x gB (u64s (overL C1 (8*f+1) (wordsE (chE (sprE n.E k) x)))).toArray 74):=by
    rw[Nat.mul_comm 8 f]
    exact hbG3
   generalize hWS:wordsE (chE (sprE n.E k) x)=ws at *
   clear hk2 hka hra hga hcp hbG3 hk3 hws HENT HBG1
   go_wp2_with fail
   refine⟨HK2.out,?_⟩
   unfold tailS
   go_wp2_with(first|((with_reducible show wpList _ _ _ (⟨some 44,_,_,_,_,_⟩::_) _ _);refine wpList_copy_any rfl (.tmp 41) (.tmp 43) 32 32 rfl _ _ rfl rfl (HCP.out _) ?_))
   refine⟨HK3x.out,?_⟩
   unfold tailS
   refine hKs _ _ ?_
   clear hKs K
   have hbL3:=HBL1.out.keep HK3x.out (by simp<;>omega)
   have hbF3:=HBF1.out.keep HK3x.out (by simp<;>omega)
   have hbB3:=HBB1.out.keep HK3x.out (by simp<;>omega)
   have e1:W3x.cell? ⟨gB+1,0,none⟩=some (.slice (some ⟨gB,0,none⟩) own.length own.length):=by rw[hbB3.cell];rfl
   have e2:W3x.cell? ⟨gB+1+1,0,none⟩=some (.int .i64 fi):=by rw[hbF3.cell];rfl
   have e3:W3x.cell? ⟨lB,0,none⟩=some (.pointer (some ⟨lg,lo,none⟩)):=by rw[hbL3.cell];rfl
   have e4:W3x.frozen? ⟨lB,0,none⟩=false:=hbL3.frozen 0
   have hbL4:=hbL3.set 0 (.pointer (some ⟨gB,f*8,none⟩))
   have hbF4:=hbF3.other (a:=⟨lB,0,none⟩) (by show gB+1+1≠lB;omega) (.pointer (some ⟨gB,f*8,none⟩))
   have e5:(W3x.setCell ⟨lB,0,none⟩ (.pointer (some ⟨gB,f*8,none⟩))).cell? ⟨gB+1+1,0,none⟩=some (.int .i64 fi):=by rw[hbF4.cell];rfl
   have e6:(W3x.setCell ⟨lB,0,none⟩ (.pointer (some ⟨gB,f*8,none⟩))).frozen? ⟨gB+1+1,0,none⟩=false:=hbF4.frozen 0
   have HBL4:=Lib.hid hbL4
   have HBF4:=Lib.hid hbF4
   clear hbL3 hbF3 hbB3 hbL4 hbF4
   gi_wp2
   have HKF:Keeps [gB,g6,gB+1+1,lB] W ((W3x.setCell ⟨lB,0,none⟩ (.pointer (some ⟨gB,f*8,none⟩))).setCell ⟨gB+1+1,0,none⟩ (.int .i64 (fi+1))):=
    (((HKW1.out.mono (l':=[gB,g6,gB+1+1,lB]) (by simp<;>omega)).trans' (HK3x.out.mono (by simp<;>omega))).setCell (.inl (by simp)) _).setCell (.inl (by simp)) _
   have hszW:wL.heap.size≤W.heap.size:=HKW.out.size
   have hp1:(pre++[x]).length=pre.length+1:=by simp
   refine⟨KeepsFrom.of_keeps HKF (λj hj hj2=> .inl ?_),⟨HKF.block (lB+1) (by omega) (by simp<;>omega),HKF.block (lB+1+1) (by omega) (by simp<;>omega)⟩,⟨?_,?_,?_,?_⟩,?_,HKW.out.trans' HKF⟩
   ·simp only[List.mem_cons,List.not_mem_nil,or_false] at hj
    rcases hj with rfl|rfl|rfl|rfl<;>omega
   ·refine HDSW.out.keep.trans HKF λy hy=> ?_
    simp only[List.mem_cons,List.not_mem_nil,or_false] at hy ⊢
    rcases hy with rfl|rfl|rfl|rfl
    ·exact .inl (.inl rfl)
    ·exact .inl (.inr (.inl rfl))
    ·exact .inl (.inr (.inr rfl))
    ·exact .inr (by omega)
   ·refine⟨_,HDC.out x,?_⟩
    rw[hWS]
    exact(HBG3.out.other (a:=⟨lB,0,none⟩) (by show gB≠lB;omega) _).other (a:=⟨gB+1+1,0,none⟩) (by show gB≠gB+1+1;omega) _
   ·rw[hp1]
    exact((HBW1.out.keep HK3x.out (by simp<;>omega)).other (a:=⟨lB,0,none⟩) (by show g6≠lB;omega) _).other (a:=⟨gB+1+1,0,none⟩) (by show g6≠gB+1+1;omega) _
   ·have :=HBF4.out.set 0 (.int .i64 (fi+1))
    rw[hp1,show((fstN n.E k+(pre.length+1):Nat):Int)=fi+1 by rw[←HFI.out,HF.out];omega]
    exact this
   ·have :=HBL4.out.other (a:=⟨gB+1+1,0,none⟩) (by show lB≠gB+1+1;omega) (.int .i64 (fi+1))
    have e:lnkD n.E gB g6 k (pre++[x]).length=⟨gB,f*8,none⟩:=by
     rw[hp1,lnkD,if_neg (by omega),HF.out,show 8*(fstN n.E k+(pre.length+1)-1)=(fstN n.E k+pre.length)*8 by omega]
    rw[e]
    exact this
 ·obtain rfl:k=4:=by omega
  obtain⟨hds,hnd,hmk⟩:=HP.out
  have hbR:Blk wr.drew (w.heap.size+2) Z8 74 :=(HBR5.out.keep hds.keep (by simp<;>omega)).drew
  have hbW:Blk wr g6 (u64s (rowD n own 4 0)).toArray 74 :=hds.row
  have HX15:Hid (∀wx,Keeps [w.heap.size+2] wr wx→(loadVar 74 ⟨g6,0,none⟩).run Tryz.prog wx= .ok (.agg (u64s (rowD n own 4 0)).toArray) wx∧wx.cell? ⟨gB+1,0,none⟩=some (.slice (some ⟨gB,0,none⟩) own.length own.length)):=λwx hk=>by
   exact⟨load_r8 (hbW.keep hk (by simp<;>omega)) (rowD_len _ _ _ _),by rw[((HBB5.out.keep hds.keep (by simp<;>omega)).keep hk (by simp<;>omega)).cell];rfl⟩
  obtain⟨wS,hS,hbS,hkS⟩:=store_whole (P:= Tryz.prog) (ty:= 74) (cs:=u64s (rowD n own 4 0)) (by rw[u64s_len,rowD_len];exact size_r8) hbR (by rw[←HZ8.out];simp[u64s_len,rowD_len]) (u64s_one _)
  have HS:=Lib.hid hS
  have HKS:Hid (Keeps [w.heap.size+2] wr wS):=((Keeps.refl _ _).drew).trans' hkS
  have HFIN:Hid (∀W',Keeps Ds wS W'→(loadVar 74 ⟨w.heap.size+2,0,none⟩).run Tryz.prog W'= .ok (.agg (u64s (rowD n own 4 0)).toArray) W'∧LaidPost w (dirRow n own) (dirTo n.E own 4) (.returned (.tuple #[.agg (u64s (rowD n own 4 0)).toArray,.slice (some ⟨gB,0,none⟩) own.length own.length])) W'):=λW' hk=>by
   have hD:∀q,q<w5.heap.size→q∉Ds:=λq hq hm=>by
    have :=(hmk q hm).1
    omega
   refine⟨load_r8 (Blk.keep hbS hk (hD _ (by omega))) (rowD_len _ _ _ _),_,gB,rfl,?_,by omega,?_⟩
   ·obtain⟨C,h1,h2⟩:=hds.rows
    exact h1.breads hneed (Nat.le_refl _) (by unfold maxLen;omega) ((h2.keep HKS.out (by simp<;>omega)).keep hk (hD _ (by omega)))
   ·have h1:Keeps [] w wr:=HK5.out.trans hds.keep (by intro q hq;simp at hq;omega)
    have h2:Keeps [] w wS:=h1.trans HKS.out (by intro q hq;simp at hq;omega)
    exact h2.trans hk λq hq=> .inr (by have :=(hmk q hq).1;omega)
  have HND:=Lib.hid hnd
  have HMK:Hid (∀D∈Ds,wS.heap[D]? =some (.deferred (some []))):=λD hD=>by
   obtain⟨h1,h2⟩:=hmk D hD
   exact(HKS.out.block D (Array.getElem?_eq_some_iff.1 h2).1 (by simp<;>omega)).trans h2
  clear hds hnd hmk hbR hbW hS hbS hkS HP hk hk4
  go_wp2_with fail
  refine wp_region_noPanic ?_
  refine wp_region_text (S:=λwx=>Keeps [w.heap.size+2] wr wx) (l:=[_,_]) (tl:=[_,_]) (by kernel_rfl) rfl (by kernel_rfl) (by kernel_rfl) (by kernel_rfl) (λd _ _ _ _ h=>by cases d<;>exact h) (Keeps.refl _ _).drew ?_
  refine YieldList.cons _ (YieldsIf.load rfl 74 (.tmp 6) rfl _ rfl λwx hx=>(HX15.out wx hx).1) ?_
  simp only[Act.put,List.setIfInBounds_toArray,List.set_cons_zero,List.set_cons_succ]
  refine YieldList.cons ?_ (YieldsIf.val rfl ?h) ?_;(case h=>(intro wx hx;obtain⟨-,h1⟩:=HX15.out wx hx;go_simp;rfl));simp only[Act.put,List.setIfInBounds_toArray,List.set_cons_zero,List.set_cons_succ]
  refine YieldList.done ?_
  unfold tailS
  go_wp2_with(first|((with_reducible show wpList _ _ _ (⟨_,.store 74 (.tmp 4) (.tmp 52),_,_,_,_⟩::_) _ _);refine wpList_store_any rfl 74 (.tmp 4) (.tmp 52) rfl _ rfl _ rfl _ HS.out ?_))
  refine⟨HKS.out,?_⟩
  unfold tailS
  go_wp2_with fail
  refine⟨HKS.out,?_⟩
  unfold tailS
  refine NoPanic.normal ?_
  go_wp2_with fail
  refine leaves_marks Ds wS HND.out HMK.out λW' hk=> ?_
  obtain⟨h1,h2⟩:=HFIN.out W' hk
  exact⟨_,results_cell2 Tryz.results102 rfl h1 rfl,h2⟩
end Go.Proofs.YtphojondgfjmgaaGreatDoor
namespace Go.Proofs.YtphojondgfjmgaaGreatDoor
open Go.RowKit
def tagN (w:List Int):Ino:=⟨w.getD 0 0%256,w.getD 0 0/256%256,w.getD 0 0/65536%65536,wrap64 (w.getD 1 0),List.replicate 13 0,[]⟩
theorem tag_parts (x:Nat) (hx:x<18446744073709551616):bits .and .u64 (x:Int) 255=((x%256:Nat):Int)∧bits .and .u64 ((x:Int)/256) 255=((x/256%256:Nat):Int)∧bits .and .u64 ((x:Int)/65536) 65535=((x/65536%65536:Nat):Int):=by
 have h1:=Nat.div_le_self x 256
 have h2:=Nat.div_le_self x 65536
 refine⟨?_,?_,?_⟩
 ·rw[show(255:Int)=((255:Nat):Int) from rfl,u64_and_nat x 255 hx (by omega),show x &&& 255=x%2^8 from Nat.and_two_pow_sub_one_eq_mod x 8]
 ·rw[show(x:Int)/256=((x/256:Nat):Int) by omega,show(255:Int)=((255:Nat):Int) from rfl,u64_and_nat (x/256) 255 (by omega) (by omega),show x/256 &&& 255=x/256%2^8 from Nat.and_two_pow_sub_one_eq_mod _ 8]
 ·rw[show(x:Int)/65536=((x/65536:Nat):Int) by omega,show(65535:Int)=((65535:Nat):Int) from rfl,u64_and_nat (x/65536) 65535 (by omega) (by omega),show x/65536 &&& 65535=x/65536%2^16 from Nat.and_two_pow_sub_one_eq_mod _ 16]
set_option maxRecDepth 100000 in
set_option maxHeartbeats 4000000 in
theorem tagged_at (l:List Int) (hl:l.length=8) (h0:0≤l.getD 0 0∧l.getD 0 0<18446744073709551616) (h1:0≤l.getD 1 0∧l.getD 1 0<18446744073709551616) (w:World):
  Calls Tryz.prog 26 #[.agg (u64s l).toArray] w λe w'=>e= .returned (.agg (inoC (tagN l) (.slice none 0 0)))∧Keeps [] w w':=by
 have hb0:=(Blk.new w (u64s l).toArray 74).alloc (.cells (inoC inoZ (.slice none 0 0)) 37)
 have hbr:Blk ((w.alloc (.cells (u64s l).toArray 74)).alloc (.cells (inoC inoZ (.slice none 0 0)) 37)) (w.heap.size+1) (inoC inoZ (.slice none 0 0)) 37 :=by
  have :=Blk.new (w.alloc (.cells (u64s l).toArray 74)) (inoC inoZ (.slice none 0 0)) 37
  have e:(w.alloc (.cells (u64s l).toArray 74)).heap.size=w.heap.size+1:=by simp
  rw[e] at this
  exact this
 have c0:((w.alloc (.cells (u64s l).toArray 74)).alloc (.cells (inoC inoZ (.slice none 0 0)) 37)).cell? ⟨w.heap.size,0,none⟩=some (.int .u64 (l.getD 0 0)):=by
  rw[hb0.cell,List.getElem?_toArray,u64s_get (by omega)]
 have c1:((w.alloc (.cells (u64s l).toArray 74)).alloc (.cells (inoC inoZ (.slice none 0 0)) 37)).cell? ⟨w.heap.size,1,none⟩=some (.int .u64 (l.getD 1 0)):=by
  rw[hb0.cell,List.getElem?_toArray,u64s_get (by omega)]
 obtain⟨w2,hS,hb3,hk2⟩:=store_whole (P:= Tryz.prog) (ty:= 37) (cs:=inoL (tagN l) (.slice none 0 0)) (by rw[inoL_len];exact size_ino) hbr rfl (inoL_one rfl)
 have hL2:=load_ino (n:=tagN l) (v:= .slice none 0 0) hb3 rfl
 have HK:Hid (Keeps [] w w2):=(((Keeps.refl [] w).alloc _).alloc _).trans hk2 (by simp)
 have HS:=Lib.hid hS
 have HL2:=Lib.hid hL2
 have hzv:=zero_ino
 clear hb0 hbr hS hL2 hb3 hk2
 have HT:Hid ((inoL (tagN l) (.slice none 0 0)).toArray=inoC (tagN l) (.slice none 0 0)):=rfl
 rw[HT.out] at HS
 obtain⟨x,hx⟩:∃x:Nat,l.getD 0 0=(x:Int):=⟨(l.getD 0 0).toNat,by omega⟩
 obtain⟨y,hy⟩:∃y:Nat,l.getD 1 0=(y:Int):=⟨(l.getD 1 0).toNat,by omega⟩
 have hI:inoC (tagN l) (.slice none 0 0)= #[.int .i64 ((x%256:Nat):Int),.int .i64 ((x/256%256:Nat):Int),.int .i64 ((x/65536%65536:Nat):Int),.int .i64 (wrap64 (y:Int)),.int .i64 0,.int .i64 0,.int .i64 0,.int .i64 0,.int .i64 0,.int .i64 0,.int .i64 0,.int .i64 0,.int .i64 0,.int .i64 0,.int .i64 0,.int .i64 0,.int .i64 0,.slice none 0 0]:=by
  unfold tagN
  rw[hx,hy]
  rfl
 have hz0:inoC inoZ (.slice none 0 0)= #[.int .i64 0,.int .i64 0,.int .i64 0,.int .i64 0,.int .i64 0,.int .i64 0,.int .i64 0,.int .i64 0,.int .i64 0,.int .i64 0,.int .i64 0,.int .i64 0,.int .i64 0,.int .i64 0,.int .i64 0,.int .i64 0,.int .i64 0,.slice none 0 0]:=rfl
 rw[hI] at HS HL2 HT
 rw[hI]
 rw[hz0] at HS c0 c1
 rw[hz0] at hzv
 clear HT hz0
 generalize (u64s l).toArray=Z at *
 rw[hx] at c0 h0
 rw[hy] at c1 h1
 obtain⟨p1,p2,p3⟩:=tag_parts x (by omega)
 clear hx hy
 have q1:x%256<256:=Nat.mod_lt _ (by decide)
 have q2:x/256%256<256:=Nat.mod_lt _ (by decide)
 have q3:x/65536%65536<65536:=Nat.mod_lt _ (by decide)
 have hwy:Hid (0≤y):=Nat.zero_le y
 generalize x%256=a at *
 generalize x/256%256=b at *
 generalize x/65536%65536=c at *
 go_enter Tryz.func26,Tryz.ntmps26
 go_wp2_with(first|((with_reducible show wpList _ _ _ (⟨_,.store 37 (.tmp 2) (.tmp 20),_,_,_,_⟩::_) _ _);refine wpList_store_any rfl 37 (.tmp 2) (.tmp 20) rfl _ rfl _ rfl _ HS.out ?_))
 exact bodyPost_ret (results_cell Tryz.results26 rfl HL2.out) rfl ⟨rfl,HK.out⟩
theorem store_B {w:World} {g T:Nat} {n:Ino} {v:Value} {l:List Int} (hb:Blk w g (inoC n v) T) (hn:n.B.length=13) (hl:l.length=13):
  ∃w',(storeVar 34 ⟨g,4,none⟩ (.agg (zs l).toArray)).run Tryz.prog w= .ok () w'∧Blk w' g (inoC { n with B:=l } v) T∧Keeps [g] w w':=by
 refine⟨_,run_storeVar_cells g 4 (zs l) _ (by rw[zs_len,hl];exact size_n13) hb (by rw[inoC,List.size_toArray,inoL_len,zs_len,hn,hl];omega) (zs_one l),?_,(Keeps.refl _ _).setRow (by simp) _⟩
 have e:((inoC n v).toList.take 4++zs l++(inoC n v).toList.drop (4+(zs l).length)).toArray=inoC { n with B:=l } v:=by
  have hd:(inoC n v).toList.drop (4+(zs l).length)=[v]:=by
   have :(inoC n v).toList=[.int .i64 n.F,.int .i64 n.K,.int .i64 n.L,.int .i64 n.S]++(zs n.B++[v]):=rfl
   rw[this,←List.drop_drop,List.drop_left' (by rfl),List.drop_left' (by rw[zs_len,zs_len,hn,hl])]
  rw[hd]
  rfl
 rw[e]
 exact setRow_blk hb
theorem store_E {w:World} {g T:Nat} {n:Ino} {v u:Value} {E:List (ByteArray×Int)} (hb:Blk w g (inoC n v) T) (hn:n.B.length=13):Blk (w.setCell ⟨g,17,none⟩ u) g (inoC { n with E:=E } u) T:=by
 have :=hb.set 17 u
 have e:(inoC n v).setIfInBounds 17 u=inoC { n with E:=E } u:=by
  have h1:inoC n v=(([.int .i64 n.F,.int .i64 n.K,.int .i64 n.L,.int .i64 n.S]:List Value)++(zs n.B++[v])).toArray:=rfl
  rw[h1,List.setIfInBounds_toArray,List.set_append_right _ _ (by simp),List.set_append_right _ _ (by rw[zs_len,hn];simp),zs_len,hn]
  rfl
 rw[e] at this
 exact this
theorem zs_nat {l:List Int} (h:∀k,0≤l.getD k 0):i64s (l.map Int.toNat)=zs l:=by
 apply List.ext_getElem (by simp[i64s,zs])
 intro j h1 h2
 have hj:j<l.length:=by simpa[zs] using h2
 have :=h j
 rw[List.getD_eq_getElem?_getD,List.getElem?_eq_getElem hj,Option.getD_some] at this
 simp[i64s,zs]
 omega
set_option maxHeartbeats 1000000 in
theorem paTake_less {w:World} {b gp:Nat} {B:List Int} {ps:List (Int×Int)} (h:ShAt w b gp B ps) (h64:In64 (putAll B ps)) (n:Nat) (hn:(freeL (putAll B ps)).length<n):
  Calls Tryz.prog 77 #[.pointer (some ⟨b,0,none⟩),.int .i64 (n:Int)] w λe w'=>e= .returned (.tuple #[.slice none 0 0,.int .i64 7])∧w=w':=by
 have HF:=Lib.hid (paFree_at h h64)
 generalize (freeL (putAll B ps)).length=f at *
 have h0:¬(n:Int)<0:=by omega
 have h1:(f:Int)<(n:Int):=by omega
 clear h h64
 go_enter Tryz.func77,Tryz.ntmps77
 go_wp2_with fail
 refine HF.out.mono ?_;rintro e w' ⟨rfl,rfl⟩
 go_wp2_with fail
 go_ret2
 exact⟨rfl,rfl⟩
def TakePost (w:World) (b gp:Nat) (B:List Int) (ps:List (Int×Int)) (l:List Nat) (e:Ending) (w':World):Prop:=
 ∃v g,e= .returned (.tuple #[v,.int .i64 0])∧Reads w' v g (i64s l)∧w.heap.size≤g∧g<w'.heap.size∧(∃gp',(gp'=gp∨(w.heap.size≤gp'∧gp'<w'.heap.size))∧gp'≠g∧ShAt w' b gp' B (ps++takePs (putAll B ps) l)∧Keeps [b,gp] w w')
theorem takePs_take_succ (X:List Int) (l:List Nat) (k:Nat) (hk:k<l.length):takePs X (l.take (k+1))=takePs X (l.take k)++(setPs (putAll X (takePs X (l.take k))) (l.getD k 0) true++emptyPs (l.getD k 0)):=by
 rw[List.take_succ_eq_append_getElem hk,takePs_snoc]
 simp[List.getD_eq_getElem?_getD,hk]
set_option maxRecDepth 100000 in
set_option maxHeartbeats 4000000 in
theorem paTake_ok {w:World} {b gp:Nat} {B:List Int} {ps:List (Int×Int)} (h:ShAt w b gp B ps) (h64:In64 (putAll B ps)) (hT:TabAt w) (hgp:gp<w.heap.size) (hps:ps.length≤900000) (n:Nat) (hn:n≤(freeL (putAll B ps)).length):
  Calls Tryz.prog 77 #[.pointer (some ⟨b,0,none⟩),.int .i64 (n:Int)] w (TakePost w b gp B ps ((freeL (putAll B ps)).take n)):=by
 have HF:=Lib.hid (paFree_at h h64)
 have hfl:=freeL_len (putAll B ps)
 have HFF:=Lib.hid (paFirstFree_at h h64 hT n (by omega))
 have HIN:Hid (∀c∈(freeL (putAll B ps)).take n,c≠0∧c<256):=λc hc=>by
  have :=freeTo_mem.1 (List.mem_of_mem_take hc)
  exact⟨this.2.1,this.1⟩
 have HLEN:Hid (((freeL (putAll B ps)).take n).length=n):=by show _=_;rw[List.length_take,Nat.min_eq_left hn]
 have HS:=Lib.hid h
 have H64:=Lib.hid h64
 have HLX:Hid ((putAll B ps).length=3128):=h.raw.lx
 have hbl:=h.raw.lt
 have HPS:=Lib.hid hps
 generalize (freeL (putAll B ps)).take n=l at *
 generalize (freeL (putAll B ps)).length=f at *
 clear h h64 hT hps
 have h0:¬(n:Int)<0:=by omega
 have h1:¬(f:Int)<(n:Int):=by omega
 go_enter Tryz.func77,Tryz.ntmps77
 go_wp2_with fail
 refine HF.out.mono ?_;rintro e w' ⟨rfl,rfl⟩
 go_wp2_with fail
 refine HFF.out.mono ?_;rintro e w1 ⟨v,g,rfl,hr,hg1,hg2,hk1⟩
 clear HF HFF h1 h0
 have hrv:=hr
 obtain⟨a,cap,rfl,q1,q2,-⟩:=hrv
 rw[i64s_len,HLEN.out] at hr ⊢
 rw[i64s_len,HLEN.out] at q1
 have HR:=Lib.hid hr
 have HK1:=Lib.hid hk1
 have hz:=hk1.size
 clear hr hk1
 unfold maxLen at q2
 go_wp2_with fail
 go_loopg [20] n (λgh s20 wx=>∃k:Nat,k+gh=n∧s20= .int .i64 (k:Int)∧Hid (Onto w1 b gp B (ps++takePs (putAll B ps) (l.take k)) wx))
 case atStart=>exact⟨0,by omega,rfl,by show Onto _ _ _ _ _ _;rw[List.take_zero,show takePs (putAll B ps) []=[] from rfl,List.append_nil];exact Onto.refl (HS.out.keep HK1.out (by simp) (by simp))⟩
 case round=>
  obtain⟨k,hk,rfl,HQ⟩:=hrel
  have hgne:∀x,x∈[b,gp]→g≠x:=by
   intro x hx
   simp only[List.mem_cons,List.not_mem_nil,or_false] at hx
   omega
  obtain⟨gp1,p1,p2,p3⟩:=HQ.out
  have HR1:=Lib.hid (HR.out.keep p3 (λhm=>hgne g hm rfl))
  have hz1:=p3.size
  cases gk with
  |zero=>
   obtain rfl:k=n:=by omega
   have HM:Hid (TakePost w b gp B ps l (.returned (.tuple #[.slice a k cap,.int .i64 0])) wr):=by
    rw[List.take_of_length_le (by rw[HLEN.out];omega)] at p2
    exact⟨_,g,rfl,HR1.out,hg1,by omega,gp1,by omega,by omega,p2,(HK1.out.mono (by simp)).trans p3 λx hx=> .inl hx⟩
   have hlt:¬(k:Int)<(k:Int):=by omega
   clear p1 p2 p3 hgne hk
   go_wp2_with fail
   go_ret2
   exact HM.out
  |succ gg=>
   have hkn:k<n:=by omega
   have hlt:(k:Int)<(n:Int):=by omega
   have hk0:(0:Int)≤(k:Int):=by omega
   have hkl:k<l.length:=by rw[HLEN.out];exact hkn
   have hc:=HIN.out (l.getD k 0) (by rw[List.getD_eq_getElem?_getD,List.getElem?_eq_getElem hkl];exact List.getElem_mem _)
   have hst:=takePs_state (l.take k) (putAll B ps) H64.out HLX.out λc hc=>HIN.out c (List.mem_of_mem_take hc)
   have hpl:=takePs_len (l.take k) (putAll B ps) λc hc=>HIN.out c (List.mem_of_mem_take hc)
   have hll:(l.take k).length≤255:=by rw[List.length_take];omega
   have HTS:=Lib.hid (takePs_take_succ (putAll B ps) l k hkl)
   obtain⟨a',cap',hv',r1,r2,r3⟩:=HR1.out
   cases hv'
   obtain⟨hg3,off,rfl,r4⟩:=r3 (by intro e;have :=congrArg List.length e;rw[i64s_len,List.length_nil] at this;omega)
   have hcell:=(r4 k (by rw[i64s_len];exact hkl)).trans (i64s_get hkl)
   generalize l.getD k 0=c at *
   have HSET:Hid (Calls Tryz.prog 20 #[.pointer (some ⟨b,0,none⟩),.int .i64 (c:Int),.bool true] wr (PutPost wr b gp1 B ((ps++takePs (putAll B ps) (l.take k))++setPs (putAll (putAll B ps) (takePs (putAll B ps) (l.take k))) c true))):=by
    have :=paSet_at p2 (by rw[putAll_append];exact hst.1) (by rw[List.length_append,hpl];have :=HPS.out;omega) (c:Int) true
    rw[putAll_append,Int.toNat_natCast] at this
    exact this
   have HEM:∀(w':World) (gp':Nat),ShAt w' b gp' B ((ps++takePs (putAll B ps) (l.take k))++setPs (putAll (putAll B ps) (takePs (putAll B ps) (l.take k))) c true)→Hid (Calls Tryz.prog 96 #[.pointer (some ⟨b,0,none⟩),.int .i64 (c:Int)] w' (PutPost w' b gp' B (ps++takePs (putAll B ps) (l.take (k+1))))):=by
    intro w' gp' hsh
    have :=paEmpty_at hsh (by rw[List.length_append,List.length_append,hpl,setPs_len _ c hc.1 hc.2];have :=HPS.out;omega) c hc.2
    rw[HTS.out]
    show Calls _ _ _ _ _
    simpa only[List.append_assoc] using this
   have P1:=Lib.hid p1
   have P3:=Lib.hid p3
   have HEMH:=Lib.hid HEM
   clear p1 p2 p3 hgne hc hst hpl hll r1 r2 r3 r4 hkl HR1 HQ HEM
   go_wp2_with fail
   refine HSET.out.mono ?_;rintro e w2 ⟨rfl,gp2,s1,s2,s3⟩
   have HE:=(HEMH.out w2 gp2 s2)
   have S1:=Lib.hid s1
   have S3:=Lib.hid s3
   clear s1 s2 s3 HEMH HSET
   go_wp2_with fail
   refine HE.out.mono ?_;rintro e w3 ⟨rfl,t1⟩
   have HO:Hid (Onto w1 b gp B (ps++takePs (putAll B ps) (l.take (k+1))) w3):=Onto.trans P1.out P3.out (Onto.trans S1.out S3.out t1)
   clear t1
   go_wp2_with fail
   go_roundg gg
   case measure=>omega
   case rel=>exact⟨k+1,by omega,by go_num,HO⟩
def inodeN (i:Int):Int:=if i<0∨32≤i then -1 else 824+i*8
set_option maxHeartbeats 400000 in
theorem txInode_at (i:Int) (w:World):Calls Tryz.prog 28 #[.int .i64 i] w λe w'=>e= .returned (.int .i64 (inodeN i))∧w=w':=by
 rcases (show i<0∨32≤i∨(0≤i∧i<32) by omega) with h|h|⟨h1,h2⟩
 ·rw[inodeN,if_pos (.inl h)]
  go_enter Tryz.func28,Tryz.ntmps28
  go_wp2
  go_ret
  exact⟨rfl,rfl⟩
 ·rw[inodeN,if_pos (.inr h)]
  have h0:¬i<0:=by omega
  go_enter Tryz.func28,Tryz.ntmps28
  go_wp2
  go_ret
  exact⟨rfl,rfl⟩
 ·rw[inodeN,if_neg (by omega)]
  go_enter Tryz.func28,Tryz.ntmps28
  go_wp2
  go_ret
  exact⟨rfl,rfl⟩
def laidL (n:Ino) (own:List Nat):List Int:=(own.take (blocksN n.E.length)).map (λx:Nat=>(x:Int))++n.B.drop (blocksN n.E.length)
def listI (n:Ino) (own:List Nat):Nat:=if blocksN n.E.length<own.length then own.getD (blocksN n.E.length) 0 else 0
def entPs (E:List (ByteArray×Int)) (l:List Int) (k:Nat):List (Int×Int):=(List.range k).flatMap λj=>rowPs (1080+8*(l.getD j 0).toNat) (entRow E j) 8
def listPs (n:Ino) (own:List Nat):List (Int×Int):=if blocksN n.E.length<own.length then rowPs (1080+8*listI n own) ((laidL n own).drop 5) 8 else []
def rowsPs (i:Nat) (n:Ino) (own:List Nat):List (Int×Int):=
 entPs n.E (laidL n own) (blocksN n.E.length)++(listPs n own++rowPs (824+8*i) (inoRow n (laidL n own) (listI n own)) 8)
def layPs (X:List Int) (i:Nat) (n:Ino) (own:List Nat):List (Int×Int):=takePs X own++rowsPs i n own
theorem entPs_succ (E:List (ByteArray×Int)) (l:List Int) (k:Nat):entPs E l (k+1)=entPs E l k++rowPs (1080+8*(l.getD k 0).toNat) (entRow E k) 8:=by
 unfold entPs
 rw[List.range_succ,List.flatMap_append]
 simp
theorem entPs_len (E:List (ByteArray×Int)) (l:List Int) (k:Nat):(entPs E l k).length=8*k:=by
 induction k with
 |zero=>rfl
 |succ k ih=>rw[entPs_succ,List.length_append,ih,rowPs_len];omega
theorem zs_i64s (l:List Nat):zs (l.map λx:Nat=>(x:Int))=i64s l:=by simp[zs,i64s,Function.comp_def]
theorem blocks_le {n:Ino} (h:RightP n):n.E.length≤24∧blocksN n.E.length≤6∧(n.E.length≠0→n.K=2∧DirP n):=by
 have :n.E.length≤24∧(n.E.length≠0→n.K=2∧DirP n):=by
  rcases h.2.2 with h|h
  ·have :=h.2.2.1
   exact⟨by omega,λh=>absurd this h⟩
  ·exact⟨h.2.1,λ_=>h⟩
 refine⟨this.1,?_,this.2⟩
 unfold blocksN
 omega
theorem tagOk_right {n:Ino} (h:RightP n):TagOk n:=by
 obtain⟨hF,hL,hK⟩:=h
 refine⟨by omega,?_,by omega,?_⟩
 ·rcases hK with hK|hK
  ·have :=hK.1;omega
  ·have :=hK.1;omega
 ·rcases hK with hK|hK
  ·have :=hK.2.1;omega
  ·have :=hK.2.2.1;have :=hK.2.1;omega
theorem entOk_right {n:Ino} (h:RightP n) (hN:∀k,k<n.E.length→(enm n.E k).size≤9223372036854775807):EntOk n.E:=by
 have hb:=blocks_le h
 refine⟨by omega,hN,λk hk=> ?_⟩
 have :=((hb.2.2 (by omega)).2.2.2.2 k hk).2.1
 omega
theorem right_len {n:Ino} (h:RightP n) (hB:n.B.length=13):∀k,0≤n.B.getD k 0∧n.B.getD k 0<256:=by
 intro k
 by_cases hk:k<13
 ·rcases h.2.2 with h|h
  ·exact(h.2.2.2.2 k hk).1
  ·rw[h.2.2.2.1,List.getD_eq_getElem?_getD,List.getElem?_replicate]
   split<;>simp
 ·rw[List.getD_eq_getElem?_getD,List.getElem?_eq_none (by omega)]
  simp
theorem laidL_len {n:Ino} {own:List Nat} (hB:n.B.length=13) (hc:blocksN n.E.length≤13) (ho:blocksN n.E.length≤own.length):(laidL n own).length=13:=by
 simp[laidL,hB];omega
theorem laidL_get {n:Ino} {own:List Nat} (ho:blocksN n.E.length≤own.length) (k:Nat):(laidL n own).getD k 0=if k<blocksN n.E.length then ((own.getD k 0:Nat):Int) else n.B.getD k 0:=by
 unfold laidL
 simp only[List.getD_eq_getElem?_getD,List.getElem?_append,List.length_map,List.length_take,Nat.min_eq_left ho,List.getElem?_map,List.getElem?_take,List.getElem?_drop]
 by_cases h:k<blocksN n.E.length
 ·rw[if_pos h,if_pos h,if_pos h,List.getElem?_eq_getElem (by omega)]
  rfl
 ·rw[if_neg h,if_neg h,show blocksN n.E.length+(k-blocksN n.E.length)=k by omega]
theorem laidL_256 {n:Ino} {own:List Nat} (h:RightP n) (hB:n.B.length=13) (ho:blocksN n.E.length≤own.length) (h2:∀c∈own,c≠0∧c<256):∀k,0≤(laidL n own).getD k 0∧(laidL n own).getD k 0<256:=by
 intro k
 rw[laidL_get ho]
 split
 ·rename_i hk
  have :=h2 (own.getD k 0) (by rw[List.getD_eq_getElem?_getD,List.getElem?_eq_getElem (by omega)];exact List.getElem_mem _)
  omega
 ·exact right_len h hB k
theorem copy_ints {w:World} {b T n cap gs m mc oc:Nat} {a:Option Addr} {dl:List Int} {own:List Nat} (hb:Blk w b (zs dl).toArray T) (hs:Reads w (.slice a own.length oc) gs (i64s own)) (hm:m≤n) (hfit:m≤dl.length) (hsl:m≤own.length):
  ∃v w',(∀ty,(Builtin.copy_ #[40,40] ty #[.slice (some ⟨b,0,none⟩) n cap,.slice a m mc]).run Tryz.prog w= .ok v w')∧Blk w' b (zs ((own.take m).map (λx:Nat=>(x:Int))++dl.drop m)).toArray T∧Keeps [b] w w':=by
 by_cases h0:m=0
 ·subst h0
  refine⟨_,w,λty=>run_copy_none (P:= Tryz.prog) w 40 40 ty 3 (some ⟨b,0,none⟩) a n cap 0 mc Tryz.underlying40 size_int1 (by simp),?_,Keeps.refl _ _⟩
  simpa using hb
 ·obtain⟨a',cap',hv,r1,r2,r3⟩:=hs
  obtain⟨rfl,rfl⟩:a=a'∧oc=cap':=by injection hv with h1 h2 h3;exact⟨h1,h3⟩
  obtain⟨hg,off,rfl,r4⟩:=r3 (by intro e;have :=congrArg List.length e;rw[i64s_len,List.length_nil] at this;omega)
  have hl:(i64s (own.take m)).length=min m n:=by rw[i64s_len,List.length_take];omega
  refine⟨_,_,λty=>run_copy_row (P:= Tryz.prog) w 40 40 ty 3 b 0 n cap ⟨gs,off,none⟩ m mc (zs dl).toArray T (i64s (own.take m)) Tryz.underlying40 size_int1 hb hl ?_ ?_ ?_,?_,(Keeps.refl _ _).setRow (by simp) _⟩
  ·intro j u hu
   have hj:j<m:=by
    have :=(List.getElem?_eq_some_iff.1 hu).1
    rw[hl] at this
    omega
   rw[i64s_get (by rw[List.length_take];omega)] at hu
   rw[add_plain,r4 j (by rw[i64s_len];omega),i64s_get (by omega),←hu]
   simp[List.getD_eq_getElem?_getD,hj]
  ·rw[hl,List.size_toArray,zs_len];omega
  ·intro u hu
   rw[←zs_i64s] at hu
   exact zs_one _ u hu
  ·have e:((zs dl).toArray.toList.take 0++i64s (own.take m)++(zs dl).toArray.toList.drop (0+(i64s (own.take m)).length)).toArray=(zs ((own.take m).map (λx:Nat=>(x:Int))++dl.drop m)).toArray:=by
    rw[hl,Nat.min_eq_left hm,zs_append,zs_i64s]
    simp[zs,List.map_drop]
   rw[e]
   exact setRow_blk hb
theorem slice_upto (a:Option Addr) (n cap c:Nat) (hc:c≤cap) (w:World):
  (Instr.sliceAt 40 (.slice a n cap) none (some (.int .i64 (c:Int))) none).run Tryz.prog w= .ok (.slice a c cap) w:=by
 have hu: Tryz.prog.underlying 40 =some (.slice (Tryz.prog.elem 40)):=by kernel_rfl
 have he: Tryz.prog.elem 40 = 3 :=by kernel_rfl
 have hs:(sizeOf 3).run Tryz.prog w= .ok 1 w:=by kernel_rfl
 rw[run_sliceAt_slice _ _ _ _ _ _ hu,run_slice_h _ _ _ _ _ hu .i64 (c:Int) (by omega) (by omega),he,hs]
 cases a with
 |none=>simp[sliced]
 |some x=>cases x;simp[sliced,Addr.add]
theorem slice_l13 (b:Nat) (w:World):(Instr.sliceAt 34 (.pointer (some ⟨b,0,none⟩)) none none none).run Tryz.prog w= .ok (.slice (some ⟨b,0,none⟩) 13 13) w:=by show Sem.run _ _ _=_;kernel_rfl
theorem load_B {w:World} {g T:Nat} {n:Ino} {v:Value} (hb:Blk w g (inoC n v) T) (hn:n.B.length=13):(loadVar 34 ⟨g,4,none⟩).run Tryz.prog w= .ok (.agg (zs n.B).toArray) w:=
 load_n13 hb hn λ_ hk=>inoC_B v (by omega)
end Go.Proofs.YtphojondgfjmgaaGreatDoor
