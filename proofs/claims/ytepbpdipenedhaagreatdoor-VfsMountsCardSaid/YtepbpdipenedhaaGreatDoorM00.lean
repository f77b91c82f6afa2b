/- Lemmas. -/
import Derived.WalkKit
import Derived.WalkSpells
import Derived.Deep.QuietTactic
import Derived.Lib.Hide
import Derived.ProofKit
import Derived.OpenShut
import Derived.Deep.Slices
import Derived.Laws.BitsAllLaws
import Derived.WalkLawsBesides
import Derived.Laws.AppendOwn
import Derived.Test.YtepbpdipenedhaaGreatDoorRows
import Derived.BigQuiet
set_option maxHeartbeats 400000
namespace Go.Proofs.YtepbpdipenedhaaGreatDoor
open Go.Proofs.Tryz
section
open Go.RowKit
variable{α:Type}{T b g gf gl gn i j n sz z:Nat}{l l':List Nat}{a w w':World}{c:Array Value}{row:Option Nat}{v:Value}{xs:List Value}{ps:List (Int×Int)}
theorem ag{α:Type _}(l:List α)(i:Nat)(a:α):l.toArray.setIfInBounds i a=(l.set i a).toArray:=List.setIfInBounds_toArray l i a
theorem ah{α:Type _}(x:α)(l:List α)(a:α):(x::l).set 0 a=a::l:=rfl
theorem ai{α:Type _}(x:α)(l:List α)(n:Nat)(a:α):(x::l).set (n+1) a=x::l.set n a:=rfl
theorem aj{α:Type _}{l:List α}{a:α}:l.getD i a=l[i]?.getD a:=List.getD_eq_getElem?_getD
theorem ar{p:Prop}(h:p):Hid p:=Lib.hid h
theorem C'{P:Program}{f:Nat}{a:Array Value}{w x:World}{v:Ending}{Q:Ending->World->Prop}(h:Calls P f a w λe y=>e=v/\x=y)(k:Q v x):Calls P f a w Q:=h.mono λe y h=>by obtain⟨rfl,rfl⟩:=h;exact k
theorem Rr{P:Program}{f:Nat}{a:Array Value}{w:World}{v:Ending}{R:World->Prop}{Q:Ending->World->Prop}(h:Calls P f a w λe y=>e=v/\R y)(k:∀y,R y->Q v y):Calls P f a w Q:=h.mono λe y h=>by obtain⟨rfl,z⟩:=h;exact k y z
theorem hh2{A B:Prop}(a:A)(b:B):Hid A/\Hid B:=⟨a,b⟩
theorem hh3{A B C:Prop}(a:A)(b:B)(c:C):Hid A/\Hid B/\Hid C:=⟨a,b,c⟩
theorem hh4{A B C D:Prop}(a:A)(b:B)(c:C)(d:D):Hid A/\Hid B/\Hid C/\Hid D:=⟨a,b,c,d⟩
theorem hh5{A B C D E:Prop}(a:A)(b:B)(c:C)(d:D)(e:E):Hid A/\Hid B/\Hid C/\Hid D/\Hid E:=⟨a,b,c,d,e⟩
theorem hh6{A B C D E F:Prop}(a:A)(b:B)(c:C)(d:D)(e:E)(f:F):Hid A/\Hid B/\Hid C/\Hid D/\Hid E/\Hid F:=⟨a,b,c,d,e,f⟩
theorem hh7{A B C D E F G:Prop}(a:A)(b:B)(c:C)(d:D)(e:E)(f:F)(g:G):Hid A/\Hid B/\Hid C/\Hid D/\Hid E/\Hid F/\Hid G:=⟨a,b,c,d,e,f,g⟩
instance:Coe Nat Value:=⟨λb=>.pointer (some ⟨b,0,none⟩)⟩
instance:Coe Int Value:=⟨.int .i64⟩
instance:Coe Bool Value:=⟨.bool⟩
instance:Coe Unit Value:=⟨λ_=>.slice none 0 0⟩
instance:Coe (Array Value) Value:=⟨.agg⟩
instance:Coe Value Ending:=⟨.returned⟩
instance:Coe Nat (Option Addr):=⟨λb=>some ⟨b,0,none⟩⟩
instance:Coe Nat Addr:=⟨λb=>⟨b,0,none⟩⟩
theorem aH:type_of% @Nat.le_refl:=@Nat.le_refl
theorem cE:type_of% @Nat.le_trans:=@Nat.le_trans
theorem bS:type_of% @Nat.lt_of_lt_of_le:=@Nat.lt_of_lt_of_le
theorem jL:type_of% @Go.RowKit.Below.heap_alloc:=@Go.RowKit.Below.heap_alloc
theorem au.{u}:type_of% @List.mem_singleton.{u}:=@List.mem_singleton.{u}
theorem aO:type_of% @Go.World.cell?_of_block:=@Go.World.cell?_of_block
theorem bU.{u}:type_of% @List.getElem?_take.{u}:=@List.getElem?_take.{u}
theorem aB.{u}{c:Prop}{i:Decidable c}(h:c:=by omega){t:Sort u}{x y:t}:@ite t c i x y=x:=if_pos h
theorem bo.{u}:type_of% @List.eq_nil_of_length_eq_zero.{u}:=@List.eq_nil_of_length_eq_zero.{u}
theorem dG.{u}:type_of% @Array.getElem?_toList.{u}:=@Array.getElem?_toList.{u}
theorem dA:type_of% @Go.run_underlying:=@Go.run_underlying
theorem dL.{u}:type_of% @Array.length_toList.{u}:=@Array.length_toList.{u}
theorem dB:type_of% @Nat.add_zero:=@Nat.add_zero
theorem ez.{u}:type_of% @List.take_zero.{u}:=@List.take_zero.{u}
theorem bQ.{u}:type_of% @List.nil_append.{u}:=@List.nil_append.{u}
theorem bc:type_of% @Nat.zero_add:=@Nat.zero_add
theorem bN.{u}:type_of% @List.size_toArray.{u}:=@List.size_toArray.{u}
theorem aC.{u}:type_of% @List.length_append.{u}:=@List.length_append.{u}
theorem bM.{u}:type_of% @List.length_drop.{u}:=@List.length_drop.{u}
theorem cD.{u}:type_of% @List.ext_getElem?.{u}:=@List.ext_getElem?.{u}
theorem eT.{u}:type_of% @List.getElem?_set.{u}:=@List.getElem?_set.{u}
theorem iz:type_of% @Nat.mod_lt:=@Nat.mod_lt
theorem bF.{u,v}:type_of% @List.mem_map.{u,v}:=@List.mem_map.{u,v}
theorem ia.{u}:type_of% @List.cons_append.{u}:=@List.cons_append.{u}
theorem cr.{u}:type_of% @List.length_cons.{u}:=@List.length_cons.{u}
theorem je.{u}:type_of% @List.mem_cons_of_mem.{u}:=@List.mem_cons_of_mem.{u}
theorem jX.{u}:type_of% @List.mem_cons_self.{u}:=@List.mem_cons_self.{u}
theorem bP.{u}:type_of% @List.take_succ_eq_append_getElem.{u}:=@List.take_succ_eq_append_getElem.{u}
theorem aJ.{u}:type_of% @List.length_take.{u}:=@List.length_take.{u}
theorem cQ:type_of% @Nat.min_eq_left:=@Nat.min_eq_left
theorem bO.{u}:type_of% @List.mem_of_mem_take.{u}:=@List.mem_of_mem_take.{u}
theorem aT.{u}:type_of% @List.mem_append.{u}:=@List.mem_append.{u}
theorem bE.{u}:type_of% @List.length_replicate.{u}:=@List.length_replicate.{u}
theorem aP.{u}:type_of% @List.getElem?_eq_none.{u}:=@List.getElem?_eq_none.{u}
theorem aR.{u}:type_of% @List.getElem?_append_right.{u}:=@List.getElem?_append_right.{u}
theorem aV.{u}:type_of% @List.append_assoc.{u}:=@List.append_assoc.{u}
theorem bG.{u}:type_of% @List.getElem_mem.{u}:=@List.getElem_mem.{u}
theorem aA.{u}{c:Prop}{i:Decidable c}(h:Not c:=by omega){t:Sort u}{x y:t}:@ite t c i x y=y:=if_neg h
theorem jf.{u}:type_of% @List.set_eq_of_length_le.{u}:=@List.set_eq_of_length_le.{u}
theorem eP.{u}:type_of% @List.all_eq_true.{u}:=@List.all_eq_true.{u}
theorem dC.{u}:type_of% @List.getElem?_cons_succ.{u}:=@List.getElem?_cons_succ.{u}
theorem aL.{u}:type_of% @List.mem_cons.{u}:=@List.mem_cons.{u}
theorem aK.{u}:type_of% @List.not_mem_nil.{u}:=@List.not_mem_nil.{u}
theorem bC:type_of% @or_false:=@or_false
theorem bY.{u}:type_of% @List.getElem_of_mem.{u}:=@List.getElem_of_mem.{u}
theorem bW:type_of% @List.mem_range:=@List.mem_range
theorem jv.{u,v}:type_of% @List.map_take.{u,v}:=@List.map_take.{u,v}
theorem cN.{u,v}:type_of% @congrArg.{u,v}:=@congrArg.{u,v}
theorem cC.{u}:type_of% @List.length_nil.{u}:=@List.length_nil.{u}
theorem bJ.{u,v}:type_of% @List.getElem?_map.{u,v}:=@List.getElem?_map.{u,v}
theorem cB:type_of% @List.getElem?_range:=@List.getElem?_range
theorem bj.{u}:type_of% @List.getElem?_replicate.{u}:=@List.getElem?_replicate.{u}
theorem dH.{u}:type_of% @List.set_append_right.{u}:=@List.set_append_right.{u}
theorem jg:type_of% @Nat.sub_self:=@Nat.sub_self
theorem dc:type_of% @Go.info_parts:=@Go.info_parts
theorem aG:type_of% @Int.toNat_natCast:=@Int.toNat_natCast
theorem iK:type_of% @Nat.mul_one:=@Nat.mul_one
theorem cy:type_of% @Int.eq_ofNat_of_zero_le:=@Int.eq_ofNat_of_zero_le
theorem cY.{u}:type_of% @Ne.symm.{u}:=@Ne.symm.{u}
theorem fX.{u,v}:type_of% @List.getElem?_mapIdx.{u,v}:=@List.getElem?_mapIdx.{u,v}
theorem fT.{u,v}:type_of% @Option.map_some.{u,v}:=@Option.map_some.{u,v}
theorem aW.{u}:type_of% @List.take_of_length_le.{u}:=@List.take_of_length_le.{u}
theorem dx.{u}:type_of% @List.drop_of_length_le.{u}:=@List.drop_of_length_le.{u}
theorem iA.{u}:type_of% @List.getElem?_append.{u}:=@List.getElem?_append.{u}
theorem b8.{u}:type_of% @List.getElem?_drop.{u}:=@List.getElem?_drop.{u}
theorem jY.{u,v}:type_of% @List.map_replicate.{u,v}:=@List.map_replicate.{u,v}
theorem ck:type_of% @Go.Sem.run_bind:=@Go.Sem.run_bind
theorem fO:type_of% @Go.Sem.run_pure:=@Go.Sem.run_pure
theorem cL:type_of% @Go.Result.andThen_ok:=@Go.Result.andThen_ok
theorem aD.{u}:type_of% @List.getElem?_eq_getElem.{u}:=@List.getElem?_eq_getElem.{u}
theorem fC:type_of% @Nat.zero_le:=@Nat.zero_le
theorem eU:type_of% @Go.wpList_append_own:=@Go.wpList_append_own
theorem ka.{u}:type_of% @List.length_singleton.{u}:=@List.length_singleton.{u}
theorem dU:type_of% @List.range_succ:=@List.range_succ
theorem eu.{u,v}:type_of% @List.map_append.{u,v}:=@List.map_append.{u,v}
theorem dM.{u,v}:type_of% @List.map_congr_left.{u,v}:=@List.map_congr_left.{u,v}
theorem fH.{u}:type_of% @List.take_append_of_le_length.{u}:=@List.take_append_of_le_length.{u}
theorem eJ.{u}:type_of% @List.filter_append.{u}:=@List.filter_append.{u}
theorem fD.{u}:type_of% @List.filter_cons.{u}:=@List.filter_cons.{u}
theorem bZ.{u,v}:type_of% @List.length_map.{u,v}:=@List.length_map.{u,v}
theorem fQ.{u}:type_of% @List.length_filter_le.{u}:=@List.length_filter_le.{u}
theorem aF.{u}:type_of% @List.getElem?_toArray.{u}:=@List.getElem?_toArray.{u}
theorem ba.{u}:type_of% @List.getElem?_append_left.{u}:=@List.getElem?_append_left.{u}
theorem dD:type_of% @Nat.add_sub_cancel_left:=@Nat.add_sub_cancel_left
theorem cX.{u}:type_of% @List.length_set.{u}:=@List.length_set.{u}
theorem dn.{u}:type_of% @List.take_append_drop.{u}:=@List.take_append_drop.{u}
theorem jZ:type_of% @Nat.lt_of_le_of_lt:=@Nat.lt_of_le_of_lt
theorem kb:type_of% @Nat.testBit_and:=@Nat.testBit_and
theorem iH.{u}:type_of% @List.filter_congr.{u}:=@List.filter_congr.{u}
theorem dV:type_of% @Nat.and_two_pow_sub_one_eq_mod:=@Nat.and_two_pow_sub_one_eq_mod
theorem fK:type_of% @List.length_range:=@List.length_range
theorem jh:type_of% @Nat.pow_le_pow_right:=@Nat.pow_le_pow_right
theorem br.{u}:type_of% @List.append_nil.{u}:=@List.append_nil.{u}
theorem fY:type_of% @Go.IntKind.wrap_u64:=@Go.IntKind.wrap_u64
theorem fR:type_of% @Go.IntWalk.i64_in:=@Go.IntWalk.i64_in
theorem iu:type_of% @Go.u64_and_nat:=@Go.u64_and_nat
theorem cU.{u}:type_of% @List.ext_getElem.{u}:=@List.ext_getElem.{u}
theorem ib:type_of% @Nat.add_sub_cancel:=@Nat.add_sub_cancel
theorem fF.{u}:type_of% @List.drop_eq_getElem_cons.{u}:=@List.drop_eq_getElem_cons.{u}
theorem jk.{u}:type_of% @List.cons.injEq.{u}:=@List.cons.injEq.{u}
theorem aI:type_of% @Go.bodyPost_ret:=@Go.bodyPost_ret
theorem jC:type_of% @Go.ByteArray.toList_eq:=@Go.ByteArray.toList_eq
theorem cP.{u}:type_of% @beq_eq_false_iff_ne.{u}:=@beq_eq_false_iff_ne.{u}
theorem jD.{u}:type_of% @List.drop_replicate.{u}:=@List.drop_replicate.{u}
theorem ic.{u,v}:type_of% @List.getElem_map.{u,v}:=@List.getElem_map.{u,v}
theorem j0:type_of% @List.getElem_range:=@List.getElem_range
theorem aQ:type_of% @decide_eq_false:=@decide_eq_false
theorem bu:type_of% @decide_eq_true:=@decide_eq_true
theorem fg.{u}:type_of% @Array.getD_eq_getD_getElem?.{u}:=@Array.getD_eq_getD_getElem?.{u}
theorem fU.{u}:type_of% @List.getElem?_cons_zero.{u}:=@List.getElem?_cons_zero.{u}
theorem kf:type_of% @Go.Oper.semAt_some:=@Go.Oper.semAt_some
theorem fZ.{u}:type_of% @Array.replicate_succ.{u}:=@Array.replicate_succ.{u}
theorem gi.{u}:type_of% @Array.replicate_zero.{u}:=@Array.replicate_zero.{u}
theorem iI.{u}:type_of% @List.push_toArray.{u}:=@List.push_toArray.{u}
theorem gQ.{u}:type_of% @List.append_toArray.{u}:=@List.append_toArray.{u}
theorem dE:type_of% @Nat.lt_or_ge:=@Nat.lt_or_ge
theorem gj:type_of% @Bool.and_eq_true:=@Bool.and_eq_true
theorem iB.{u}:type_of% @List.getElem_toArray.{u}:=@List.getElem_toArray.{u}
theorem gy.{u}:type_of% @List.take_length.{u}:=@List.take_length.{u}
theorem jM.{u}:type_of% @List.drop_zero.{u}:=@List.drop_zero.{u}
theorem jE.{u}:type_of% @List.drop_succ_cons.{u}:=@List.drop_succ_cons.{u}
theorem dY:type_of% @Nat.eq_zero_or_pos:=@Nat.eq_zero_or_pos
theorem iL:type_of% @Go.wpAny_ready:=@Go.wpAny_ready
theorem eF:type_of% @Go.AllReady.cons:=@Go.AllReady.cons
theorem ig:type_of% @Go.AllReady.nil:=@Go.AllReady.nil
theorem ij.{u}:type_of% @List.getElem?_take_of_lt.{u}:=@List.getElem?_take_of_lt.{u}
theorem gT.{u,v}:type_of% @List.filterMap_cons.{u,v}:=@List.filterMap_cons.{u,v}
theorem eZ.{u}:type_of% @Option.getD_some.{u}:=@Option.getD_some.{u}
theorem df.{u}:type_of% @List.pairwise_iff_getElem.{u}:=@List.pairwise_iff_getElem.{u}
theorem gZ:type_of% @UInt8.lt_iff_toNat_lt:=@UInt8.lt_iff_toNat_lt
theorem jF:type_of% @Int.toNat_of_nonneg:=@Int.toNat_of_nonneg
theorem il.{u}:type_of% @List.eq_of_mem_replicate.{u}:=@List.eq_of_mem_replicate.{u}
theorem gA.{u}:type_of% @List.mem_of_mem_drop.{u}:=@List.mem_of_mem_drop.{u}
theorem fL.{u}:type_of% @List.count_append.{u}:=@List.count_append.{u}
theorem bV.{u}:type_of% @List.mem_append_left.{u}:=@List.mem_append_left.{u}
theorem bX.{u}:type_of% @List.mem_append_right.{u}:=@List.mem_append_right.{u}
theorem jl.{u}:type_of% @List.length_dropLast.{u}:=@List.length_dropLast.{u}
theorem aX:type_of% @Go.World.size_alloc:=@Go.World.size_alloc
theorem cz:type_of% @Go.IntKind.wrap_i64:=@Go.IntKind.wrap_i64
theorem iM.{u}:type_of% @List.getElem_cons_succ.{u}:=@List.getElem_cons_succ.{u}
theorem iN.{u}:type_of% @List.getElem_cons_zero.{u}:=@List.getElem_cons_zero.{u}
theorem iW:type_of% @Go.DataW.trod_int:=@Go.DataW.trod_int
theorem kg.{u}:type_of% @Classical.choose_spec.{u}:=@Classical.choose_spec.{u}
structure ay (l:List Nat) (w w':World):Prop where
 os:w'.os=w.os
 tape:w'.tape=w.tape
 output:w'.output=w.output
 size:w.heap.size<=w'.heap.size
 block:∀k,k<w.heap.size->k∉l->w'.heap[k]? =w.heap[k]?
theorem ay.refl(l:List Nat)(w:World):ay l w w:=⟨rfl,rfl,rfl,aH _,λ_ _ _=>rfl⟩
theorem ay.mono(h:ay l w w')(G:∀k,k∈l->k<w.heap.size->k∈l'):ay l' w w':=
 ⟨h.os,h.tape,h.output,h.size,λk z J=>h.block k z λU=>J (G k U z)⟩
theorem ay.trans{b c:World}(h:ay l a b)(k:ay l' b c)(J:∀x,x∈l'->x∈l\/a.heap.size<=x):ay l a c:=
 ⟨k.os.trans h.os,k.tape.trans h.tape,k.output.trans h.output,cE h.size k.size,λx G z=>
  (k.block x (bS G h.size) λU=>(J x U).elim z λV=>by omega).trans (h.block x G z)⟩
theorem ay.trans'{b c:World}(h:ay l a b)(k:ay l b c):ay l a c:=h.trans k λ_ z=> .inl z
theorem ay.drew(h:ay l a w):ay l a w.drew:=⟨h.os,h.tape,h.output,h.size,h.block⟩
theorem ay.drewN(h:ay l a w)(n:Nat):ay l a (w.drewN n):=⟨h.os,h.tape,h.output,h.size,h.block⟩
theorem ay.alloc(h:ay l a w)(o:Obj):ay l a (w.alloc o):=
 h.trans (l':=[]) ⟨rfl,rfl,rfl,by simp,λk z _=>jL _ _ _ z⟩ (by simp)
theorem ay.setCell(h:ay l a w){p:Addr}(J:p.block∈l\/a.heap.size<=p.block)(u:Value):ay l a (w.setCell p u):=
 h.trans (l':=[p.block]) ⟨rfl,rfl,rfl,by simp[World.setCell],λk _ G=>Below.heap_setCell _ _ _ _ (by simpa using G)⟩ (by
  intro x z;rw[au] at z;subst z;exact J)
theorem ay.below(h:ay l w w'){B:Nat}(U:B<=w.heap.size)(z:∀k,k∈l->B<=k):Below B w w':=
 ⟨h.os,h.tape,h.output,h.size,λk J=>h.block k (by omega) λG=>by have :=z k G;omega⟩
theorem ay.of_grown(h:w.grownBy w' row)(G:∀k,row=some k->k∈l\/w.heap.size<=k):ay l w w':=
 ⟨h.os,h.tape,h.output,h.size,λk z J=>h.block k z λe=>(G k e.symm).elim J λU=>by omega⟩
def bh (w:World) (b:Nat) (c:Array Value) (T:Nat):Prop:=w.heap[b]? =some (.cells c T (0,0))
theorem bh.lt(h:bh w b c T):b<w.heap.size:=(Array.getElem?_eq_some_iff.1 h).1
theorem bh.keep(h:bh w b c T){l:List Nat}(z:ay l w w')(G:b∉l):bh w' b c T:=
 (z.block b h.lt G).trans h
theorem bh.cell(h:bh w b c T)(o:Nat):w.cell? ⟨b,o,none⟩=c[o]? :=by
 unfold bh at h;simp[World.cell?,h]
theorem bh.frozen(h:bh w b c T)(o:Nat):w.frozen? ⟨b,o,none⟩=false:=by
 unfold bh at h;simp[World.frozen?,h]
theorem bh.set(h:bh w b c T)(o:Nat)(v:Value):bh (w.setCell ⟨b,o,none⟩ v) b (c.setIfInBounds o v) T:=by
 unfold bh at *;simp[World.setCell,Array.getElem?_modify,h]
theorem bh.other(h:bh w b c T){a:Addr}(z:b≠a.block)(v:Value):bh (w.setCell a v) b c T:=by
 unfold bh at *;rw[Below.heap_setCell _ _ _ _ z];exact h
theorem bh.alloc(h:bh w b c T)(o:Obj):bh (w.alloc o) b c T:=
 h.keep ((ay.refl [] w).alloc o) (by simp)
theorem bh.new(w:World)(c:Array Value)(T:Nat):bh (w.alloc (.cells c T)) w.heap.size c T:=by
 unfold bh;exact heap_alloc_new w _
theorem bh.drew(h:bh w b c T):bh w.drew b c T:=h
theorem bh.drewN(h:bh w b c T)(n:Nat):bh (w.drewN n) b c T:=h
def Reads (w:World) (v:Value) (g:Nat) (xs:List Value):Prop:=
 ∃a cap,v= .slice a xs.length cap/\xs.length<=cap/\cap<=maxLen/\(xs≠[]->g<w.heap.size/\∃off,a=some ⟨g,off,none⟩/\∀j,j<xs.length->w.cell? ⟨g,off+j,none⟩=xs[j]?)
theorem Reads.keep(h:Reads w v g xs){l:List Nat}(G:ay l w w')(hg:g∉l):Reads w' v g xs:=by
 obtain⟨a,cap,h1,h2,U,V⟩:=h;refine⟨a,cap,h1,h2,U,λhx=> ?_⟩;obtain⟨z,off,W,J⟩:=V hx;refine⟨bS z G.size,off,W,λj hj=> ?_⟩;rw[aO (w:=w) (G.block g z hg)];exact J j hj
def fp (w:World) (v:Value) (g:Nat) (T sz n:Nat) (xs:List Value):Prop:=
 xs.length=n*sz/\∃a cap,v= .slice a n cap/\n<=cap/\cap<=maxLen/\(n≠0->a=some ⟨g,0,none⟩/\∃c:Array Value,bh w g c T/\c.size=cap*sz/\c.toList.take (n*sz)=xs)
theorem fp.keep(h:fp w v g T sz n xs){l:List Nat}(z:ay l w w')(hg:g∉l):fp w' v g T sz n xs:=by
 obtain⟨J,a,cap,h1,h2,U,V⟩:=h;refine⟨J,a,cap,h1,h2,U,λhx=> ?_⟩;obtain⟨W,c,G,h7⟩:=V hx;exact⟨W,c,G.keep z hg,h7⟩
theorem fp.keepIf(h:fp w v g T sz n xs){l:List Nat}(G:ay l w w')(hg:n≠0->g∉l):fp w' v g T sz n xs:=by
 obtain⟨U,a,cap,h1,h2,V,W⟩:=h;refine⟨U,a,cap,h1,h2,V,λz=> ?_⟩;obtain⟨h5,c,J,h7⟩:=W z;exact⟨h5,c,J.keep G (hg z),h7⟩
theorem fp.len(h:fp w v g T sz n xs):xs.length=n*sz:=h.1
theorem uO{c:List α}{m:Nat}{xs:List α}(h:c.take m=xs){j:Nat}(z:j<m):c[j]? =xs[j]? :=by
 rw[<-h,bU,aB z]
theorem fp.reads(h:fp w v g T 1 n xs):Reads w v g xs:=by
 obtain⟨h0,a,cap,h1,h2,J,V⟩:=h;have U:xs.length=n:=by omega
 refine⟨a,cap,by rw[U];exact h1,by omega,J,λhx=> ?_⟩;have :n≠0:=λe=>hx (bo (by omega))
 obtain⟨W,c,z,h7,G⟩:=V this;refine⟨z.lt,0,W,λj hj=> ?_⟩;rw[z.cell,<-dG];simpa using uO G (j:=j) (by omega)
theorem fp.set(h:fp w v g T sz n xs)(j:Nat)(u:Value):fp (w.setCell ⟨g,j,none⟩ u) v g T sz n (xs.set j u):=by
 obtain⟨J,a,cap,h1,h2,U,V⟩:=h;refine⟨by simpa using J,a,cap,h1,h2,U,λhx=> ?_⟩;obtain⟨W,c,G,h7,z⟩:=V hx;refine⟨W,_,G.set j u,by simpa using h7,?_⟩;rw[Array.toList_setIfInBounds,List.take_set,z]
theorem fp.drew(h:fp w v g T sz n xs):fp w.drew v g T sz n xs:=h
theorem fp.alloc(h:fp w v g T sz n xs)(o:Obj):fp (w.alloc o) v g T sz n xs:=
 h.keep ((ay.refl [] w).alloc o) (by simp)
theorem fp.cell(h:fp w v g T sz n xs)(U:n≠0):g<w.heap.size/\(∃cap,v= .slice g n cap/\n<=cap/\cap<=maxLen)/\(∀j,j<n*sz->w.cell? ⟨g,j,none⟩=xs[j]?)/\∀j,w.frozen? ⟨g,j,none⟩=false:=by
 obtain⟨h0,a,cap,h1,h2,J,V⟩:=h;obtain⟨W,c,z,h7,G⟩:=V U;subst W;refine⟨z.lt,⟨cap,h1,h2,J⟩,λj hj=> ?_,λj=>z.frozen j⟩;rw[z.cell,<-dG];exact uO G hj
theorem fp.val(h:fp w v g T sz n xs):∃a cap,v= .slice a n cap/\n<=cap/\cap<=maxLen:=by
 obtain⟨U,a,cap,J,G,z,V⟩:=h;exact⟨a,cap,J,G,z⟩
theorem fp.nil(w:World)(g T sz:Nat):fp w (.slice none 0 0) g T sz 0 []:=⟨by simp,none,0,rfl,by simp,by simp[maxLen],λh=>absurd rfl h⟩
theorem fp.anyG(h:fp w v g T sz n xs)(J:n=0)(V:Nat):fp w v V T sz n xs:=by
 obtain⟨z,a,cap,W,U,G,h4⟩:=h;exact⟨z,a,cap,W,U,G,λh=>absurd J h⟩
theorem fp.of_row(h:w.ownsRow z T sz v n xs):∃g,fp w v g T sz n xs/\(n≠0->z<=g/\v.ownBlock=some g):=by
 obtain⟨U,h1⟩:=h;rcases h1 with ⟨rfl,rfl⟩|⟨g,cap,G,rfl,hg,J,h2,V,W,h5⟩
 ·obtain rfl:xs=[]:=bo (by omega)
  exact⟨0,fp.nil w 0 T sz,λh=>absurd rfl h⟩
 ·exact⟨g,⟨U,_,cap,rfl,h2,V,λ_=>⟨rfl,G,J,W,h5⟩⟩,λ_=>⟨hg,rfl⟩⟩
theorem ay.setRow(h:ay l a w){g:Nat}(J:g∈l\/a.heap.size<=g)(c:Array Value):ay l a (w.setRow g c):=
 h.trans (l':=[g]) ⟨rfl,rfl,rfl,by simp[World.setRow],λk _ G=>setRow_other w g k _ (by simpa using G)⟩ (by
  intro x z;rw[au] at z;subst z;exact J)
theorem oG (z:Array Value)(n:Nat):(Builtin.zeroCells z n).size=n*z.size:=by simp[Builtin.zeroCells]
theorem Fs{P:Program}{t e ty:Nat}{z:Value}(ht:P.underlying t=some (.slice e))(hz:∀w,(zeroValue e).run P w= .ok z w)
  (V:z.cells.size=sz) (h1:∀u∈(Builtin.zeroCells z.cells n).toList,u.oneCell'=true) (h:fp w v g T sz n xs):
  ∃w',(Builtin.clear_ #[t] ty #[v]).run P w= .ok (.tuple #[]) w'/\fp w' v g T sz n (Builtin.zeroCells z.cells n).toList/\ay [g] w w':=by
 obtain⟨h0,a,cap,rfl,W,h3,h4⟩:=h;by_cases U:n=0
 ·subst U
  refine⟨w,?_,⟨by simp[oG],a,cap,rfl,W,h3,λh=>absurd rfl h⟩,ay.refl _ _⟩;cases a<;>simp[Builtin.clear_,dA ht]
 ·obtain⟨rfl,c,hc,hs,hk⟩:=h4 U
  have G:(Builtin.zeroCells z.cells n).toList.length=n*sz:=by rw[dL,oG,V]
  have aa:n*sz<=c.size:=by rw[hs];exact Nat.mul_le_mul_right _ W
  have J:=run_storeCells_at P g 0 T (Builtin.zeroCells z.cells n).toList 0 c w hc (by rw[G];omega) h1;simp only[dB,ez,bQ,bc] at J;generalize hC:((Builtin.zeroCells z.cells n).toList++List.drop (Builtin.zeroCells z.cells n).toList.length c.toList).toArray=C at J;refine⟨w.setRow g C,?_,⟨G,_,cap,rfl,W,h3,λ_=>⟨rfl,C,setRow_heap w g c _ T _ hc,?_,?_⟩⟩,(ay.refl _ _).setRow (by simp) _⟩
  ·cases n with
   |zero=>exact absurd rfl U
   |succ n=>simp[Builtin.clear_,dA ht,hz,J]
  ·rw[<-hC,bN,aC,bM,G,dL];omega
  ·rw[<-G,<-hC];exact List.take_left
theorem ID (l:List α)(i:Nat)(d:α):l.set i (l.getD i d)=l:=by
 apply cD;intro j;rw[eT];split
 ·rename_i hj
  subst hj;split
  ·rename_i hi;simp[hi]
  ·rename_i hi;simp at hi;simp[hi]
 ·rfl
end
section
open Go.ChangeShapes Go.WideShapes Go.ChangeAt Go.RowKit
variable{α:Type}{T b g gf gl gn i j n sz z:Nat}{l l':List Nat}{a w w':World}{c:Array Value}{row:Option Nat}{v:Value}{xs:List Value}{ps:List (Int×Int)}
section
variable {H:Type} {enc:TypeId×Value->H} {P:Program} {W:World} {base:Nat} {spare:Nat->Bool} {held:Bool}
theorem Fu {a:Addr}{n:Nat}{v:Value}(h:W.cell? (a.add n)=some v)(G:n=0):∃g off,a=⟨g,off,none⟩:=by
 subst G;have :a.add 0=a:=by simp[Addr.add]
 rw[this] at h;obtain⟨g,off,z⟩:=a;have :=World.cell?_spot h;simp at this;subst this;exact⟨g,off,rfl⟩
theorem add_plain(g off n:Nat):(⟨g,off,none⟩:Addr).add n=⟨g,off+n,none⟩:=by unfold Addr.add;split<;>simp_all
theorem Ab {a:Addr}{v:Value}(h:W.cell? a=some v):a.block<W.heap.size:=World.block_lt_of_cell? W a h
theorem yO {t e:TypeId}{fuel sz:Nat}{cs:List Value}{x:DataW H×List MemPlace}(ht:P.underlying t=some (.slice e))(hc:P.cellsOf e=sz)(aa:0<sz)
  (h:DataW.trod enc P W base spare held fuel t cs=some x):
  ∃a len cap,cs=[.slice a len cap]/\len<=cap/\cap<=maxLen/\(len≠0->∃g off,a=some ⟨g,off,none⟩/\g<W.heap.size/\
   ∀i,i<len->∃(z:List Value) (y:DataW H×List MemPlace) (n:Nat),z.length=sz/\(∀c,c<sz->W.cell? ⟨g,off+(i*sz+c),none⟩=z[c]?)/\DataW.trod enc P W base spare held n e z=some y):=by
 rcases Deep.open_slice ht h with ⟨rfl,-⟩|⟨a,len,cap,m,n,D,Pl,rfl,-,hl,hm,V,-,hx⟩
 ·exact⟨none,0,0,rfl,by simp,by simp[maxLen],λh=>absurd rfl h⟩
 ·have ah:len<=m:=by rw[V];split<;>omega
  refine⟨some a,len,cap,rfl,hl,hm,λh0=> ?_⟩;rw[hc] at hx;obtain⟨ac,h1,-⟩:=hx 0 (by omega);obtain⟨-,ag,J⟩:=World.cells?_some h1;have G:=J 0 aa;have e0:(a.add (0*sz))=a:=by simp[Addr.add]
  rw[e0] at G;cases hv:ac[0]? with
  |none=>rw[List.getElem?_eq_none_iff] at hv;omega
  |some v=>
   rw[hv] at G;obtain⟨g,off,rfl⟩:=Fu G rfl;refine⟨g,off,rfl,by simpa[add_plain] using Ab G,λi hi=> ?_⟩;obtain⟨z,h2,h3⟩:=hx i (by omega);obtain⟨-,U,af⟩:=World.cells?_some h2;refine⟨z,_,n,U,λc ae=> ?_,h3⟩;have :=af c ae;rw[add_plain,add_plain] at this;rw[<-this,Nat.add_assoc]
end
end
section
variable{α:Type}{T b g gf gl gn i j n sz z:Nat}{l l':List Nat}{a w w':World}{c:Array Value}{row:Option Nat}{v:Value}{xs:List Value}{ps:List (Int×Int)}
def rJ (W k:Nat):Nat:=W/256^k%256
def lQ (W:Nat):List Nat:=(List.range 8).map (rJ W)
def l7:List Nat->Nat
 | []=>0
 |c::l=>c+256*l7 l
theorem Ch (W k:Nat):rJ W k<256:=iz _ (by decide)
theorem l8 (W:Nat):(lQ W).length=8:=by simp[lQ]
theorem uP (W k:Nat)(h:k<8):(lQ W).getD k 0=rJ W k:=by simp[lQ,h]
theorem Sc (W:Nat):∀c∈lQ W,c<256:=by
 intro c h;simp only[lQ,bF] at h;obtain⟨k,-,rfl⟩:=h;exact Ch W k
theorem wi (l m:List Nat):l7 (l++m)=l7 l+256^l.length*l7 m:=by
 induction l with
 |nil=>simp[l7]
 |cons c l ih=>rw[ia,l7,ih,l7,cr,Nat.pow_succ',Nat.mul_add,Nat.mul_assoc,Nat.add_assoc]
theorem Jq (c:Nat):l7 [c]=c:=by simp[l7]
theorem Mt (n:Nat):l7 (List.replicate n 0)=0:=by
 induction n with
 |zero=>rfl
 |succ n ih=>simp[List.replicate_succ,l7,ih]
theorem Fv (h:∀c∈l,c<256):l7 l<256^l.length:=by
 induction l with
 |nil=>simp[l7]
 |cons c l ih=>
  have J:=ih λx z=>h x (je _ z)
  have G:=h c jX;rw[l7,cr,Nat.pow_succ'];omega
theorem Jr (h:∀c∈l,c<256):∀k,rJ (l7 l) k=l.getD k 0:=by
 induction l with
 |nil=>intro k;simp[l7,rJ]
 |cons c l ih=>
  have G:=h c jX;intro k;cases k with
  |zero=>simp[l7,rJ];omega
  |succ k=>
   have :=ih (λx z=>h x (je _ z)) k;rw[List.getD_cons_succ,<-this];unfold rJ;rw[l7,Nat.pow_succ',<-Nat.div_div_eq_div_mul]
   congr 2
   omega
theorem Eu (l:List Nat)(k:Nat)(h:k<l.length):l7 (l.take (k+1))=l7 (l.take k)+l.getD k 0*256^k:=by
 rw[bP h,wi,Jq,aJ,cQ (by omega),Nat.mul_comm];simp[h]
theorem Sd (h:∀c∈l,c<256)(k:Nat):∀c∈l.take k,c<256:=λc z=>h c (bO z)
def nZ (c:Nat):Bool:=decide (33<=c)&&(decide (c<=126)&&(c != 47))
def iy (l:List Nat):Bool:=decide (1<=l.length)&&decide (l.length<=7)&&(l != [46])&&(l != [46,46])&&l.all nZ
def rK (l:List Nat):Nat:=l7 l+72057594037927936*l.length
def AW (l:List Nat):List Nat:=l++List.replicate (7-l.length) 0++[l.length]
theorem oO (h:iy l=true):1<=l.length/\l.length<=7:=by simp[iy] at h;omega
theorem xL (h:l.length<=7):(AW l).length=8:=by simp[AW];omega
theorem KI (G:l.length<=7)(h:∀c∈l,c<256):∀c∈AW l,c<256:=by
 intro c z;simp only[AW,aT,List.mem_replicate,au] at z;rcases z with(z|⟨-,rfl⟩)|rfl
 ·exact h c z
 ·omega
 ·omega
theorem Ac (h:l.length<=7):l7 (AW l)=rK l:=by
 rw[AW,wi,wi,Mt,Jq,aC,bE,show l.length+(7-l.length)=7 by omega,rK];rfl
theorem W7 (z:l.length<=7)(h:∀c∈l,c<256):rK l<18446744073709551616:=by
 have :=Fv (KI z h);rw[Ac z,xL z] at this;simpa using this
theorem PL (z:l.length<=7)(h:∀c∈l,c<256):lQ (rK l)=AW l:=by
 have J:=KI z h;apply cD;intro k;by_cases G:k<8
 ·have U:(AW l)[k]? =some ((AW l).getD k 0):=by simp[xL z,G]
  rw[U,<-Jr J,Ac z];simp[lQ,G]
 ·rw[aP (by rw[l8];omega),aP (by rw[xL z];omega)]
def kN (W:Nat):Option (List Nat):=if rJ W 7<=7/\iy ((lQ W).take (rJ W 7))=true/\rK ((lQ W).take (rJ W 7))=W then some ((lQ W).take (rJ W 7)) else none
theorem oP (G:iy l=true)(h:∀c∈l,c<256):kN (rK l)=some l:=by
 obtain⟨W,z⟩:=oO G;have J:=PL z h;have V:rJ (rK l) 7=l.length:=by
  rw[<-uP _ 7 (by omega),J,AW,aj,aR (by simp;omega)];simp[show 7-(l.length+(7-l.length))=0 by omega]
 have U:(lQ (rK l)).take l.length=l:=by
  rw[J,AW,aV,List.take_left]
 unfold kN;rw[V,U,aB ⟨z,G,rfl⟩]
def fnv (h c:Nat):Nat:=(h ^^^ c)*16777619%4294967296
def TF (h W:Nat):Nat:=(lQ W).foldl fnv h
def Mu (l:List Nat):Nat:=l.foldl TF 2166136261
theorem adg (h c:Nat):fnv h c<4294967296:=iz _ (by decide)
theorem AX (l:List Nat):∀h,h<4294967296->l.foldl fnv h<4294967296:=by
 induction l with
 |nil=>intro h z;exact z
 |cons c l ih=>intro h _;exact ih _ (adg h c)
theorem aaM (h W:Nat)(z:h<4294967296):TF h W<4294967296:=AX _ _ z
theorem zL (l:List Nat):∀h,h<4294967296->l.foldl TF h<4294967296:=by
 induction l with
 |nil=>intro h z;exact z
 |cons c l ih=>intro h z;exact ih _ (aaM h c z)
theorem KJ (l:List Nat):Mu l<4294967296:=zL l _ (by decide)
def iw (ps:List (Int×Int)) (j:Nat):Int:=(ps.getD j (0,0)).1
def lv (ps:List (Int×Int)) (j:Nat):Int:=(ps.getD j (0,0)).2
theorem qf (ps:List (Int×Int))(k:Nat)(h:k<ps.length):ps.take (k+1)=ps.take k++[(iw ps k,lv ps k)]:=by
 have e:(iw ps k,lv ps k)=ps[k]:=by simp[iw,lv,h]
 rw[e];exact bP h
theorem Fw (ps:List (Int×Int))(k:Nat)(h:k<ps.length):(iw ps k,lv ps k)∈ps:=by
 have :(iw ps k,lv ps k)=ps[k]:=by simp[iw,lv,h]
 rw[this];exact bG h
def az (xs:List Int) (ps:List (Int×Int)):List Int:=ps.foldl (λa p=>a.set p.1.toNat p.2) xs
theorem Ad (xs:List Int):az xs []=xs:=rfl
theorem bz (xs:List Int)(ps qs:List (Int×Int)):az xs (ps++qs)=az (az xs ps) qs:=by simp[az,List.foldl_append]
theorem oJ (xs:List Int)(a x:Int):az xs [(a,x)]=xs.set a.toNat x:=rfl
theorem ct (ps:List (Int×Int)):∀xs,(az xs ps).length=xs.length:=by
 induction ps with
 |nil=>intro xs;rfl
 |cons p ps ih=>intro xs;show(az (xs.set p.1.toNat p.2) ps).length=_;rw[ih];simp
theorem Ci (xs:List Int)(ps:List (Int×Int))(k:Nat)(h:k<ps.length):az xs (ps.take (k+1))=(az xs (ps.take k)).set (iw ps k).toNat (lv ps k):=by
 rw[qf ps k h,bz];rfl
theorem getD_set_ne{l:List Int}(x:Int)(h:i≠j):(l.set i x).getD j 0=l.getD j 0:=by
 simp[List.getElem?_set_ne h]
theorem Mv{l:List Int}(x:Int)(h:i<l.length):(l.set i x).getD i 0=x:=by
 simp[h]
theorem AY{l:List Int}(x:Int):(l.set i x).getD j 0=if i=j/\j<l.length then x else l.getD j 0:=by
 by_cases h:i=j
 ·subst h
  by_cases z:i<l.length
  ·rw[Mv x z,aB ⟨rfl,z⟩]
  ·rw[aA,jf (by omega)]
 ·rw[getD_set_ne x h,aA]
theorem dW (ps:List (Int×Int))(i:Nat):∀xs,(∀p∈ps,p.1.toNat≠i)->(az xs ps).getD i 0=xs.getD i 0:=by
 induction ps with
 |nil=>intro xs _;rfl
 |cons p ps ih=>
  intro xs h;show(az (xs.set p.1.toNat p.2) ps).getD i 0=_;rw[ih _ λq z=>h q (je _ z),getD_set_ne _ (h p jX)]
def sM (a:Int):Bool:=decide (0<=a)&&decide (a<3128)&&(decide (a<8)||decide (816<=a))
theorem mq{a:Int}:sM a=true↔0<=a/\a<3128/\(a<8\/816<=a):=by
 simp[sM,and_assoc]
def xM (ps:List (Int×Int)):Bool:=ps.all λp=>sM p.1
theorem TG (h:xM ps=true){p:Int×Int}(z:p∈ps):0<=p.1/\p.1<3128/\(p.1<8\/816<=p.1):=mq.1 (eP.1 h _ z)
def fq (ps:List (Int×Int)):List Int:=ps.flatMap λp=>[p.1%18446744073709551616,p.2]
theorem ny (ps:List (Int×Int)):(fq ps).length=2*ps.length:=by
 induction ps with
 |nil=>rfl
 |cons p ps ih=>simp[fq] at ih ⊢;omega
theorem IE (ps qs:List (Int×Int)):fq (ps++qs)=fq ps++fq qs:=by simp[fq]
theorem Cj (ps:List (Int×Int))(k:Nat)(h:k<ps.length):fq (ps.take (k+1))=fq (ps.take k)++[iw ps k%18446744073709551616,lv ps k]:=by
 rw[qf ps k h,IE];rfl
theorem PN (ps:List (Int×Int)):∀k,k<ps.length->(fq ps).getD (2*k) 0=iw ps k%18446744073709551616/\(fq ps).getD (2*k+1) 0=lv ps k:=by
 induction ps with
 |nil=>intro k h;simp at h
 |cons p ps ih=>
  intro k h;have z:fq (p::ps)=p.1%18446744073709551616::p.2::fq ps:=rfl;cases k with
  |zero=>rw[z];exact⟨rfl,rfl⟩
  |succ k=>
   have :=ih k (by simpa using h);rw[z];simp only[iw,lv,aj,show 2*(k+1)=2*k+1+1 by omega,dC] at this ⊢;exact this
def okP (ps:List (Int×Int)):Prop:=∀p∈ps,(-9223372036854775808<=p.1/\p.1<=9223372036854775807)/\0<=p.2/\p.2<=18446744073709551615
theorem Se (h:okP ps){k:Nat}(z:k<ps.length):(-9223372036854775808<=iw ps k/\iw ps k<=9223372036854775807)/\0<=lv ps k/\lv ps k<=18446744073709551615:=h _ (Fw ps k z)
def Ev (xs:List Int):Prop:=∀x∈xs,0<=x/\x<=18446744073709551615
theorem Fx (h:okP ps):Ev (fq ps):=by
 intro x z;simp only[fq,List.mem_flatMap,aL,aK,bC] at z;obtain⟨p,G,z⟩:=z;have :=h p G;omega
theorem AZ{xs:List Int}(h:Ev xs)(k:Nat):0<=xs.getD k 0/\xs.getD k 0<=18446744073709551615:=by
 rw[aj];cases hk:xs[k]? with
 |none=>simp
 |some x=>exact h x (List.mem_of_getElem? hk)
def lZ (ws:List Int) (m:Nat):Bool:=(List.range m).all λk=>sM (ws.getD (2*k) 0)
theorem Fy (h:okP ps):lZ (fq ps) ps.length=xM ps:=by
 have J:∀k,k<ps.length->sM ((fq ps).getD (2*k) 0)=sM (iw ps k):=by
  intro k z;rw[(PN ps k z).1,Bool.eq_iff_iff,mq,mq];have :=Se h z;omega
 rw[Bool.eq_iff_iff];unfold lZ xM;rw[eP,eP];constructor
 ·intro G p U
  obtain⟨k,z,rfl⟩:=bY U;have :=G k (by simpa using z);rw[J k z] at this;simpa[iw,aj,z] using this
 ·intro G k z
  rw[bW] at z;rw[J k z];exact G _ (Fw ps k z)
def nt (ws:List Int):List (Int×Int):=ws.mapIdx λk w=>((9+k:Int),w)
theorem oo (ws:List Int):(nt ws).length=ws.length:=by simp[nt]
theorem Mw{ws:List Int}{p:Int×Int}(h:p∈nt ws):9<=p.1/\p.1<9+ws.length:=by
 obtain⟨k,z,rfl⟩:=bY h;have G:k<ws.length:=by simpa[nt] using z
 simp[nt];omega
def rL (ws:List Int):Int:=(ws.length/2:Nat)*4294967296+(Mu (ws.map Int.toNat):Nat)
def nN (f:List Int):Nat->Nat
 |0=>0
 |k+1=>nN f k+if f.getD k 0∈f.take k then 0 else 1
def iC (ps:List (Int×Int)):List Int:=ps.map λp=>p.1/8
def KL (ps:List (Int×Int)):Nat:=nN (iC ps) ps.length
theorem Dy (ps:List (Int×Int))(k:Nat)(h:k<ps.length):(iC ps).getD k 0=iw ps k/8:=by
 simp[iC,iw,h]
theorem nO (ps:List (Int×Int))(k:Nat):(iC ps).take k=iC (ps.take k):=by simp[iC]
theorem KM (ps:List (Int×Int))(k:Nat)(h:k<ps.length):(iC ps).take (k+1)=(iC ps).take k++[iw ps k/8]:=by
 rw[nO,nO,qf ps k h];simp[iC]
theorem Ae (f:List Int):∀k,nN f k<=k
 |0=>aH _
 |k+1=>by
  have :=Ae f k;unfold nN;split<;>omega
def mr (ps:List (Int×Int)):Nat:=ps.length+KL ps+1
def Ck (ps:List (Int×Int)):Nat:=if ps=[] then 0 else mr (nt (fq ps))+3+mr ps+3
theorem wj (ps:List (Int×Int)):mr ps<=2*ps.length+1:=by
 have :=Ae (iC ps) ps.length;unfold mr KL;omega
theorem Mx (a x:Int):mr [(a,x)]=3:=by simp[mr,KL,nN]
theorem TH (ps:List (Int×Int)):Ck ps<=6*ps.length+8:=by
 have z:=wj ps;have h:=wj (nt (fq ps));rw[oo,ny] at h;unfold Ck;split<;>omega
def W8 (xs:List Int) (ps:List (Int×Int)):List Int:=az (az xs ps) [(8,0)]
def nP (xs:List Int) (ps:List (Int×Int)):List Int:=if ps=[] then xs else W8 (az (az xs (nt (fq ps))) [(8,rL (fq ps))]) ps
end
section
open Go.RowKit
variable{α:Type}{T b g gf gl gn i j n sz z:Nat}{l l':List Nat}{a w w':World}{c:Array Value}{row:Option Nat}{v:Value}{xs:List Value}{ps:List (Int×Int)}
def aY (l:List Int):List Value:=l.map (Value.int .u64)
def bools (l:List Bool):List Value:=l.map Value.bool
theorem dO{l:List Int}(h:j<l.length):(aY l)[j]? =some (.int .u64 (l.getD j 0)):=by simp[aY,h]
theorem uQ{l:List Bool}(h:j<l.length):(bools l)[j]? =some (.bool (l.getD j false)):=by simp[bools,h]
theorem mI (l:List Int)(j:Nat)(x:Int):(aY l).set j (.int .u64 x)=aY (l.set j x):=by simp[aY,List.map_set]
theorem Cl (l:List Bool)(j:Nat)(x:Bool):(bools l).set j (.bool x)=bools (l.set j x):=by simp[bools,List.map_set]
theorem bB (l:List Int):(aY l).length=l.length:=by simp[aY]
theorem qg (l:List Bool):(bools l).length=l.length:=by simp[bools]
theorem fh (l:List Int):∀u∈aY l,u.oneCell'=true:=by
 intro u h;simp only[aY,bF] at h;obtain⟨x,-,rfl⟩:=h;rfl
theorem Js (n:Nat):List.replicate n (Value.int .u64 0)=aY (List.replicate n 0):=by simp[aY]
theorem uf (xs h:List Int):aY (xs++h)=aY xs++aY h:=by simp[aY]
theorem fV{xs:List Int}(h:Reads w v g (aY xs)):∃a cap,v= .slice a xs.length cap/\xs.length<=cap/\cap<=maxLen/\
  Hid (∀k,k<xs.length->g<w.heap.size/\∃off,a=some ⟨g,off,none⟩/\w.cell? ⟨g,off+k,none⟩=some (.int .u64 (xs.getD k 0))):=by
 obtain⟨a,cap,G,h1,U,J⟩:=h;rw[bB] at *;refine⟨a,cap,G,h1,U,λk z=> ?_⟩;obtain⟨V,off,W,hc⟩:=J (by intro e;have :=cN List.length e;rw[bB,cC] at this;omega);exact⟨V,off,W,(hc k z).trans (dO z)⟩
theorem Reads.anyG(h:Reads w v g xs)(J:xs=[])(U:Nat):Reads w v U xs:=by
 obtain⟨a,cap,V,G,z,W⟩:=h;exact⟨a,cap,V,G,z,λh=>absurd J h⟩
def ku (w:World) (v:Value) (g:Nat) (ps:List (Int×Int)):Prop:=
 ∃a cap,v= .slice a ps.length cap/\ps.length<=cap/\cap<=maxLen/\(ps.length≠0->g<w.heap.size/\∃off,a=some ⟨g,off,none⟩/\
  ∀j,j<ps.length->w.cell? ⟨g,off+j*2,none⟩=some (.int .i64 (iw ps j))/\w.cell? ⟨g,off+j*2+1,none⟩=some (.int .u64 (lv ps j)))
theorem ku.keep(h:ku w v g ps){l:List Nat}(G:ay l w w')(hg:ps.length≠0->g∉l):ku w' v g ps:=by
 obtain⟨a,cap,h1,h2,h3,h4⟩:=h;refine⟨a,cap,h1,h2,h3,λU=> ?_⟩;obtain⟨z,off,h5,J⟩:=h4 U;refine⟨bS z G.size,off,h5,λj W=> ?_⟩;have V:=G.block g z (hg U);exact⟨(aO (w:=w) (w':=w') (a:=⟨g,off+j*2,none⟩) V).trans (J j W).1,(aO (w:=w) (w':=w') (a:=⟨g,off+j*2+1,none⟩) V).trans (J j W).2⟩
theorem ku.val(h:ku w v g ps):∃a cap,v= .slice a ps.length cap/\ps.length<=cap/\cap<=maxLen:=by
 obtain⟨a,cap,J,G,z,U⟩:=h;exact⟨a,cap,J,G,z⟩
theorem ku.get{a:Option Addr}{cap:Nat}(h:ku w (.slice a n cap) g ps){j:Nat}(W:j<ps.length):
  g<w.heap.size/\∃off,a=some ⟨g,off,none⟩/\w.cell? ⟨g,off+j*2,none⟩=some (.int .i64 (iw ps j))/\w.cell? ⟨g,off+j*2+1,none⟩=some (.int .u64 (lv ps j)):=by
 obtain⟨a',z,h1,h2,h3,J⟩:=h;cases h1;obtain⟨U,off,G,V⟩:=J (by omega);exact⟨U,off,G,V j W⟩
def jd (ps:List (Int×Int)):List Value:=ps.flatMap λp=>[.int .i64 p.1,.int .u64 p.2]
theorem sO (ps:List (Int×Int)):(jd ps).length=ps.length*2:=by
 induction ps with
 |nil=>rfl
 |cons p ps ih=>simp[jd] at ih ⊢;omega
theorem uF (ps qs:List (Int×Int)):jd (ps++qs)=jd ps++jd qs:=by simp[jd]
theorem nz (ps:List (Int×Int)):∀k,k<ps.length->(jd ps)[k*2]? =some (.int .i64 (iw ps k))/\(jd ps)[k*2+1]? =some (.int .u64 (lv ps k)):=by
 induction ps with
 |nil=>intro k h;simp at h
 |cons p ps ih=>
  intro k h;have z:jd (p::ps)= .int .i64 p.1:: .int .u64 p.2::jd ps:=rfl;cases k with
  |zero=>rw[z];exact⟨rfl,rfl⟩
  |succ k=>
   have :=ih k (by simpa using h);rw[z,show(k+1)*2=k*2+1+1 by omega];simp only[dC];exact this
theorem fp.preads(h:fp w v g T 2 ps.length (jd ps)):ku w v g ps:=by
 obtain⟨a,cap,G,h1,W⟩:=h.val;refine⟨a,cap,G,h1,W,λV=> ?_⟩;obtain⟨hg,⟨J,z,-,-⟩,U,-⟩:=h.cell V;rw[G] at z;cases z;refine⟨hg,0,rfl,λj hj=> ?_⟩;rw[bc,U (j*2) (by omega),U (j*2+1) (by omega)];exact nz ps j hj
def jN (w:World) (ws:List Int) (e:Ending) (w':World):Prop:=
 ∃v g,e=(v:Value)/\Reads w' v g (aY ws)/\w.heap.size<=g/\ay [] w w'
theorem lI (w:World)(cs:List Value)(T m:Nat)(z:m=w.heap.size):∀j u,cs[j]? =some u->(w.alloc (.cells cs.toArray T)).cell? ((⟨m,0,none⟩:Addr).add j)=some u:=by
 intro j u h;subst z;rw[add_plain,(bh.new w cs.toArray T).cell,bc];simpa using h
def kQ (w:World) (ps:List (Int×Int)) (e:Ending) (w':World):Prop:=
 ∃v g,e=(v:Value)/\ku w' v g ps/\w.heap.size<=g/\ay [] w w'
theorem Dz (n:Nat):(madeCells #[Value.int .i64 0,Value.int .u64 0] (n*2)).toList=jd (List.replicate n (0,0)):=by
 apply cD;intro j;simp only[madeCells,Array.toList_map,Array.toList_range,bJ];by_cases G:j<n*2
 ·rw[cB G]
  have z:=nz (List.replicate n ((0:Int),(0:Int))) (j/2) (by simp;omega);have U:iw (List.replicate n ((0:Int),(0:Int))) (j/2)=0:=by
   simp[iw,bj];split<;>rfl
  have J:lv (List.replicate n ((0:Int),(0:Int))) (j/2)=0:=by
   simp[lv,bj];split<;>rfl
  rw[U,J] at z;rcases (show j%2=0\/j%2=1 by omega) with h|h
  ·rw[show j/2*2=j by omega] at z
   rw[z.1];simp[h]
  ·rw[show j/2*2+1=j by omega] at z
   rw[z.2];simp[h]
 ·rw[aP (by simpa using G),aP (by rw[sO,bE];omega)];rfl
theorem PO (l:List (Int×Int))(a x:Int):∀k,((jd l).set (k*2) (.int .i64 a)).set (k*2+1) (.int .u64 x)=jd (l.set k (a,x)):=by
 induction l with
 |nil=>intro k;rfl
 |cons p l ih=>
  intro k;have h:∀(p:Int×Int) l,jd (p::l)= .int .i64 p.1:: .int .u64 p.2::jd l:=λ_ _=>rfl
  cases k with
  |zero=>rfl
  |succ k=>rw[h,ai,h,<-ih k,show(k+1)*2=k*2+1+1 by omega];rfl
def dS {α:Type} (z:α) (l:List α) (k:Nat):List α:=l.take k++List.replicate (l.length-k) z
theorem lJ (z:α)(l:List α):dS z l 0=List.replicate l.length z:=by simp[dS]
theorem mz (z:α)(l:List α):dS z l l.length=l:=by simp[dS]
theorem lR (z:α)(l:List α)(k:Nat)(h:k<=l.length):(dS z l k).length=l.length:=by simp[dS];omega
theorem lK (z:α)(l:List α)(k:Nat)(h:k<l.length)(x:α)(G:l[k]=x):(dS z l k).set k x=dS z l (k+1):=by
 subst G;unfold dS;rw[bP h,show l.length-k=(l.length-(k+1))+1 by omega,List.replicate_succ,aV];rw[dH _ _ (by simp;omega)]
 congr 1
 rw[aJ,cQ (by omega),jg];rfl
theorem fp.pair{l:List (Int×Int)}(h:fp w v g T 2 n (jd l))(k:Nat)(a x:Int):
  fp ((w.setCell ⟨g,k*2,none⟩ (.int .i64 a)).setCell ⟨g,k*2+1,none⟩ (.int .u64 x)) v g T 2 n (jd (l.set k (a,x))):=by
 have :=(h.set (k*2) (.int .i64 a)).set (k*2+1) (.int .u64 x);rw[PO] at this;exact this
theorem kQ.mk(h:fp w' v g T 2 n (jd ps))(G:n=ps.length)(J:w.heap.size<=g)(z:ay [] w w'):kQ w ps (.returned v) w':=by
 subst G;exact⟨v,g,rfl,h.preads,J,z⟩
def Me (ps:List (Int×Int)) (n:Nat):Prop:=∀p∈ps,0<=p.1/\p.1<n
theorem ug (h:Me ps n){k:Nat}(z:k<ps.length):0<=iw ps k/\iw ps k<n:=h _ (Fw ps k z)
theorem dP (h:w.ownsRow z T sz v n xs):∀k,v.ownBlock=some k->z<=k:=by
 obtain⟨h0,V⟩:=h;intro k G;rcases V with ⟨rfl,rfl⟩|⟨g,cap,J,rfl,U,W,h2,h3,h4,h5⟩
 ·cases G
 ·cases G;exact U
theorem ay.grown{wr J:World}(h:ay [] w wr)(z:wr.grownBy J row)(U:∀k,row=some k->w.heap.size<=k):ay [] w J:=
 ⟨z.os.trans h.os,z.tape.trans h.tape,z.output.trans h.output,cE h.size z.size,λk G V=>
  (z.block k (bS G h.size) λe=>by have :=U k e.symm;omega).trans (h.block k G V)⟩
theorem eo (h:w.ownsRow z T sz v n xs){l:List Nat}(U:ay l w w')(hn:∀k,v.ownBlock=some k->k∉l):w'.ownsRow z T sz v n xs:=by
 obtain⟨V,h1⟩:=h;refine⟨V,?_⟩;rcases h1 with ⟨rfl,rfl⟩|⟨g,cap,G,rfl,hg,J,h2,W,h4,h5⟩
 ·exact .inl ⟨rfl,rfl⟩
 ·refine .inr ⟨g,cap,G,rfl,hg,?_,h2,W,h4,h5⟩
  rw[<-J];exact U.block g (Array.getElem?_eq_some_iff.1 J).1 (hn g rfl)
theorem iX (h:w.ownsRow z T sz v n xs):∃a cap,v= .slice a n cap/\n<=cap/\cap<=maxLen:=by
 obtain⟨g,G,-⟩:=fp.of_row h;exact G.val
theorem Tryz.info_u64:(prog.info? 56).map (λi=>(i.zero,i.size,i.bytes))=some (some (.int .u64 0),1,8):=by kernel_rfl
theorem A0 (n:Nat)(hn:n<=100000)(m:Int)(J:m=(n:Int))(k:Nat)(W:k=0\/k=n)(w:World):(Instr.makeSlice 71 (.int .i64 (k:Int)) (.int .i64 m)).run prog w=
  .ok (.slice w.heap.size k n) (w.alloc (.cells (madeCells #[.int .u64 0] n) 56)):=by
 subst J;obtain⟨U,V,h,z,G⟩:=dc Tryz.info_u64;have :=run_make (P:= prog) w 71 56 U _ underlying71 V h .i64 .i64 (k:Int) (n:Int) (by omega) (by omega) (by rw[G];omega) (by omega);rw[z,aG,aG,iK] at this;exact this
structure iV where
 now:List Int
 last:List Int
 fl:List Bool
 deeds:Int
 fused:Bool
 left:Int
structure fw (w:World) (b gn gl gf:Nat) (s:iV):Prop where
 n9:s.now.length<=10000
 ll:s.last.length=s.now.length
 fll:s.fl.length=(s.now.length+7)/8*8
 apart:s.now.length≠0->(gn≠b/\gl≠b/\gf≠b)/\gn≠gl/\gn≠gf/\gl≠gf
 at_:∃vn vl vf,bh w b #[vn,vl,vf,s.deeds,s.fused,s.left] 95/\
  fp w vn gn 56 1 s.now.length (aY s.now)/\fp w vl gl 56 1 s.now.length (aY s.last)/\
  fp w vf gf 97 8 ((s.now.length+7)/8) (bools s.fl)
theorem fw.keep{s:iV}(h:fw w b gn gl gf s){l:List Nat}(z:ay l w w')(U:b∉l)(G:s.now.length≠0->gn∉l/\gl∉l/\gf∉l):fw w' b gn gl gf s:=by
 obtain⟨n9,ll,fll,V,W,vl,J,a,c,d,e⟩:=h;exact⟨n9,ll,fll,V,W,vl,J,a.keep z U,c.keepIf z λh=>(G h).1,d.keepIf z λh=>(G h).2.1,e.keepIf z λh=>(G (by omega)).2.2⟩
def iV.gone (s:iV):Bool:=s.fused&&s.left==0
def iV.refusal (s:iV) (i:Int):Int:=if s.gone=true then 9 else if i<0\/(s.now.length:Int)<=i then 1 else 0
def iV.count (s:iV):iV:={ s with deeds:=s.deeds+1,left:=if s.fused=true then s.left-1 else s.left }
def iV.fit (s:iV):Prop:=0<=s.deeds/\s.deeds<4611686018427387904/\0<=s.left/\s.left<=9223372036854775807
theorem W9 (b:Nat)(fused:Bool)(left:Int)(w:World)
  (h:w.cell? ⟨b,4,none⟩=some (.bool fused)) (z:w.cell? ⟨b,5,none⟩=some (.int .i64 left)):
  Calls prog 88 #[b] w λe w'=>e=(fused&&left==0:Bool)/\w=w':=by
 cases fused
 ·go_in
  go_wp2;go_ret;exact⟨rfl,rfl⟩
 ·go_in
  go_wp2;go_ret;exact⟨rfl,rfl⟩
theorem Sf{s:iV}(h:fw w b gn gl gf s):
  Calls prog 88 #[b] w λe w'=>e=s.gone/\w=w':=by
 obtain⟨z,J,G,a,c,d,e⟩:=h.at_;exact W9 b s.fused s.left w (by rw[a.cell];rfl) (by rw[a.cell];rfl)
theorem Af{s:iV}(h:fw w b gn gl gf s)(i:Int):
  Calls prog 39 #[b,i] w λe w'=>e=(s.refusal i:Int)/\w=w':=by
 have J:=Sf h;have aa:=h.n9;obtain⟨vn,vl,vf,a,c,d,e⟩:=h.at_;obtain⟨U,V,rfl,_,_⟩:=c.val;have h0:w.cell? b=some (.slice U s.now.length V):=by rw[a.cell];rfl
 clear a c d e h;unfold iV.refusal;generalize s.gone=g,s.now.length=n at *;have z:=ar J;clear J;cases g
 ·by_cases G:i<0
  ·rw[aA (by simp),aB (.inl G)]
   go_in;go_wp2_with(go_at_call 88;refine z.out.mono ?_;rintro e w' ⟨rfl,rfl⟩);go_ret;exact⟨rfl,rfl⟩
  ·by_cases h2:(n:Int)<=i
   ·rw[aA (by simp),aB (.inr h2)]
    have W:decide (i<0)=false:=by simpa using G
    go_in;go_wp2_with(go_at_call 88;refine z.out.mono ?_;rintro e w' ⟨rfl,rfl⟩);go_ret;exact⟨rfl,rfl⟩
   ·rw[aA (by simp),aA]
    have W:decide (i<0)=false:=by simpa using G
    go_in;go_wp2_with(go_at_call 88;refine z.out.mono ?_;rintro e w' ⟨rfl,rfl⟩);go_ret;exact⟨rfl,rfl⟩
 ·rw[aB rfl]
  go_in;go_wp2_with(go_at_call 88;refine z.out.mono ?_;rintro e w' ⟨rfl,rfl⟩);go_ret;exact⟨rfl,rfl⟩
theorem PQ{s:iV}(h:fw w b gn gl gf s):
  Calls prog 46 #[b] w λe w'=>e=(s.now.length:Int)/\w=w':=by
 obtain⟨V,W,J,a,c,d,e⟩:=h.at_;obtain⟨z,G,rfl,_,_⟩:=c.val;have U:w.cell? b=some (.slice z s.now.length G):=by rw[a.cell];rfl
 clear a c d e h;generalize s.now.length=n at *;go_in;go_wp2;go_ret;exact⟨rfl,rfl⟩
theorem fw.six{s z:iV}(h:fw w b gn gl gf s)(hk:ay [b] w w')
  (hs:z.now=s.now/\z.last=s.last/\z.fl=s.fl)
  (hb:∀U W J,bh w b #[U,W,J,s.deeds,s.fused,s.left] 95->bh w' b #[U,W,J,z.deeds,z.fused,z.left] 95):fw w' b gn gl gf z:=by
 obtain⟨n9,ll,fll,V,U,W,J,a,c,d,e⟩:=h;obtain⟨G,e2,e3⟩:=hs;refine⟨by rw[G];exact n9,by rw[G,e2];exact ll,by rw[G,e3];exact fll,by rw[G];exact V,U,W,J,hb _ _ _ a,?_,?_,?_⟩
 ·rw[G];exact c.keepIf hk λh=>by simpa using (V h).1.1
 ·rw[G,e2];exact d.keepIf hk λh=>by simpa using (V h).1.2.1
 ·rw[G,e3];exact e.keepIf hk λh=>by simpa using (V (by omega)).1.2.2
theorem Fz{s:iV}(h:fw w b gn gl gf s)(hf:s.fit)(hg:s.gone=false):
  Calls prog 40 #[b] w λe w'=>e= .returned (.tuple #[])/\fw w' b gn gl gf s.count/\ay [b] w w':=by
 obtain⟨f1,f2,f3,f4⟩:=hf;obtain⟨U,J,G,a,-,-,-⟩:=h.at_;have h3:w.cell? ⟨b,3,none⟩=some (.int .i64 s.deeds):=by rw[a.cell];rfl
 have W:w.cell? ⟨b,4,none⟩=some (.bool s.fused):=by rw[a.cell];rfl
 have h5:w.cell? ⟨b,5,none⟩=some (.int .i64 s.left):=by rw[a.cell];rfl
 have g3:w.frozen? ⟨b,3,none⟩=false:=a.frozen 3;have g5:w.frozen? ⟨b,5,none⟩=false:=a.frozen 5;clear a U J G;have H:=ar h;clear h;have HG:=ar hg;clear hg;cases hfu:s.fused
 ·rw[hfu] at W
  have V:=ar hfu;clear hfu;go_in;go_wp2;go_end0;have z:ay [b] w (w.setCell ⟨b,3,none⟩ (.int .i64 (s.deeds+1))):=(ay.refl _ _).setCell (by simp) _;refine⟨rfl,H.out.six z ⟨rfl,rfl,rfl⟩ λU J G a=> ?_,z⟩;simpa[iV.count,V.out] using a.set 3 (.int .i64 (s.deeds+1))
 ·rw[hfu] at W
  have hl:s.left≠0:=by
   intro e;have :=HG.out;simp[iV.gone,hfu,e] at this
  have V:=ar hfu;clear hfu;go_in;go_wp2;go_end0;have z:ay [b] w ((w.setCell ⟨b,3,none⟩ (.int .i64 (s.deeds+1))).setCell ⟨b,5,none⟩ (.int .i64 (s.left-1))):=((ay.refl _ _).setCell (by simp) _).setCell (by simp) _;refine⟨rfl,H.out.six z ⟨rfl,rfl,rfl⟩ λU J G a=> ?_,z⟩;simpa[iV.count,V.out] using (a.set 3 (.int .i64 (s.deeds+1))).set 5 (.int .i64 (s.left-1))
def iV.load (s:iV) (i:Int):Int:=if s.refusal i=0 then s.now.getD i.toNat 0 else 0
def iV.store (s:iV) (i x:Int):iV:=if s.refusal i=0 then { s.count with now:=s.now.set i.toNat x,fl:=s.fl.set i.toNat false } else s
theorem iV.refusal_ok{s:iV}{i:Int}(h:s.refusal i=0):s.gone=false/\0<=i/\i<s.now.length:=by
 unfold iV.refusal at h;cases hg:s.gone<;>simp[hg] at h
 exact⟨rfl,by omega,by omega⟩
theorem KN{s:iV}(h:fw w b gn gl gf s)(i:Int):
  Calls prog 52 #[b,i] w λe w'=>e= .returned (.tuple #[.int .u64 (s.load i),(s.refusal i:Int)])/\w=w':=by
 have G:=ar (Af h i);by_cases z:s.refusal i=0
 ·obtain⟨-,V,i1⟩:=iV.refusal_ok z
  obtain⟨i,rfl⟩:=cy V;have W:=h.n9;obtain⟨vn,vl,vf,a,c,-,-⟩:=h.at_;obtain⟨-,⟨U,rfl,q1,q2⟩,q3,-⟩:=c.cell (by omega);have k0:w.cell? b=some (.slice gn s.now.length U):=by rw[a.cell];rfl
  have k1:w.cell? ⟨gn,i,none⟩=some (.int .u64 (s.load (i:Int))):=by rw[q3 i (by omega),dO (by omega),iV.load,aB z];rfl
  clear a c q3 h;rw[z] at G ⊢;clear z;generalize s.load i=x,s.now.length=n at *;go_in;go_wp2_with(go_at_call 39;refine G.out.mono ?_;rintro e w' ⟨rfl,rfl⟩);go_ret2;exact⟨rfl,rfl⟩
 ·have J:s.load i=0:=by rw[iV.load,aA z]
  rw[J];have h1:(s.refusal i != 0)=true:=by simpa using z
  generalize s.refusal i=r at *;clear h J z;go_in;go_wp2_with(go_at_call 39;refine G.out.mono ?_;rintro e w' ⟨rfl,rfl⟩);go_ret2;exact⟨rfl,rfl⟩
theorem fw.store{s:iV}(h:fw w b gn gl gf s)(U:s.now.length≠0)(i:Nat)(x:Int):
  fw ((w.setCell ⟨gn,i,none⟩ (.int .u64 x)).setCell ⟨gf,i,none⟩ (.bool false)) b gn gl gf { s with now:=s.now.set i x,fl:=s.fl.set i false }:=by
 obtain⟨n9,ll,fll,G,W,vl,J,a,c,d,e⟩:=h;obtain⟨⟨p1,p2,p3⟩,p4,z,V⟩:=G U;refine⟨by simpa using n9,by simpa using ll,by simpa using fll,by simpa using G,W,vl,J,?_,?_,?_,?_⟩
 ·exact(a.other (a:=⟨gn,i,none⟩) (cY p1) _).other (a:=⟨gf,i,none⟩) (cY p3) _
 ·have :=(c.set i (.int .u64 x)).keep (((ay.refl [gf] _).setCell (p:=⟨gf,i,none⟩) (by simp) (.bool false))) (by simpa using z)
  simpa[mI] using this
 ·have :=(d.keep ((ay.refl [gn] _).setCell (p:=⟨gn,i,none⟩) (by simp) (.int .u64 x)) (by simpa using cY p4)).keep (((ay.refl [gf] _).setCell (p:=⟨gf,i,none⟩) (by simp) (.bool false))) (by simpa using V)
  simpa using this
 ·have :=(e.keep ((ay.refl [gn] _).setCell (p:=⟨gn,i,none⟩) (by simp) (.int .u64 x)) (by simpa using cY z)).set i (.bool false)
  simpa[Cl] using this
theorem FA{s:iV}(h:fw w b gn gl gf s)(V:s.fit)(i x:Int):
  Calls prog 18 #[b,i,.int .u64 x] w λe w'=>e=(s.refusal i:Int)/\fw w' b gn gl gf (s.store i x)/\ay [b,gn,gl,gf] w w':=by
 have J:=ar (Af h i);by_cases z:s.refusal i=0
 ·obtain⟨hg,i0,i1⟩:=iV.refusal_ok z
  rw[iV.store,aB z];obtain⟨i,rfl⟩:=cy i0;rw[z] at J ⊢;have aa:=h.n9;have hc:=ar (Fz h V hg);clear z h V;go_in;go_wp2_with fail;refine J.out.mono ?_;rintro e w' ⟨rfl,rfl⟩;go_wp2_with fail;refine hc.out.mono ?_;rintro e G ⟨rfl,h,hk⟩;obtain⟨vn,vl,vf,a,c,d,e⟩:=h.at_;have ec:s.count.now.length=s.now.length:=rfl;obtain⟨-,⟨cn,rfl,q1,q2⟩,q3,W⟩:=c.cell (by omega);obtain⟨-,⟨cf,rfl,r1,r2⟩,r3,r4⟩:=e.cell (by omega);have ap:=(h.apart (by omega)).2.2.1;have k0:G.cell? b=some (.slice gn s.now.length cn):=by rw[a.cell];rfl
  have k1:G.cell? ⟨gn,i,none⟩=some (.int .u64 (s.now.getD i 0)):=by rw[q3 i (by omega),dO (by omega)];rfl
  have k2:G.frozen? ⟨gn,i,none⟩=false:=W i;have k3:(G.setCell ⟨gn,i,none⟩ (.int .u64 x)).cell? ⟨b,2,none⟩=some (.slice gf ((s.now.length+7)/8) cf):=by
   rw[(a.other (a:=⟨gn,i,none⟩) (cY (h.apart (by omega)).1.1) _).cell];rfl
  have U:i/8*8+i%8=i:=by omega
  have k4:G.cell? ⟨gf,i/8*8+i%8,none⟩=some (.bool (s.fl.getD i false)):=by
   have :=h.fll;rw[U,r3 i (by omega),uQ (by omega)];rfl
  have k5:G.frozen? ⟨gf,i/8*8+i%8,none⟩=false:=r4 _;have hs:=h.store (by omega) i x;have HE:=ar U;have HS:=ar hs;clear a c d e q3 r3 W r4 U hs;go_wp2_with fail;go_ret;refine⟨rfl,?_,((hk.mono (by simp)).setCell (by simp) _).setCell (by simp) _⟩;rw[HE.out];exact HS.out
 ·rw[iV.store,aA z]
  have h1:(s.refusal i != 0)=true:=by simpa using z
  have H:=ar h;generalize s.refusal i=r at *;clear h z;go_in;go_wp2_with(go_at_call 39;refine J.out.mono ?_;rintro e w' ⟨rfl,rfl⟩);go_ret;exact⟨rfl,H.out,ay.refl _ _⟩
def kT (l:List Int):List Value:=l.map (Value.int .u8)
theorem fG (l:List Int):(kT l).length=l.length:=by simp[kT]
end
end Go.Proofs.YtepbpdipenedhaaGreatDoor
