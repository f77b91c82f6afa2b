/- Lemmas. -/
import Derived.WalkKit
import Derived.WalkSpells
import Derived.Deep.QuietTactic
import Derived.Lib.Hide
import Derived.ProofKit
import Derived.OpenShut
import Derived.Deep.Slices
import Derived.Laws.BitsAllLaws
import Derived.WalkLawsBesides
import Derived.Laws.AppendOwn
import Derived.Test.YtimcfdnbpkiniaaGreatDoorRows
import Derived.BigQuiet
set_option maxHeartbeats 400000
namespace Go.Proofs.YtimcfdnbpkiniaaGreatDoor
open Go.Proofs.Tryz
section
open Go.RowKit
variable{α:Type}{T b g gf gl gn i j n sz z:Nat}{l l':List Nat}{a w w':World}{c:Array Value}{row:Option Nat}{v:Value}{xs:List Value}{ps:List (Int×Int)}
theorem ag{α:Type _}(l:List α)(i:Nat)(a:α):l.toArray.setIfInBounds i a=(l.set i a).toArray:=List.setIfInBounds_toArray l i a
theorem ah{α:Type _}(x:α)(l:List α)(a:α):(x::l).set 0 a=a::l:=rfl
theorem ai{α:Type _}(x:α)(l:List α)(n:Nat)(a:α):(x::l).set (n+1) a=x::l.set n a:=rfl
theorem aj{α:Type _}{l:List α}{a:α}:l.getD i a=l[i]?.getD a:=List.getD_eq_getElem?_getD
theorem ar{p:Prop}(h:p):Hid p:=Lib.hid h
theorem C'{P:Program}{f:Nat}{a:Array Value}{w x:World}{v:Ending}{Q:Ending->World->Prop}(h:Calls P f a w λe y=>e=v/\x=y)(k:Q v x):Calls P f a w Q:=h.mono λe y h=>by obtain⟨rfl,rfl⟩:=h;exact k
theorem Rr{P:Program}{f:Nat}{a:Array Value}{w:World}{v:Ending}{R:World->Prop}{Q:Ending->World->Prop}(h:Calls P f a w λe y=>e=v/\R y)(k:∀y,R y->Q v y):Calls P f a w Q:=h.mono λe y h=>by obtain⟨rfl,z⟩:=h;exact k y z
theorem hh2{A B:Prop}(a:A)(b:B):Hid A/\Hid B:=⟨a,b⟩
theorem hh3{A B C:Prop}(a:A)(b:B)(c:C):Hid A/\Hid B/\Hid C:=⟨a,b,c⟩
theorem hh4{A B C D:Prop}(a:A)(b:B)(c:C)(d:D):Hid A/\Hid B/\Hid C/\Hid D:=⟨a,b,c,d⟩
theorem hh5{A B C D E:Prop}(a:A)(b:B)(c:C)(d:D)(e:E):Hid A/\Hid B/\Hid C/\Hid D/\Hid E:=⟨a,b,c,d,e⟩
theorem hh6{A B C D E F:Prop}(a:A)(b:B)(c:C)(d:D)(e:E)(f:F):Hid A/\Hid B/\Hid C/\Hid D/\Hid E/\Hid F:=⟨a,b,c,d,e,f⟩
theorem hh7{A B C D E F G:Prop}(a:A)(b:B)(c:C)(d:D)(e:E)(f:F)(g:G):Hid A/\Hid B/\Hid C/\Hid D/\Hid E/\Hid F/\Hid G:=⟨a,b,c,d,e,f,g⟩
instance:Coe Nat Value:=⟨λb=>.pointer (some ⟨b,0,none⟩)⟩
instance:Coe Int Value:=⟨.int .i64⟩
instance:Coe Bool Value:=⟨.bool⟩
instance:Coe Unit Value:=⟨λ_=>.slice none 0 0⟩
instance:Coe (Array Value) Value:=⟨.agg⟩
instance:Coe Value Ending:=⟨.returned⟩
instance:Coe Nat (Option Addr):=⟨λb=>some ⟨b,0,none⟩⟩
instance:Coe Nat Addr:=⟨λb=>⟨b,0,none⟩⟩
theorem aH:type_of% @Nat.le_refl:=@Nat.le_refl
theorem cG:type_of% @Nat.le_trans:=@Nat.le_trans
theorem bS:type_of% @Nat.lt_of_lt_of_le:=@Nat.lt_of_lt_of_le
theorem jI:type_of% @Go.RowKit.Below.heap_alloc:=@Go.RowKit.Below.heap_alloc
theorem au.{u}:type_of% @List.mem_singleton.{u}:=@List.mem_singleton.{u}
theorem aO:type_of% @Go.World.cell?_of_block:=@Go.World.cell?_of_block
theorem bU.{u}:type_of% @List.getElem?_take.{u}:=@List.getElem?_take.{u}
theorem aB.{u}{c:Prop}{i:Decidable c}(h:c:=by omega){t:Sort u}{x y:t}:@ite t c i x y=x:=if_pos h
theorem bo.{u}:type_of% @List.eq_nil_of_length_eq_zero.{u}:=@List.eq_nil_of_length_eq_zero.{u}
theorem dH.{u}:type_of% @Array.getElem?_toList.{u}:=@Array.getElem?_toList.{u}
theorem dB:type_of% @Go.run_underlying:=@Go.run_underlying
theorem dO.{u}:type_of% @Array.length_toList.{u}:=@Array.length_toList.{u}
theorem dC:type_of% @Nat.add_zero:=@Nat.add_zero
theorem eP.{u}:type_of% @List.take_zero.{u}:=@List.take_zero.{u}
theorem bQ.{u}:type_of% @List.nil_append.{u}:=@List.nil_append.{u}
theorem bc:type_of% @Nat.zero_add:=@Nat.zero_add
theorem bN.{u}:type_of% @List.size_toArray.{u}:=@List.size_toArray.{u}
theorem aC.{u}:type_of% @List.length_append.{u}:=@List.length_append.{u}
theorem bM.{u}:type_of% @List.length_drop.{u}:=@List.length_drop.{u}
theorem cE.{u}:type_of% @List.ext_getElem?.{u}:=@List.ext_getElem?.{u}
theorem fh.{u}:type_of% @List.getElem?_set.{u}:=@List.getElem?_set.{u}
theorem iw:type_of% @Nat.mod_lt:=@Nat.mod_lt
theorem bH.{u,v}:type_of% @List.mem_map.{u,v}:=@List.mem_map.{u,v}
theorem ia.{u}:type_of% @List.cons_append.{u}:=@List.cons_append.{u}
theorem cu.{u}:type_of% @List.length_cons.{u}:=@List.length_cons.{u}
theorem jc.{u}:type_of% @List.mem_cons_of_mem.{u}:=@List.mem_cons_of_mem.{u}
theorem jS.{u}:type_of% @List.mem_cons_self.{u}:=@List.mem_cons_self.{u}
theorem bP.{u}:type_of% @List.take_succ_eq_append_getElem.{u}:=@List.take_succ_eq_append_getElem.{u}
theorem aJ.{u}:type_of% @List.length_take.{u}:=@List.length_take.{u}
theorem cT:type_of% @Nat.min_eq_left:=@Nat.min_eq_left
theorem bO.{u}:type_of% @List.mem_of_mem_take.{u}:=@List.mem_of_mem_take.{u}
theorem aT.{u}:type_of% @List.mem_append.{u}:=@List.mem_append.{u}
theorem bE.{u}:type_of% @List.length_replicate.{u}:=@List.length_replicate.{u}
theorem aP.{u}:type_of% @List.getElem?_eq_none.{u}:=@List.getElem?_eq_none.{u}
theorem aR.{u}:type_of% @List.getElem?_append_right.{u}:=@List.getElem?_append_right.{u}
theorem aV.{u}:type_of% @List.append_assoc.{u}:=@List.append_assoc.{u}
theorem bF.{u}:type_of% @List.getElem_mem.{u}:=@List.getElem_mem.{u}
theorem aA.{u}{c:Prop}{i:Decidable c}(h:Not c:=by omega){t:Sort u}{x y:t}:@ite t c i x y=y:=if_neg h
theorem jd.{u}:type_of% @List.set_eq_of_length_le.{u}:=@List.set_eq_of_length_le.{u}
theorem eQ.{u}:type_of% @List.all_eq_true.{u}:=@List.all_eq_true.{u}
theorem dU.{u}:type_of% @List.getElem?_cons_succ.{u}:=@List.getElem?_cons_succ.{u}
theorem aL.{u}:type_of% @List.mem_cons.{u}:=@List.mem_cons.{u}
theorem aK.{u}:type_of% @List.not_mem_nil.{u}:=@List.not_mem_nil.{u}
theorem bC:type_of% @or_false:=@or_false
theorem bW.{u}:type_of% @List.getElem_of_mem.{u}:=@List.getElem_of_mem.{u}
theorem b7:type_of% @List.mem_range:=@List.mem_range
theorem jq.{u,v}:type_of% @List.map_take.{u,v}:=@List.map_take.{u,v}
theorem cP.{u,v}:type_of% @congrArg.{u,v}:=@congrArg.{u,v}
theorem cD.{u}:type_of% @List.length_nil.{u}:=@List.length_nil.{u}
theorem bJ.{u,v}:type_of% @List.getElem?_map.{u,v}:=@List.getElem?_map.{u,v}
theorem cC:type_of% @List.getElem?_range:=@List.getElem?_range
theorem bj.{u}:type_of% @List.getElem?_replicate.{u}:=@List.getElem?_replicate.{u}
theorem dI.{u}:type_of% @List.set_append_right.{u}:=@List.set_append_right.{u}
theorem je:type_of% @Nat.sub_self:=@Nat.sub_self
theorem df:type_of% @Go.info_parts:=@Go.info_parts
theorem aG:type_of% @Int.toNat_natCast:=@Int.toNat_natCast
theorem iJ:type_of% @Nat.mul_one:=@Nat.mul_one
theorem cA:type_of% @Int.eq_ofNat_of_zero_le:=@Int.eq_ofNat_of_zero_le
theorem cZ.{u}:type_of% @Ne.symm.{u}:=@Ne.symm.{u}
theorem fX.{u,v}:type_of% @List.getElem?_mapIdx.{u,v}:=@List.getElem?_mapIdx.{u,v}
theorem fU.{u,v}:type_of% @Option.map_some.{u,v}:=@Option.map_some.{u,v}
theorem aW.{u}:type_of% @List.take_of_length_le.{u}:=@List.take_of_length_le.{u}
theorem dz.{u}:type_of% @List.drop_of_length_le.{u}:=@List.drop_of_length_le.{u}
theorem iy.{u}:type_of% @List.getElem?_append.{u}:=@List.getElem?_append.{u}
theorem b9.{u}:type_of% @List.getElem?_drop.{u}:=@List.getElem?_drop.{u}
theorem jT.{u,v}:type_of% @List.map_replicate.{u,v}:=@List.map_replicate.{u,v}
theorem cr:type_of% @Go.Sem.run_bind:=@Go.Sem.run_bind
theorem fQ:type_of% @Go.Sem.run_pure:=@Go.Sem.run_pure
theorem cO:type_of% @Go.Result.andThen_ok:=@Go.Result.andThen_ok
theorem aD.{u}:type_of% @List.getElem?_eq_getElem.{u}:=@List.getElem?_eq_getElem.{u}
theorem fD:type_of% @Nat.zero_le:=@Nat.zero_le
theorem eU:type_of% @Go.wpList_append_own:=@Go.wpList_append_own
theorem jZ.{u}:type_of% @List.length_singleton.{u}:=@List.length_singleton.{u}
theorem dV:type_of% @List.range_succ:=@List.range_succ
theorem ey.{u,v}:type_of% @List.map_append.{u,v}:=@List.map_append.{u,v}
theorem dP.{u,v}:type_of% @List.map_congr_left.{u,v}:=@List.map_congr_left.{u,v}
theorem fI.{u}:type_of% @List.take_append_of_le_length.{u}:=@List.take_append_of_le_length.{u}
theorem eJ.{u}:type_of% @List.filter_append.{u}:=@List.filter_append.{u}
theorem fE.{u}:type_of% @List.filter_cons.{u}:=@List.filter_cons.{u}
theorem bY.{u,v}:type_of% @List.length_map.{u,v}:=@List.length_map.{u,v}
theorem fR.{u}:type_of% @List.length_filter_le.{u}:=@List.length_filter_le.{u}
theorem aF.{u}:type_of% @List.getElem?_toArray.{u}:=@List.getElem?_toArray.{u}
theorem ba.{u}:type_of% @List.getElem?_append_left.{u}:=@List.getElem?_append_left.{u}
theorem dD:type_of% @Nat.add_sub_cancel_left:=@Nat.add_sub_cancel_left
theorem cY.{u}:type_of% @List.length_set.{u}:=@List.length_set.{u}
theorem dt.{u}:type_of% @List.take_append_drop.{u}:=@List.take_append_drop.{u}
theorem jU:type_of% @Nat.lt_of_le_of_lt:=@Nat.lt_of_le_of_lt
theorem j0:type_of% @Nat.testBit_and:=@Nat.testBit_and
theorem iG.{u}:type_of% @List.filter_congr.{u}:=@List.filter_congr.{u}
theorem dW:type_of% @Nat.and_two_pow_sub_one_eq_mod:=@Nat.and_two_pow_sub_one_eq_mod
theorem fL:type_of% @List.length_range:=@List.length_range
theorem jf:type_of% @Nat.pow_le_pow_right:=@Nat.pow_le_pow_right
theorem br.{u}:type_of% @List.append_nil.{u}:=@List.append_nil.{u}
theorem fY:type_of% @Go.IntKind.wrap_u64:=@Go.IntKind.wrap_u64
theorem fS:type_of% @Go.IntWalk.i64_in:=@Go.IntWalk.i64_in
theorem ir:type_of% @Go.u64_and_nat:=@Go.u64_and_nat
theorem cV.{u}:type_of% @List.ext_getElem.{u}:=@List.ext_getElem.{u}
theorem ib:type_of% @Nat.add_sub_cancel:=@Nat.add_sub_cancel
theorem fG.{u}:type_of% @List.drop_eq_getElem_cons.{u}:=@List.drop_eq_getElem_cons.{u}
theorem j4.{u}:type_of% @List.cons.injEq.{u}:=@List.cons.injEq.{u}
theorem aI:type_of% @Go.bodyPost_ret:=@Go.bodyPost_ret
theorem jA:type_of% @Go.ByteArray.toList_eq:=@Go.ByteArray.toList_eq
theorem cL.{u}:type_of% @beq_eq_false_iff_ne.{u}:=@beq_eq_false_iff_ne.{u}
theorem jB.{u}:type_of% @List.drop_replicate.{u}:=@List.drop_replicate.{u}
theorem ic.{u,v}:type_of% @List.getElem_map.{u,v}:=@List.getElem_map.{u,v}
theorem jV:type_of% @List.getElem_range:=@List.getElem_range
theorem aQ:type_of% @decide_eq_false:=@decide_eq_false
theorem bu:type_of% @decide_eq_true:=@decide_eq_true
theorem fg.{u}:type_of% @Array.getD_eq_getD_getElem?.{u}:=@Array.getD_eq_getD_getElem?.{u}
theorem iD.{u}:type_of% @List.getElem?_cons_zero.{u}:=@List.getElem?_cons_zero.{u}
theorem j5:type_of% @Go.Oper.semAt_some:=@Go.Oper.semAt_some
theorem fZ.{u}:type_of% @Array.replicate_succ.{u}:=@Array.replicate_succ.{u}
theorem gi.{u}:type_of% @Array.replicate_zero.{u}:=@Array.replicate_zero.{u}
theorem iH.{u}:type_of% @List.push_toArray.{u}:=@List.push_toArray.{u}
theorem gQ.{u}:type_of% @List.append_toArray.{u}:=@List.append_toArray.{u}
theorem dE:type_of% @Nat.lt_or_ge:=@Nat.lt_or_ge
theorem gj:type_of% @Bool.and_eq_true:=@Bool.and_eq_true
theorem iz.{u}:type_of% @List.getElem_toArray.{u}:=@List.getElem_toArray.{u}
theorem gy.{u}:type_of% @List.take_length.{u}:=@List.take_length.{u}
theorem dZ:type_of% @Nat.eq_zero_or_pos:=@Nat.eq_zero_or_pos
theorem iK:type_of% @Go.wpAny_ready:=@Go.wpAny_ready
theorem eF:type_of% @Go.AllReady.cons:=@Go.AllReady.cons
theorem ig:type_of% @Go.AllReady.nil:=@Go.AllReady.nil
theorem ij.{u}:type_of% @List.getElem?_take_of_lt.{u}:=@List.getElem?_take_of_lt.{u}
theorem gT.{u,v}:type_of% @List.filterMap_cons.{u,v}:=@List.filterMap_cons.{u,v}
theorem fc.{u}:type_of% @Option.getD_some.{u}:=@Option.getD_some.{u}
theorem dg.{u}:type_of% @List.pairwise_iff_getElem.{u}:=@List.pairwise_iff_getElem.{u}
theorem gZ:type_of% @UInt8.lt_iff_toNat_lt:=@UInt8.lt_iff_toNat_lt
theorem jC:type_of% @Int.toNat_of_nonneg:=@Int.toNat_of_nonneg
theorem il.{u}:type_of% @List.eq_of_mem_replicate.{u}:=@List.eq_of_mem_replicate.{u}
theorem gA.{u}:type_of% @List.mem_of_mem_drop.{u}:=@List.mem_of_mem_drop.{u}
theorem fM.{u}:type_of% @List.count_append.{u}:=@List.count_append.{u}
theorem bV.{u}:type_of% @List.mem_append_left.{u}:=@List.mem_append_left.{u}
theorem bX.{u}:type_of% @List.mem_append_right.{u}:=@List.mem_append_right.{u}
theorem jg.{u}:type_of% @List.length_dropLast.{u}:=@List.length_dropLast.{u}
theorem aX:type_of% @Go.World.size_alloc:=@Go.World.size_alloc
theorem cy:type_of% @Go.IntKind.wrap_i64:=@Go.IntKind.wrap_i64
theorem iL.{u}:type_of% @List.getElem_cons_succ.{u}:=@List.getElem_cons_succ.{u}
theorem iM.{u}:type_of% @List.getElem_cons_zero.{u}:=@List.getElem_cons_zero.{u}
structure ay (l:List Nat) (w w':World):Prop where
 os:w'.os=w.os
 tape:w'.tape=w.tape
 output:w'.output=w.output
 size:w.heap.size<=w'.heap.size
 block:∀k,k<w.heap.size->k∉l->w'.heap[k]? =w.heap[k]?
theorem ay.refl(l:List Nat)(w:World):ay l w w:=⟨rfl,rfl,rfl,aH _,λ_ _ _=>rfl⟩
theorem ay.mono(h:ay l w w')(U:∀k,k∈l->k<w.heap.size->k∈l'):ay l' w w':=
 ⟨h.os,h.tape,h.output,h.size,λk z G=>h.block k z λJ=>G (U k J z)⟩
theorem ay.trans{b c:World}(h:ay l a b)(k:ay l' b c)(U:∀x,x∈l'->x∈l\/a.heap.size<=x):ay l a c:=
 ⟨k.os.trans h.os,k.tape.trans h.tape,k.output.trans h.output,cG h.size k.size,λx G z=>
  (k.block x (bS G h.size) λJ=>(U x J).elim z λV=>by omega).trans (h.block x G z)⟩
theorem ay.trans'{b c:World}(h:ay l a b)(k:ay l b c):ay l a c:=h.trans k λ_ z=> .inl z
theorem ay.drew(h:ay l a w):ay l a w.drew:=⟨h.os,h.tape,h.output,h.size,h.block⟩
theorem ay.drewN(h:ay l a w)(n:Nat):ay l a (w.drewN n):=⟨h.os,h.tape,h.output,h.size,h.block⟩
theorem ay.alloc(h:ay l a w)(o:Obj):ay l a (w.alloc o):=
 h.trans (l':=[]) ⟨rfl,rfl,rfl,by simp,λk z _=>jI _ _ _ z⟩ (by simp)
theorem ay.setCell(h:ay l a w){p:Addr}(J:p.block∈l\/a.heap.size<=p.block)(u:Value):ay l a (w.setCell p u):=
 h.trans (l':=[p.block]) ⟨rfl,rfl,rfl,by simp[World.setCell],λk _ G=>Below.heap_setCell _ _ _ _ (by simpa using G)⟩ (by
  intro x z;rw[au] at z;subst z;exact J)
theorem ay.below(h:ay l w w'){B:Nat}(U:B<=w.heap.size)(G:∀k,k∈l->B<=k):Below B w w':=
 ⟨h.os,h.tape,h.output,h.size,λk J=>h.block k (by omega) λz=>by have :=G k z;omega⟩
theorem ay.of_grown(h:w.grownBy w' row)(J:∀k,row=some k->k∈l\/w.heap.size<=k):ay l w w':=
 ⟨h.os,h.tape,h.output,h.size,λk z G=>h.block k z λe=>(J k e.symm).elim G λU=>by omega⟩
def bh (w:World) (b:Nat) (c:Array Value) (T:Nat):Prop:=w.heap[b]? =some (.cells c T (0,0))
theorem bh.lt(h:bh w b c T):b<w.heap.size:=(Array.getElem?_eq_some_iff.1 h).1
theorem bh.keep(h:bh w b c T){l:List Nat}(G:ay l w w')(z:b∉l):bh w' b c T:=
 (G.block b h.lt z).trans h
theorem bh.cell(h:bh w b c T)(o:Nat):w.cell? ⟨b,o,none⟩=c[o]? :=by
 unfold bh at h;simp[World.cell?,h]
theorem bh.frozen(h:bh w b c T)(o:Nat):w.frozen? ⟨b,o,none⟩=false:=by
 unfold bh at h;simp[World.frozen?,h]
theorem bh.set(h:bh w b c T)(o:Nat)(v:Value):bh (w.setCell ⟨b,o,none⟩ v) b (c.setIfInBounds o v) T:=by
 unfold bh at *;simp[World.setCell,Array.getElem?_modify,h]
theorem bh.other(h:bh w b c T){a:Addr}(z:b≠a.block)(v:Value):bh (w.setCell a v) b c T:=by
 unfold bh at *;rw[Below.heap_setCell _ _ _ _ z];exact h
theorem bh.alloc(h:bh w b c T)(o:Obj):bh (w.alloc o) b c T:=
 h.keep ((ay.refl [] w).alloc o) (by simp)
theorem bh.new(w:World)(c:Array Value)(T:Nat):bh (w.alloc (.cells c T)) w.heap.size c T:=by
 unfold bh;exact heap_alloc_new w _
theorem bh.drew(h:bh w b c T):bh w.drew b c T:=h
theorem bh.drewN(h:bh w b c T)(n:Nat):bh (w.drewN n) b c T:=h
def Reads (w:World) (v:Value) (g:Nat) (xs:List Value):Prop:=
 ∃a cap,v= .slice a xs.length cap/\xs.length<=cap/\cap<=maxLen/\(xs≠[]->g<w.heap.size/\∃off,a=some ⟨g,off,none⟩/\∀j,j<xs.length->w.cell? ⟨g,off+j,none⟩=xs[j]?)
theorem Reads.keep(h:Reads w v g xs){l:List Nat}(G:ay l w w')(V:g∉l):Reads w' v g xs:=by
 obtain⟨a,cap,J,h2,h3,U⟩:=h;refine⟨a,cap,J,h2,h3,λhx=> ?_⟩;obtain⟨z,off,W,h6⟩:=U hx;refine⟨bS z G.size,off,W,λj hj=> ?_⟩;rw[aO (w:=w) (G.block g z V)];exact h6 j hj
def eZ (w:World) (v:Value) (g:Nat) (T sz n:Nat) (xs:List Value):Prop:=
 xs.length=n*sz/\∃a cap,v= .slice a n cap/\n<=cap/\cap<=maxLen/\(n≠0->a=some ⟨g,0,none⟩/\∃c:Array Value,bh w g c T/\c.size=cap*sz/\c.toList.take (n*sz)=xs)
theorem eZ.keep(h:eZ w v g T sz n xs){l:List Nat}(z:ay l w w')(W:g∉l):eZ w' v g T sz n xs:=by
 obtain⟨V,a,cap,J,h2,h3,U⟩:=h;refine⟨V,a,cap,J,h2,h3,λhx=> ?_⟩;obtain⟨h5,c,h6,G⟩:=U hx;exact⟨h5,c,h6.keep z W,G⟩
theorem eZ.keepIf(h:eZ w v g T sz n xs){l:List Nat}(G:ay l w w')(hg:n≠0->g∉l):eZ w' v g T sz n xs:=by
 obtain⟨W,a,cap,U,h2,h3,V⟩:=h;refine⟨W,a,cap,U,h2,h3,λz=> ?_⟩;obtain⟨h5,c,h6,J⟩:=V z;exact⟨h5,c,h6.keep G (hg z),J⟩
theorem eZ.len(h:eZ w v g T sz n xs):xs.length=n*sz:=h.1
theorem uK{c:List α}{m:Nat}{xs:List α}(h:c.take m=xs){j:Nat}(z:j<m):c[j]? =xs[j]? :=by
 rw[<-h,bU,aB z]
theorem eZ.reads(h:eZ w v g T 1 n xs):Reads w v g xs:=by
 obtain⟨h0,a,cap,J,h2,h3,U⟩:=h;have V:xs.length=n:=by omega
 refine⟨a,cap,by rw[V];exact J,by omega,h3,λhx=> ?_⟩;have :n≠0:=λe=>hx (bo (by omega))
 obtain⟨W,c,z,h7,G⟩:=U this;refine⟨z.lt,0,W,λj hj=> ?_⟩;rw[z.cell,<-dH];simpa using uK G (j:=j) (by omega)
theorem eZ.set(h:eZ w v g T sz n xs)(j:Nat)(u:Value):eZ (w.setCell ⟨g,j,none⟩ u) v g T sz n (xs.set j u):=by
 obtain⟨V,a,cap,J,h2,h3,U⟩:=h;refine⟨by simpa using V,a,cap,J,h2,h3,λhx=> ?_⟩;obtain⟨W,c,h6,z,G⟩:=U hx;refine⟨W,_,h6.set j u,by simpa using z,?_⟩;rw[Array.toList_setIfInBounds,List.take_set,G]
theorem eZ.drew(h:eZ w v g T sz n xs):eZ w.drew v g T sz n xs:=h
theorem eZ.alloc(h:eZ w v g T sz n xs)(o:Obj):eZ (w.alloc o) v g T sz n xs:=
 h.keep ((ay.refl [] w).alloc o) (by simp)
theorem eZ.cell(h:eZ w v g T sz n xs)(V:n≠0):g<w.heap.size/\(∃cap,v= .slice g n cap/\n<=cap/\cap<=maxLen)/\(∀j,j<n*sz->w.cell? ⟨g,j,none⟩=xs[j]?)/\∀j,w.frozen? ⟨g,j,none⟩=false:=by
 obtain⟨h0,a,cap,J,h2,W,U⟩:=h;obtain⟨h5,c,z,h7,G⟩:=U V;subst h5;refine⟨z.lt,⟨cap,J,h2,W⟩,λj hj=> ?_,λj=>z.frozen j⟩;rw[z.cell,<-dH];exact uK G hj
theorem eZ.val(h:eZ w v g T sz n xs):∃a cap,v= .slice a n cap/\n<=cap/\cap<=maxLen:=by
 obtain⟨U,a,cap,z,J,G,V⟩:=h;exact⟨a,cap,z,J,G⟩
theorem eZ.nil(w:World)(g T sz:Nat):eZ w (.slice none 0 0) g T sz 0 []:=⟨by simp,none,0,rfl,by simp,by simp[maxLen],λh=>absurd rfl h⟩
theorem eZ.anyG(h:eZ w v g T sz n xs)(z:n=0)(W:Nat):eZ w v W T sz n xs:=by
 obtain⟨G,a,cap,J,V,U,h4⟩:=h;exact⟨G,a,cap,J,V,U,λh=>absurd z h⟩
theorem eZ.of_row(h:w.ownsRow z T sz v n xs):∃g,eZ w v g T sz n xs/\(n≠0->z<=g/\v.ownBlock=some g):=by
 obtain⟨V,J⟩:=h;rcases J with ⟨rfl,rfl⟩|⟨g,cap,G,rfl,W,hh,h2,h3,U,h5⟩
 ·obtain rfl:xs=[]:=bo (by omega)
  exact⟨0,eZ.nil w 0 T sz,λh=>absurd rfl h⟩
 ·exact⟨g,⟨V,_,cap,rfl,h2,h3,λ_=>⟨rfl,G,hh,U,h5⟩⟩,λ_=>⟨W,rfl⟩⟩
theorem ay.setRow(h:ay l a w){g:Nat}(J:g∈l\/a.heap.size<=g)(c:Array Value):ay l a (w.setRow g c):=
 h.trans (l':=[g]) ⟨rfl,rfl,rfl,by simp[World.setRow],λk _ G=>setRow_other w g k _ (by simpa using G)⟩ (by
  intro x z;rw[au] at z;subst z;exact J)
theorem oG (z:Array Value)(n:Nat):(Builtin.zeroCells z n).size=n*z.size:=by simp[Builtin.zeroCells]
theorem Fy{P:Program}{t e ty:Nat}{z:Value}(ht:P.underlying t=some (.slice e))(hz:∀w,(zeroValue e).run P w= .ok z w)
  (J:z.cells.size=sz) (h1:∀u∈(Builtin.zeroCells z.cells n).toList,u.oneCell'=true) (h:eZ w v g T sz n xs):
  ∃w',(Builtin.clear_ #[t] ty #[v]).run P w= .ok (.tuple #[]) w'/\eZ w' v g T sz n (Builtin.zeroCells z.cells n).toList/\ay [g] w w':=by
 obtain⟨h0,a,cap,rfl,V,h3,h4⟩:=h;by_cases U:n=0
 ·subst U
  refine⟨w,?_,⟨by simp[oG],a,cap,rfl,V,h3,λh=>absurd rfl h⟩,ay.refl _ _⟩;cases a<;>simp[Builtin.clear_,dB ht]
 ·obtain⟨rfl,c,hc,hs,hk⟩:=h4 U
  have G:(Builtin.zeroCells z.cells n).toList.length=n*sz:=by rw[dO,oG,J]
  have aa:n*sz<=c.size:=by rw[hs];exact Nat.mul_le_mul_right _ V
  have W:=run_storeCells_at P g 0 T (Builtin.zeroCells z.cells n).toList 0 c w hc (by rw[G];omega) h1;simp only[dC,eP,bQ,bc] at W;generalize hC:((Builtin.zeroCells z.cells n).toList++List.drop (Builtin.zeroCells z.cells n).toList.length c.toList).toArray=C at W;refine⟨w.setRow g C,?_,⟨G,_,cap,rfl,V,h3,λ_=>⟨rfl,C,setRow_heap w g c _ T _ hc,?_,?_⟩⟩,(ay.refl _ _).setRow (by simp) _⟩
  ·cases n with
   |zero=>exact absurd rfl U
   |succ n=>simp[Builtin.clear_,dB ht,hz,W]
  ·rw[<-hC,bN,aC,bM,G,dO];omega
  ·rw[<-G,<-hC];exact List.take_left
theorem zL (l:List α)(i:Nat)(d:α):l.set i (l.getD i d)=l:=by
 apply cE;intro j;rw[fh];split
 ·rename_i hj
  subst hj;split
  ·rename_i hi;simp[hi]
  ·rename_i hi;simp at hi;simp[hi]
 ·rfl
end
section
open Go.ChangeShapes Go.WideShapes Go.ChangeAt Go.RowKit
variable{α:Type}{T b g gf gl gn i j n sz z:Nat}{l l':List Nat}{a w w':World}{c:Array Value}{row:Option Nat}{v:Value}{xs:List Value}{ps:List (Int×Int)}
section
variable {H:Type} {enc:TypeId×Value->H} {P:Program} {W:World} {base:Nat} {spare:Nat->Bool} {held:Bool}
theorem Fz {a:Addr}{n:Nat}{v:Value}(h:W.cell? (a.add n)=some v)(G:n=0):∃g off,a=⟨g,off,none⟩:=by
 subst G;have :a.add 0=a:=by simp[Addr.add]
 rw[this] at h;obtain⟨g,off,z⟩:=a;have :=World.cell?_spot h;simp at this;subst this;exact⟨g,off,rfl⟩
theorem add_plain(g off n:Nat):(⟨g,off,none⟩:Addr).add n=⟨g,off+n,none⟩:=by unfold Addr.add;split<;>simp_all
theorem lt_of_cell{a:Addr}{v:Value}(h:W.cell? a=some v):a.block<W.heap.size:=World.block_lt_of_cell? W a h
theorem Cl {t e:TypeId}{fuel sz:Nat}{cs:List Value}{x:DataW H×List MemPlace}(ht:P.underlying t=some (.slice e))(hc:P.cellsOf e=sz)(aa:0<sz)
  (h:DataW.trod enc P W base spare held fuel t cs=some x):
  ∃a len cap,cs=[.slice a len cap]/\len<=cap/\cap<=maxLen/\(len≠0->∃g off,a=some ⟨g,off,none⟩/\g<W.heap.size/\
   ∀i,i<len->∃(z:List Value) (y:DataW H×List MemPlace) (n:Nat),z.length=sz/\(∀c,c<sz->W.cell? ⟨g,off+(i*sz+c),none⟩=z[c]?)/\DataW.trod enc P W base spare held n e z=some y):=by
 rcases Deep.open_slice ht h with ⟨rfl,-⟩|⟨a,len,cap,m,n,D,Pl,rfl,-,hl,hm,ac,-,hx⟩
 ·exact⟨none,0,0,rfl,by simp,by simp[maxLen],λh=>absurd rfl h⟩
 ·have ah:len<=m:=by rw[ac];split<;>omega
  refine⟨some a,len,cap,rfl,hl,hm,λh0=> ?_⟩;rw[hc] at hx;obtain⟨V,h1,-⟩:=hx 0 (by omega);obtain⟨-,ag,J⟩:=World.cells?_some h1;have G:=J 0 aa;have e0:(a.add (0*sz))=a:=by simp[Addr.add]
  rw[e0] at G;cases hv:V[0]? with
  |none=>rw[List.getElem?_eq_none_iff] at hv;omega
  |some v=>
   rw[hv] at G;obtain⟨g,off,rfl⟩:=Fz G rfl;refine⟨g,off,rfl,by simpa[add_plain] using lt_of_cell G,λi hi=> ?_⟩;obtain⟨z,h2,h3⟩:=hx i (by omega);obtain⟨-,U,af⟩:=World.cells?_some h2;refine⟨z,_,n,U,λc ae=> ?_,h3⟩;have :=af c ae;rw[add_plain,add_plain] at this;rw[<-this,Nat.add_assoc]
end
end
section
variable{α:Type}{T b g gf gl gn i j n sz z:Nat}{l l':List Nat}{a w w':World}{c:Array Value}{row:Option Nat}{v:Value}{xs:List Value}{ps:List (Int×Int)}
def rJ (W k:Nat):Nat:=W/256^k%256
def lN (W:Nat):List Nat:=(List.range 8).map (rJ W)
def l7:List Nat->Nat
 | []=>0
 |c::l=>c+256*l7 l
theorem Cm (W k:Nat):rJ W k<256:=iw _ (by decide)
theorem l8 (W:Nat):(lN W).length=8:=by simp[lN]
theorem uL (W k:Nat)(h:k<8):(lN W).getD k 0=rJ W k:=by simp[lN,h]
theorem Sb (W:Nat):∀c∈lN W,c<256:=by
 intro c h;simp only[lN,bH] at h;obtain⟨k,-,rfl⟩:=h;exact Cm W k
theorem vV (l m:List Nat):l7 (l++m)=l7 l+256^l.length*l7 m:=by
 induction l with
 |nil=>simp[l7]
 |cons c l ih=>rw[ia,l7,ih,l7,cu,Nat.pow_succ',Nat.mul_add,Nat.mul_assoc,Nat.add_assoc]
theorem Jn (c:Nat):l7 [c]=c:=by simp[l7]
theorem Mr (n:Nat):l7 (List.replicate n 0)=0:=by
 induction n with
 |zero=>rfl
 |succ n ih=>simp[List.replicate_succ,l7,ih]
theorem FA (h:∀c∈l,c<256):l7 l<256^l.length:=by
 induction l with
 |nil=>simp[l7]
 |cons c l ih=>
  have G:=ih λx z=>h x (jc _ z)
  have J:=h c jS;rw[l7,cu,Nat.pow_succ'];omega
theorem Jo (h:∀c∈l,c<256):∀k,rJ (l7 l) k=l.getD k 0:=by
 induction l with
 |nil=>intro k;simp[l7,rJ]
 |cons c l ih=>
  have G:=h c jS;intro k;cases k with
  |zero=>simp[l7,rJ];omega
  |succ k=>
   have :=ih (λx z=>h x (jc _ z)) k;rw[List.getD_cons_succ,<-this];unfold rJ;rw[l7,Nat.pow_succ',<-Nat.div_div_eq_div_mul]
   congr 2
   omega
theorem EB (l:List Nat)(k:Nat)(h:k<l.length):l7 (l.take (k+1))=l7 (l.take k)+l.getD k 0*256^k:=by
 rw[bP h,vV,Jn,aJ,cT (by omega),Nat.mul_comm];simp[h]
theorem Sc (h:∀c∈l,c<256)(k:Nat):∀c∈l.take k,c<256:=λc z=>h c (bO z)
def nY (c:Nat):Bool:=decide (33<=c)&&(decide (c<=126)&&(c != 47))
def iu (l:List Nat):Bool:=decide (1<=l.length)&&decide (l.length<=7)&&(l != [46])&&(l != [46,46])&&l.all nY
def rK (l:List Nat):Nat:=l7 l+72057594037927936*l.length
def A5 (l:List Nat):List Nat:=l++List.replicate (7-l.length) 0++[l.length]
theorem oN (h:iu l=true):1<=l.length/\l.length<=7:=by simp[iu] at h;omega
theorem xH (h:l.length<=7):(A5 l).length=8:=by simp[A5];omega
theorem KE (G:l.length<=7)(h:∀c∈l,c<256):∀c∈A5 l,c<256:=by
 intro c z;simp only[A5,aT,List.mem_replicate,au] at z;rcases z with(z|⟨-,rfl⟩)|rfl
 ·exact h c z
 ·omega
 ·omega
theorem Ad (h:l.length<=7):l7 (A5 l)=rK l:=by
 rw[A5,vV,vV,Mr,Jn,aC,bE,show l.length+(7-l.length)=7 by omega,rK];rfl
theorem Xa (z:l.length<=7)(h:∀c∈l,c<256):rK l<18446744073709551616:=by
 have :=FA (KE z h);rw[Ad z,xH z] at this;simpa using this
theorem PK (z:l.length<=7)(h:∀c∈l,c<256):lN (rK l)=A5 l:=by
 have U:=KE z h;apply cE;intro k;by_cases G:k<8
 ·have J:(A5 l)[k]? =some ((A5 l).getD k 0):=by simp[xH z,G]
  rw[J,<-Jo U,Ad z];simp[lN,G]
 ·rw[aP (by rw[l8];omega),aP (by rw[xH z];omega)]
def kI (W:Nat):Option (List Nat):=if rJ W 7<=7/\iu ((lN W).take (rJ W 7))=true/\rK ((lN W).take (rJ W 7))=W then some ((lN W).take (rJ W 7)) else none
theorem oO (z:iu l=true)(h:∀c∈l,c<256):kI (rK l)=some l:=by
 obtain⟨W,G⟩:=oN z;have J:=PK G h;have U:rJ (rK l) 7=l.length:=by
  rw[<-uL _ 7 (by omega),J,A5,aj,aR (by simp;omega)];simp[show 7-(l.length+(7-l.length))=0 by omega]
 have V:(lN (rK l)).take l.length=l:=by
  rw[J,A5,aV,List.take_left]
 unfold kI;rw[U,V,aB ⟨G,z,rfl⟩]
def fnv (h c:Nat):Nat:=(h ^^^ c)*16777619%4294967296
def TE (h W:Nat):Nat:=(lN W).foldl fnv h
def Ms (l:List Nat):Nat:=l.foldl TE 2166136261
theorem adm (h c:Nat):fnv h c<4294967296:=iw _ (by decide)
theorem A7 (l:List Nat):∀h,h<4294967296->l.foldl fnv h<4294967296:=by
 induction l with
 |nil=>intro h z;exact z
 |cons c l ih=>intro h _;exact ih _ (adm h c)
theorem aaR (h W:Nat)(z:h<4294967296):TE h W<4294967296:=A7 _ _ z
theorem zM (l:List Nat):∀h,h<4294967296->l.foldl TE h<4294967296:=by
 induction l with
 |nil=>intro h z;exact z
 |cons c l ih=>intro h z;exact ih _ (aaR h c z)
theorem KF (l:List Nat):Ms l<4294967296:=zM l _ (by decide)
def iQ (ps:List (Int×Int)) (j:Nat):Int:=(ps.getD j (0,0)).1
def l9 (ps:List (Int×Int)) (j:Nat):Int:=(ps.getD j (0,0)).2
theorem qf (ps:List (Int×Int))(k:Nat)(h:k<ps.length):ps.take (k+1)=ps.take k++[(iQ ps k,l9 ps k)]:=by
 have e:(iQ ps k,l9 ps k)=ps[k]:=by simp[iQ,l9,h]
 rw[e];exact bP h
theorem FB (ps:List (Int×Int))(k:Nat)(h:k<ps.length):(iQ ps k,l9 ps k)∈ps:=by
 have :(iQ ps k,l9 ps k)=ps[k]:=by simp[iQ,l9,h]
 rw[this];exact bF h
def az (xs:List Int) (ps:List (Int×Int)):List Int:=ps.foldl (λa p=>a.set p.1.toNat p.2) xs
theorem Ae (xs:List Int):az xs []=xs:=rfl
theorem bz (xs:List Int)(ps qs:List (Int×Int)):az xs (ps++qs)=az (az xs ps) qs:=by simp[az,List.foldl_append]
theorem lO (xs:List Int)(a x:Int):az xs [(a,x)]=xs.set a.toNat x:=rfl
theorem cj (ps:List (Int×Int)):∀xs,(az xs ps).length=xs.length:=by
 induction ps with
 |nil=>intro xs;rfl
 |cons p ps ih=>intro xs;show(az (xs.set p.1.toNat p.2) ps).length=_;rw[ih];simp
theorem Cn (xs:List Int)(ps:List (Int×Int))(k:Nat)(h:k<ps.length):az xs (ps.take (k+1))=(az xs (ps.take k)).set (iQ ps k).toNat (l9 ps k):=by
 rw[qf ps k h,bz];rfl
theorem getD_set_ne{l:List Int}(x:Int)(h:i≠j):(l.set i x).getD j 0=l.getD j 0:=by
 simp[List.getElem?_set_ne h]
theorem xI{l:List Int}(x:Int)(h:i<l.length):(l.set i x).getD i 0=x:=by
 simp[h]
theorem A8{l:List Int}(x:Int):(l.set i x).getD j 0=if i=j/\j<l.length then x else l.getD j 0:=by
 by_cases h:i=j
 ·subst h
  by_cases z:i<l.length
  ·rw[xI x z,aB ⟨rfl,z⟩]
  ·rw[aA,jd (by omega)]
 ·rw[getD_set_ne x h,aA]
theorem dX (ps:List (Int×Int))(i:Nat):∀xs,(∀p∈ps,p.1.toNat≠i)->(az xs ps).getD i 0=xs.getD i 0:=by
 induction ps with
 |nil=>intro xs _;rfl
 |cons p ps ih=>
  intro xs h;show(az (xs.set p.1.toNat p.2) ps).getD i 0=_;rw[ih _ λq z=>h q (jc _ z),getD_set_ne _ (h p jS)]
def sI (a:Int):Bool:=decide (0<=a)&&decide (a<3128)&&(decide (a<8)||decide (816<=a))
theorem mr{a:Int}:sI a=true↔0<=a/\a<3128/\(a<8\/816<=a):=by
 simp[sI,and_assoc]
def xJ (ps:List (Int×Int)):Bool:=ps.all λp=>sI p.1
theorem TF (h:xJ ps=true){p:Int×Int}(z:p∈ps):0<=p.1/\p.1<3128/\(p.1<8\/816<=p.1):=mr.1 (eQ.1 h _ z)
def ft (ps:List (Int×Int)):List Int:=ps.flatMap λp=>[p.1%18446744073709551616,p.2]
theorem nv (ps:List (Int×Int)):(ft ps).length=2*ps.length:=by
 induction ps with
 |nil=>rfl
 |cons p ps ih=>simp[ft] at ih ⊢;omega
theorem ID (ps qs:List (Int×Int)):ft (ps++qs)=ft ps++ft qs:=by simp[ft]
theorem Co (ps:List (Int×Int))(k:Nat)(h:k<ps.length):ft (ps.take (k+1))=ft (ps.take k)++[iQ ps k%18446744073709551616,l9 ps k]:=by
 rw[qf ps k h,ID];rfl
theorem PL (ps:List (Int×Int)):∀k,k<ps.length->(ft ps).getD (2*k) 0=iQ ps k%18446744073709551616/\(ft ps).getD (2*k+1) 0=l9 ps k:=by
 induction ps with
 |nil=>intro k h;simp at h
 |cons p ps ih=>
  intro k h;have z:ft (p::ps)=p.1%18446744073709551616::p.2::ft ps:=rfl;cases k with
  |zero=>rw[z];exact⟨rfl,rfl⟩
  |succ k=>
   have :=ih k (by simpa using h);rw[z];simp only[iQ,l9,aj,show 2*(k+1)=2*k+1+1 by omega,dU] at this ⊢;exact this
def okP (ps:List (Int×Int)):Prop:=∀p∈ps,(-9223372036854775808<=p.1/\p.1<=9223372036854775807)/\0<=p.2/\p.2<=18446744073709551615
theorem Sd (h:okP ps){k:Nat}(z:k<ps.length):(-9223372036854775808<=iQ ps k/\iQ ps k<=9223372036854775807)/\0<=l9 ps k/\l9 ps k<=18446744073709551615:=h _ (FB ps k z)
def Cq (xs:List Int):Prop:=∀x∈xs,0<=x/\x<=18446744073709551615
theorem FC (h:okP ps):Cq (ft ps):=by
 intro x z;simp only[ft,List.mem_flatMap,aL,aK,bC] at z;obtain⟨p,G,z⟩:=z;have :=h p G;omega
theorem A9{xs:List Int}(h:Cq xs)(k:Nat):0<=xs.getD k 0/\xs.getD k 0<=18446744073709551615:=by
 rw[aj];cases hk:xs[k]? with
 |none=>simp
 |some x=>exact h x (List.mem_of_getElem? hk)
def lZ (ws:List Int) (m:Nat):Bool:=(List.range m).all λk=>sI (ws.getD (2*k) 0)
theorem FD (h:okP ps):lZ (ft ps) ps.length=xJ ps:=by
 have J:∀k,k<ps.length->sI ((ft ps).getD (2*k) 0)=sI (iQ ps k):=by
  intro k z;rw[(PL ps k z).1,Bool.eq_iff_iff,mr,mr];have :=Sd h z;omega
 rw[Bool.eq_iff_iff];unfold lZ xJ;rw[eQ,eQ];constructor
 ·intro G p U
  obtain⟨k,z,rfl⟩:=bW U;have :=G k (by simpa using z);rw[J k z] at this;simpa[iQ,aj,z] using this
 ·intro G k z
  rw[b7] at z;rw[J k z];exact G _ (FB ps k z)
def nr (ws:List Int):List (Int×Int):=ws.mapIdx λk w=>((9+k:Int),w)
theorem oo (ws:List Int):(nr ws).length=ws.length:=by simp[nr]
theorem Mt{ws:List Int}{p:Int×Int}(h:p∈nr ws):9<=p.1/\p.1<9+ws.length:=by
 obtain⟨k,G,rfl⟩:=bW h;have z:k<ws.length:=by simpa[nr] using G
 simp[nr];omega
def rL (ws:List Int):Int:=(ws.length/2:Nat)*4294967296+(Ms (ws.map Int.toNat):Nat)
def nM (f:List Int):Nat->Nat
 |0=>0
 |k+1=>nM f k+if f.getD k 0∈f.take k then 0 else 1
def iA (ps:List (Int×Int)):List Int:=ps.map λp=>p.1/8
def KG (ps:List (Int×Int)):Nat:=nM (iA ps) ps.length
theorem DG (ps:List (Int×Int))(k:Nat)(h:k<ps.length):(iA ps).getD k 0=iQ ps k/8:=by
 simp[iA,iQ,h]
theorem nN (ps:List (Int×Int))(k:Nat):(iA ps).take k=iA (ps.take k):=by simp[iA]
theorem KH (ps:List (Int×Int))(k:Nat)(h:k<ps.length):(iA ps).take (k+1)=(iA ps).take k++[iQ ps k/8]:=by
 rw[nN,nN,qf ps k h];simp[iA]
theorem Af (f:List Int):∀k,nM f k<=k
 |0=>aH _
 |k+1=>by
  have :=Af f k;unfold nM;split<;>omega
def mz (ps:List (Int×Int)):Nat:=ps.length+KG ps+1
def Cr (ps:List (Int×Int)):Nat:=if ps=[] then 0 else mz (nr (ft ps))+3+mz ps+3
theorem sJ (ps:List (Int×Int)):mz ps<=2*ps.length+1:=by
 have :=Af (iA ps) ps.length;unfold mz KG;omega
theorem Mu (a x:Int):mz [(a,x)]=3:=by simp[mz,KG,nM]
theorem TG (ps:List (Int×Int)):Cr ps<=6*ps.length+8:=by
 have z:=sJ ps;have h:=sJ (nr (ft ps));rw[oo,nv] at h;unfold Cr;split<;>omega
def xK (xs:List Int) (ps:List (Int×Int)):List Int:=az (az xs ps) [(8,0)]
def nO (xs:List Int) (ps:List (Int×Int)):List Int:=if ps=[] then xs else xK (az (az xs (nr (ft ps))) [(8,rL (ft ps))]) ps
theorem PN (xs:List Int)(ps:List (Int×Int)):(xK xs ps).length=xs.length:=by rw[xK,cj,cj]
theorem Xb (xs:List Int)(ps:List (Int×Int))(h:8<xs.length):(xK xs ps).getD 8 0=0:=by
 rw[xK,lO];exact xI _ (by rw[cj];exact h)
end
section
open Go.RowKit
variable{α:Type}{T b g gf gl gn i j n sz z:Nat}{l l':List Nat}{a w w':World}{c:Array Value}{row:Option Nat}{v:Value}{xs:List Value}{ps:List (Int×Int)}
def aY (l:List Int):List Value:=l.map (Value.int .u64)
def bools (l:List Bool):List Value:=l.map Value.bool
theorem dF{l:List Int}(h:j<l.length):(aY l)[j]? =some (.int .u64 (l.getD j 0)):=by simp[aY,h]
theorem uM{l:List Bool}(h:j<l.length):(bools l)[j]? =some (.bool (l.getD j false)):=by simp[bools,h]
theorem lI (l:List Int)(j:Nat)(x:Int):(aY l).set j (.int .u64 x)=aY (l.set j x):=by simp[aY,List.map_set]
theorem Cs (l:List Bool)(j:Nat)(x:Bool):(bools l).set j (.bool x)=bools (l.set j x):=by simp[bools,List.map_set]
theorem bB (l:List Int):(aY l).length=l.length:=by simp[aY]
theorem qg (l:List Bool):(bools l).length=l.length:=by simp[bools]
theorem fk (l:List Int):∀u∈aY l,u.oneCell'=true:=by
 intro u h;simp only[aY,bH] at h;obtain⟨x,-,rfl⟩:=h;rfl
theorem Jp (n:Nat):List.replicate n (Value.int .u64 0)=aY (List.replicate n 0):=by simp[aY]
theorem tX (xs h:List Int):aY (xs++h)=aY xs++aY h:=by simp[aY]
theorem fW{xs:List Int}(h:Reads w v g (aY xs)):∃a cap,v= .slice a xs.length cap/\xs.length<=cap/\cap<=maxLen/\
  Hid (∀k,k<xs.length->g<w.heap.size/\∃off,a=some ⟨g,off,none⟩/\w.cell? ⟨g,off+k,none⟩=some (.int .u64 (xs.getD k 0))):=by
 obtain⟨a,cap,J,G,h2,W⟩:=h;rw[bB] at *;refine⟨a,cap,J,G,h2,λk z=> ?_⟩;obtain⟨V,off,ho,U⟩:=W (by intro e;have :=cP List.length e;rw[bB,cD] at this;omega);exact⟨V,off,ho,(U k z).trans (dF z)⟩
theorem Reads.anyG(h:Reads w v g xs)(U:xs=[])(V:Nat):Reads w v V xs:=by
 obtain⟨a,cap,z,J,G,W⟩:=h;exact⟨a,cap,z,J,G,λh=>absurd U h⟩
def lQ (w:World) (v:Value) (g:Nat) (ps:List (Int×Int)):Prop:=
 ∃a cap,v= .slice a ps.length cap/\ps.length<=cap/\cap<=maxLen/\(ps.length≠0->g<w.heap.size/\∃off,a=some ⟨g,off,none⟩/\
  ∀j,j<ps.length->w.cell? ⟨g,off+j*2,none⟩=some (.int .i64 (iQ ps j))/\w.cell? ⟨g,off+j*2+1,none⟩=some (.int .u64 (l9 ps j)))
theorem lQ.keep(h:lQ w v g ps){l:List Nat}(G:ay l w w')(hg:ps.length≠0->g∉l):lQ w' v g ps:=by
 obtain⟨a,cap,h1,h2,h3,h4⟩:=h;refine⟨a,cap,h1,h2,h3,λV=> ?_⟩;obtain⟨z,off,h5,W⟩:=h4 V;refine⟨bS z G.size,off,h5,λj U=> ?_⟩;have J:=G.block g z (hg V);exact⟨(aO (w:=w) (w':=w') (a:=⟨g,off+j*2,none⟩) J).trans (W j U).1,(aO (w:=w) (w':=w') (a:=⟨g,off+j*2+1,none⟩) J).trans (W j U).2⟩
theorem lQ.val(h:lQ w v g ps):∃a cap,v= .slice a ps.length cap/\ps.length<=cap/\cap<=maxLen:=by
 obtain⟨a,cap,z,J,G,U⟩:=h;exact⟨a,cap,z,J,G⟩
theorem lQ.get{a:Option Addr}{cap:Nat}(h:lQ w (.slice a n cap) g ps){j:Nat}(V:j<ps.length):
  g<w.heap.size/\∃off,a=some ⟨g,off,none⟩/\w.cell? ⟨g,off+j*2,none⟩=some (.int .i64 (iQ ps j))/\w.cell? ⟨g,off+j*2+1,none⟩=some (.int .u64 (l9 ps j)):=by
 obtain⟨a',z,J,h2,h3,U⟩:=h;cases J;obtain⟨W,off,h6,G⟩:=U (by omega);exact⟨W,off,h6,G j V⟩
def jb (ps:List (Int×Int)):List Value:=ps.flatMap λp=>[.int .i64 p.1,.int .u64 p.2]
theorem sK (ps:List (Int×Int)):(jb ps).length=ps.length*2:=by
 induction ps with
 |nil=>rfl
 |cons p ps ih=>simp[jb] at ih ⊢;omega
theorem uz (ps qs:List (Int×Int)):jb (ps++qs)=jb ps++jb qs:=by simp[jb]
theorem ny (ps:List (Int×Int)):∀k,k<ps.length->(jb ps)[k*2]? =some (.int .i64 (iQ ps k))/\(jb ps)[k*2+1]? =some (.int .u64 (l9 ps k)):=by
 induction ps with
 |nil=>intro k h;simp at h
 |cons p ps ih=>
  intro k h;have z:jb (p::ps)= .int .i64 p.1:: .int .u64 p.2::jb ps:=rfl;cases k with
  |zero=>rw[z];exact⟨rfl,rfl⟩
  |succ k=>
   have :=ih k (by simpa using h);rw[z,show(k+1)*2=k*2+1+1 by omega];simp only[dU];exact this
theorem eZ.preads(h:eZ w v g T 2 ps.length (jb ps)):lQ w v g ps:=by
 obtain⟨a,cap,U,V,h2⟩:=h.val;refine⟨a,cap,U,V,h2,λW=> ?_⟩;obtain⟨hg,⟨J,z,-,-⟩,G,-⟩:=h.cell W;rw[U] at z;cases z;refine⟨hg,0,rfl,λj hj=> ?_⟩;rw[bc,G (j*2) (by omega),G (j*2+1) (by omega)];exact ny ps j hj
def jJ (w:World) (ws:List Int) (e:Ending) (w':World):Prop:=
 ∃v g,e=(v:Value)/\Reads w' v g (aY ws)/\w.heap.size<=g/\ay [] w w'
theorem lH (w:World)(cs:List Value)(T m:Nat)(z:m=w.heap.size):∀j u,cs[j]? =some u->(w.alloc (.cells cs.toArray T)).cell? ((⟨m,0,none⟩:Addr).add j)=some u:=by
 intro j u h;subst z;rw[add_plain,(bh.new w cs.toArray T).cell,bc];simpa using h
def kQ (w:World) (ps:List (Int×Int)) (e:Ending) (w':World):Prop:=
 ∃v g,e=(v:Value)/\lQ w' v g ps/\w.heap.size<=g/\ay [] w w'
theorem DI (n:Nat):(madeCells #[Value.int .i64 0,Value.int .u64 0] (n*2)).toList=jb (List.replicate n (0,0)):=by
 apply cE;intro j;simp only[madeCells,Array.toList_map,Array.toList_range,bJ];by_cases G:j<n*2
 ·rw[cC G]
  have z:=ny (List.replicate n ((0:Int),(0:Int))) (j/2) (by simp;omega);have U:iQ (List.replicate n ((0:Int),(0:Int))) (j/2)=0:=by
   simp[iQ,bj];split<;>rfl
  have J:l9 (List.replicate n ((0:Int),(0:Int))) (j/2)=0:=by
   simp[l9,bj];split<;>rfl
  rw[U,J] at z;rcases (show j%2=0\/j%2=1 by omega) with h|h
  ·rw[show j/2*2=j by omega] at z
   rw[z.1];simp[h]
  ·rw[show j/2*2+1=j by omega] at z
   rw[z.2];simp[h]
 ·rw[aP (by simpa using G),aP (by rw[sK,bE];omega)];rfl
theorem PO (l:List (Int×Int))(a x:Int):∀k,((jb l).set (k*2) (.int .i64 a)).set (k*2+1) (.int .u64 x)=jb (l.set k (a,x)):=by
 induction l with
 |nil=>intro k;rfl
 |cons p l ih=>
  intro k;have h:∀(p:Int×Int) l,jb (p::l)= .int .i64 p.1:: .int .u64 p.2::jb l:=λ_ _=>rfl
  cases k with
  |zero=>rfl
  |succ k=>rw[h,ai,h,<-ih k,show(k+1)*2=k*2+1+1 by omega];rfl
def dM {α:Type} (z:α) (l:List α) (k:Nat):List α:=l.take k++List.replicate (l.length-k) z
theorem kJ (z:α)(l:List α):dM z l 0=List.replicate l.length z:=by simp[dM]
theorem lR (z:α)(l:List α):dM z l l.length=l:=by simp[dM]
theorem kT (z:α)(l:List α)(k:Nat)(h:k<=l.length):(dM z l k).length=l.length:=by simp[dM];omega
theorem kM (z:α)(l:List α)(k:Nat)(h:k<l.length)(x:α)(G:l[k]=x):(dM z l k).set k x=dM z l (k+1):=by
 subst G;unfold dM;rw[bP h,show l.length-k=(l.length-(k+1))+1 by omega,List.replicate_succ,aV];rw[dI _ _ (by simp;omega)]
 congr 1
 rw[aJ,cT (by omega),je];rfl
theorem eZ.pair{l:List (Int×Int)}(h:eZ w v g T 2 n (jb l))(k:Nat)(a x:Int):
  eZ ((w.setCell ⟨g,k*2,none⟩ (.int .i64 a)).setCell ⟨g,k*2+1,none⟩ (.int .u64 x)) v g T 2 n (jb (l.set k (a,x))):=by
 have :=(h.set (k*2) (.int .i64 a)).set (k*2+1) (.int .u64 x);rw[PO] at this;exact this
theorem kQ.mk(h:eZ w' v g T 2 n (jb ps))(z:n=ps.length)(G:w.heap.size<=g)(J:ay [] w w'):kQ w ps (.returned v) w':=by
 subst z;exact⟨v,g,rfl,h.preads,G,J⟩
def Mv (ps:List (Int×Int)) (n:Nat):Prop:=∀p∈ps,0<=p.1/\p.1<n
theorem yO (h:Mv ps n){k:Nat}(z:k<ps.length):0<=iQ ps k/\iQ ps k<n:=h _ (FB ps k z)
theorem dQ (h:w.ownsRow z T sz v n xs):∀k,v.ownBlock=some k->z<=k:=by
 obtain⟨h0,J⟩:=h;intro k G;rcases J with ⟨rfl,rfl⟩|⟨g,cap,V,rfl,U,hh,h2,h3,W,h5⟩
 ·cases G
 ·cases G;exact U
theorem ay.grown{wr J:World}(h:ay [] w wr)(z:wr.grownBy J row)(V:∀k,row=some k->w.heap.size<=k):ay [] w J:=
 ⟨z.os.trans h.os,z.tape.trans h.tape,z.output.trans h.output,cG h.size z.size,λk G U=>
  (z.block k (bS G h.size) λe=>by have :=V k e.symm;omega).trans (h.block k G U)⟩
theorem eu (h:w.ownsRow z T sz v n xs){l:List Nat}(U:ay l w w')(hn:∀k,v.ownBlock=some k->k∉l):w'.ownsRow z T sz v n xs:=by
 obtain⟨h0,V⟩:=h;refine⟨h0,?_⟩;rcases V with ⟨rfl,rfl⟩|⟨g,cap,G,rfl,hg,J,h2,h3,W,h5⟩
 ·exact .inl ⟨rfl,rfl⟩
 ·refine .inr ⟨g,cap,G,rfl,hg,?_,h2,h3,W,h5⟩
  rw[<-J];exact U.block g (Array.getElem?_eq_some_iff.1 J).1 (hn g rfl)
theorem iV (h:w.ownsRow z T sz v n xs):∃a cap,v= .slice a n cap/\n<=cap/\cap<=maxLen:=by
 obtain⟨g,G,-⟩:=eZ.of_row h;exact G.val
theorem Tryz.info_u64:(prog.info? 70).map (λi=>(i.zero,i.size,i.bytes))=some (some (.int .u64 0),1,8):=by kernel_rfl
theorem xL (n:Nat)(hn:n<=100000)(m:Int)(U:m=(n:Int))(k:Nat)(W:k=0\/k=n)(w:World):(Instr.makeSlice 65 (.int .i64 (k:Int)) (.int .i64 m)).run prog w=
  .ok (.slice w.heap.size k n) (w.alloc (.cells (madeCells #[.int .u64 0] n) 70)):=by
 subst U;obtain⟨V,J,h,z,G⟩:=df Tryz.info_u64;have :=run_make (P:= prog) w 65 70 V _ underlying65 J h .i64 .i64 (k:Int) (n:Int) (by omega) (by omega) (by rw[G];omega) (by omega);rw[z,aG,aG,iJ] at this;exact this
structure kp where
 now:List Int
 last:List Int
 fl:List Bool
 deeds:Int
 fused:Bool
 left:Int
structure fx (w:World) (b gn gl gf:Nat) (s:kp):Prop where
 n9:s.now.length<=10000
 ll:s.last.length=s.now.length
 fll:s.fl.length=(s.now.length+7)/8*8
 apart:s.now.length≠0->(gn≠b/\gl≠b/\gf≠b)/\gn≠gl/\gn≠gf/\gl≠gf
 at_:∃vn vl vf,bh w b #[vn,vl,vf,s.deeds,s.fused,s.left] 112/\
  eZ w vn gn 70 1 s.now.length (aY s.now)/\eZ w vl gl 70 1 s.now.length (aY s.last)/\
  eZ w vf gf 200 8 ((s.now.length+7)/8) (bools s.fl)
theorem fx.keep{s:kp}(h:fx w b gn gl gf s){l:List Nat}(z:ay l w w')(W:b∉l)(G:s.now.length≠0->gn∉l/\gl∉l/\gf∉l):fx w' b gn gl gf s:=by
 obtain⟨n9,ll,fll,V,U,vl,J,a,c,d,e⟩:=h;exact⟨n9,ll,fll,V,U,vl,J,a.keep z W,c.keepIf z λh=>(G h).1,d.keepIf z λh=>(G h).2.1,e.keepIf z λh=>(G (by omega)).2.2⟩
def kp.gone (s:kp):Bool:=s.fused&&s.left==0
def kp.refusal (s:kp) (i:Int):Int:=if s.gone=true then 9 else if i<0\/(s.now.length:Int)<=i then 1 else 0
def kp.count (s:kp):kp:={ s with deeds:=s.deeds+1,left:=if s.fused=true then s.left-1 else s.left }
def kp.fit (s:kp):Prop:=0<=s.deeds/\s.deeds<4611686018427387904/\0<=s.left/\s.left<=9223372036854775807
theorem Xc (b:Nat)(fused:Bool)(left:Int)(w:World)
  (h:w.cell? ⟨b,4,none⟩=some (.bool fused)) (z:w.cell? ⟨b,5,none⟩=some (.int .i64 left)):
  Calls prog 51 #[b] w λe w'=>e=(fused&&left==0:Bool)/\w=w':=by
 cases fused
 ·go_in
  go_wp2;go_ret;exact⟨rfl,rfl⟩
 ·go_in
  go_wp2;go_ret;exact⟨rfl,rfl⟩
theorem Sg{s:kp}(h:fx w b gn gl gf s):
  Calls prog 51 #[b] w λe w'=>e=s.gone/\w=w':=by
 obtain⟨G,J,z,a,c,d,e⟩:=h.at_;exact Xc b s.fused s.left w (by rw[a.cell];rfl) (by rw[a.cell];rfl)
theorem Ag{s:kp}(h:fx w b gn gl gf s)(i:Int):
  Calls prog 108 #[b,i] w λe w'=>e=(s.refusal i:Int)/\w=w':=by
 have J:=Sg h;have V:=h.n9;obtain⟨vn,vl,vf,a,c,d,e⟩:=h.at_;obtain⟨an,W,rfl,_,_⟩:=c.val;have h0:w.cell? b=some (.slice an s.now.length W):=by rw[a.cell];rfl
 clear a c d e h;unfold kp.refusal;generalize s.gone=g,s.now.length=n at *;have z:=ar J;clear J;cases g
 ·by_cases G:i<0
  ·rw[aA (by simp),aB (.inl G)]
   go_in;go_wp2_with(go_at_call 51;refine z.out.mono ?_;rintro e w' ⟨rfl,rfl⟩);go_ret;exact⟨rfl,rfl⟩
  ·by_cases h2:(n:Int)<=i
   ·rw[aA (by simp),aB (.inr h2)]
    have U:decide (i<0)=false:=by simpa using G
    go_in;go_wp2_with(go_at_call 51;refine z.out.mono ?_;rintro e w' ⟨rfl,rfl⟩);go_ret;exact⟨rfl,rfl⟩
   ·rw[aA (by simp),aA]
    have U:decide (i<0)=false:=by simpa using G
    go_in;go_wp2_with(go_at_call 51;refine z.out.mono ?_;rintro e w' ⟨rfl,rfl⟩);go_ret;exact⟨rfl,rfl⟩
 ·rw[aB rfl]
  go_in;go_wp2_with(go_at_call 51;refine z.out.mono ?_;rintro e w' ⟨rfl,rfl⟩);go_ret;exact⟨rfl,rfl⟩
theorem PQ{s:kp}(h:fx w b gn gl gf s):
  Calls prog 45 #[b] w λe w'=>e=(s.now.length:Int)/\w=w':=by
 obtain⟨U,W,J,a,c,d,e⟩:=h.at_;obtain⟨G,z,rfl,_,_⟩:=c.val;have V:w.cell? b=some (.slice G s.now.length z):=by rw[a.cell];rfl
 clear a c d e h;generalize s.now.length=n at *;go_in;go_wp2;go_ret;exact⟨rfl,rfl⟩
theorem fx.six{s G:kp}(h:fx w b gn gl gf s)(hk:ay [b] w w')
  (hs:G.now=s.now/\G.last=s.last/\G.fl=s.fl)
  (hb:∀U W J,bh w b #[U,W,J,s.deeds,s.fused,s.left] 112->bh w' b #[U,W,J,G.deeds,G.fused,G.left] 112):fx w' b gn gl gf G:=by
 obtain⟨n9,ll,fll,V,U,W,J,a,c,d,e⟩:=h;obtain⟨z,e2,e3⟩:=hs;refine⟨by rw[z];exact n9,by rw[z,e2];exact ll,by rw[z,e3];exact fll,by rw[z];exact V,U,W,J,hb _ _ _ a,?_,?_,?_⟩
 ·rw[z];exact c.keepIf hk λh=>by simpa using (V h).1.1
 ·rw[z,e2];exact d.keepIf hk λh=>by simpa using (V h).1.2.1
 ·rw[z,e3];exact e.keepIf hk λh=>by simpa using (V (by omega)).1.2.2
theorem FE{s:kp}(h:fx w b gn gl gf s)(hf:s.fit)(hg:s.gone=false):
  Calls prog 146 #[b] w λe w'=>e= .returned (.tuple #[])/\fx w' b gn gl gf s.count/\ay [b] w w':=by
 obtain⟨f1,f2,f3,f4⟩:=hf;obtain⟨U,V,G,a,-,-,-⟩:=h.at_;have h3:w.cell? ⟨b,3,none⟩=some (.int .i64 s.deeds):=by rw[a.cell];rfl
 have W:w.cell? ⟨b,4,none⟩=some (.bool s.fused):=by rw[a.cell];rfl
 have h5:w.cell? ⟨b,5,none⟩=some (.int .i64 s.left):=by rw[a.cell];rfl
 have g3:w.frozen? ⟨b,3,none⟩=false:=a.frozen 3;have g5:w.frozen? ⟨b,5,none⟩=false:=a.frozen 5;clear a U V G;have H:=ar h;clear h;have HG:=ar hg;clear hg;cases hfu:s.fused
 ·rw[hfu] at W
  have J:=ar hfu;clear hfu;go_in;go_wp2;go_end0;have z:ay [b] w (w.setCell ⟨b,3,none⟩ (.int .i64 (s.deeds+1))):=(ay.refl _ _).setCell (by simp) _;refine⟨rfl,H.out.six z ⟨rfl,rfl,rfl⟩ λU V G a=> ?_,z⟩;simpa[kp.count,J.out] using a.set 3 (.int .i64 (s.deeds+1))
 ·rw[hfu] at W
  have hl:s.left≠0:=by
   intro e;have :=HG.out;simp[kp.gone,hfu,e] at this
  have J:=ar hfu;clear hfu;go_in;go_wp2;go_end0;have z:ay [b] w ((w.setCell ⟨b,3,none⟩ (.int .i64 (s.deeds+1))).setCell ⟨b,5,none⟩ (.int .i64 (s.left-1))):=((ay.refl _ _).setCell (by simp) _).setCell (by simp) _;refine⟨rfl,H.out.six z ⟨rfl,rfl,rfl⟩ λU V G a=> ?_,z⟩;simpa[kp.count,J.out] using (a.set 3 (.int .i64 (s.deeds+1))).set 5 (.int .i64 (s.left-1))
def kp.load (s:kp) (i:Int):Int:=if s.refusal i=0 then s.now.getD i.toNat 0 else 0
def kp.store (s:kp) (i x:Int):kp:=if s.refusal i=0 then { s.count with now:=s.now.set i.toNat x,fl:=s.fl.set i.toNat false } else s
theorem kp.refusal_ok{s:kp}{i:Int}(h:s.refusal i=0):s.gone=false/\0<=i/\i<s.now.length:=by
 unfold kp.refusal at h;cases hg:s.gone<;>simp[hg] at h
 exact⟨rfl,by omega,by omega⟩
theorem KI{s:kp}(h:fx w b gn gl gf s)(i:Int):
  Calls prog 55 #[b,i] w λe w'=>e= .returned (.tuple #[.int .u64 (s.load i),(s.refusal i:Int)])/\w=w':=by
 have G:=ar (Ag h i);by_cases z:s.refusal i=0
 ·obtain⟨-,W,i1⟩:=kp.refusal_ok z
  obtain⟨i,rfl⟩:=cA W;have U:=h.n9;obtain⟨vn,vl,vf,a,c,-,-⟩:=h.at_;obtain⟨-,⟨V,rfl,q1,q2⟩,q3,-⟩:=c.cell (by omega);have k0:w.cell? b=some (.slice gn s.now.length V):=by rw[a.cell];rfl
  have k1:w.cell? ⟨gn,i,none⟩=some (.int .u64 (s.load (i:Int))):=by rw[q3 i (by omega),dF (by omega),kp.load,aB z];rfl
  clear a c q3 h;rw[z] at G ⊢;clear z;generalize s.load i=x,s.now.length=n at *;go_in;go_wp2_with(go_at_call 108;refine G.out.mono ?_;rintro e w' ⟨rfl,rfl⟩);go_ret2;exact⟨rfl,rfl⟩
 ·have J:s.load i=0:=by rw[kp.load,aA z]
  rw[J];have h1:(s.refusal i != 0)=true:=by simpa using z
  generalize s.refusal i=r at *;clear h J z;go_in;go_wp2_with(go_at_call 108;refine G.out.mono ?_;rintro e w' ⟨rfl,rfl⟩);go_ret2;exact⟨rfl,rfl⟩
theorem fx.store{s:kp}(h:fx w b gn gl gf s)(W:s.now.length≠0)(i:Nat)(x:Int):
  fx ((w.setCell ⟨gn,i,none⟩ (.int .u64 x)).setCell ⟨gf,i,none⟩ (.bool false)) b gn gl gf { s with now:=s.now.set i x,fl:=s.fl.set i false }:=by
 obtain⟨n9,ll,fll,z,U,vl,J,a,c,d,e⟩:=h;obtain⟨⟨p1,p2,p3⟩,V,G,p6⟩:=z W;refine⟨by simpa using n9,by simpa using ll,by simpa using fll,by simpa using z,U,vl,J,?_,?_,?_,?_⟩
 ·exact(a.other (a:=⟨gn,i,none⟩) (cZ p1) _).other (a:=⟨gf,i,none⟩) (cZ p3) _
 ·have :=(c.set i (.int .u64 x)).keep (((ay.refl [gf] _).setCell (p:=⟨gf,i,none⟩) (by simp) (.bool false))) (by simpa using G)
  simpa[lI] using this
 ·have :=(d.keep ((ay.refl [gn] _).setCell (p:=⟨gn,i,none⟩) (by simp) (.int .u64 x)) (by simpa using cZ V)).keep (((ay.refl [gf] _).setCell (p:=⟨gf,i,none⟩) (by simp) (.bool false))) (by simpa using p6)
  simpa using this
 ·have :=(e.keep ((ay.refl [gn] _).setCell (p:=⟨gn,i,none⟩) (by simp) (.int .u64 x)) (by simpa using cZ G)).set i (.bool false)
  simpa[Cs] using this
theorem Mw{s:kp}(h:fx w b gn gl gf s)(hf:s.fit)(i x:Int):
  Calls prog 105 #[b,i,.int .u64 x] w λe w'=>e=(s.refusal i:Int)/\fx w' b gn gl gf (s.store i x)/\ay [b,gn,gl,gf] w w':=by
 have U:=ar (Ag h i);by_cases z:s.refusal i=0
 ·obtain⟨hg,i0,i1⟩:=kp.refusal_ok z
  rw[kp.store,aB z];obtain⟨i,rfl⟩:=cA i0;rw[z] at U ⊢;have aa:=h.n9;have hc:=ar (FE h hf hg);clear z h hf;go_in;go_wp2_with fail;refine U.out.mono ?_;rintro e w' ⟨rfl,rfl⟩;go_wp2_with fail;refine hc.out.mono ?_;rintro e G ⟨rfl,h,hk⟩;obtain⟨vn,vl,vf,a,c,d,e⟩:=h.at_;have ec:s.count.now.length=s.now.length:=rfl;obtain⟨-,⟨cn,rfl,q1,q2⟩,q3,V⟩:=c.cell (by omega);obtain⟨-,⟨cf,rfl,r1,r2⟩,r3,W⟩:=e.cell (by omega);have ap:=(h.apart (by omega)).2.2.1;have k0:G.cell? b=some (.slice gn s.now.length cn):=by rw[a.cell];rfl
  have k1:G.cell? ⟨gn,i,none⟩=some (.int .u64 (s.now.getD i 0)):=by rw[q3 i (by omega),dF (by omega)];rfl
  have k2:G.frozen? ⟨gn,i,none⟩=false:=V i;have k3:(G.setCell ⟨gn,i,none⟩ (.int .u64 x)).cell? ⟨b,2,none⟩=some (.slice gf ((s.now.length+7)/8) cf):=by
   rw[(a.other (a:=⟨gn,i,none⟩) (cZ (h.apart (by omega)).1.1) _).cell];rfl
  have J:i/8*8+i%8=i:=by omega
  have k4:G.cell? ⟨gf,i/8*8+i%8,none⟩=some (.bool (s.fl.getD i false)):=by
   have :=h.fll;rw[J,r3 i (by omega),uM (by omega)];rfl
  have k5:G.frozen? ⟨gf,i/8*8+i%8,none⟩=false:=W _;have hs:=h.store (by omega) i x;have HE:=ar J;have HS:=ar hs;clear a c d e q3 r3 V W J hs;go_wp2_with fail;go_ret;refine⟨rfl,?_,((hk.mono (by simp)).setCell (by simp) _).setCell (by simp) _⟩;rw[HE.out];exact HS.out
 ·rw[kp.store,aA z]
  have h1:(s.refusal i != 0)=true:=by simpa using z
  have H:=ar h;generalize s.refusal i=r at *;clear h z;go_in;go_wp2_with(go_at_call 108;refine U.out.mono ?_;rintro e w' ⟨rfl,rfl⟩);go_ret;exact⟨rfl,H.out,ay.refl _ _⟩
def kS (l:List Int):List Value:=l.map (Value.int .u8)
theorem fH (l:List Int):(kS l).length=l.length:=by simp[kS]
end
end Go.Proofs.YtimcfdnbpkiniaaGreatDoor
