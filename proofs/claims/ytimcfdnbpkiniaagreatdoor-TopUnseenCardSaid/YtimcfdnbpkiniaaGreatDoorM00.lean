/- Lemmas. -/
import Derived.WalkKit
import Derived.WalkSpells
import Derived.Deep.QuietTactic
import Derived.Lib.Hide
import Derived.ProofKit
import Derived.OpenShut
import Derived.Deep.Slices
import Derived.Laws.BitsAllLaws
import Derived.WalkLawsBesides
import Derived.Laws.AppendOwn
import Derived.Test.YtimcfdnbpkiniaaGreatDoorRows
import Derived.BigQuiet
import Derived.RegionTactic
set_option maxHeartbeats 1000000
namespace Go.Proofs.YtimcfdnbpkiniaaGreatDoor
open Go.Proofs.Tryz
section
open Go.RowKit
variable{α:Type}{T b g gf gl gn i j n sz z:Nat}{l l':List Nat}{a w w':World}{c:Array Value}{row:Option Nat}{v:Value}{xs:List Value}{ps:List (Int×Int)}
theorem ag{α:Type _}(l:List α)(i:Nat)(a:α):l.toArray.setIfInBounds i a=(l.set i a).toArray:=List.setIfInBounds_toArray l i a
theorem ah{α:Type _}(x:α)(l:List α)(a:α):(x::l).set 0 a=a::l:=rfl
theorem ai{α:Type _}(x:α)(l:List α)(n:Nat)(a:α):(x::l).set (n+1) a=x::l.set n a:=rfl
theorem aj{α:Type _}{l:List α}{a:α}:l.getD i a=l[i]?.getD a:=List.getD_eq_getElem?_getD
theorem ar{p:Prop}(h:p):Hid p:=Lib.hid h
theorem C'{P:Program}{f:Nat}{a:Array Value}{w x:World}{v:Ending}{Q:Ending->World->Prop}(h:Calls P f a w λe y=>e=v/\x=y)(k:Q v x):Calls P f a w Q:=h.mono λe y h=>by obtain⟨rfl,rfl⟩:=h;exact k
theorem Rr{P:Program}{f:Nat}{a:Array Value}{w:World}{v:Ending}{R:World->Prop}{Q:Ending->World->Prop}(h:Calls P f a w λe y=>e=v/\R y)(k:∀y,R y->Q v y):Calls P f a w Q:=h.mono λe y h=>by obtain⟨rfl,z⟩:=h;exact k y z
theorem hh2{A B:Prop}(a:A)(b:B):Hid A/\Hid B:=⟨a,b⟩
theorem hh3{A B C:Prop}(a:A)(b:B)(c:C):Hid A/\Hid B/\Hid C:=⟨a,b,c⟩
theorem hh4{A B C D:Prop}(a:A)(b:B)(c:C)(d:D):Hid A/\Hid B/\Hid C/\Hid D:=⟨a,b,c,d⟩
theorem hh5{A B C D E:Prop}(a:A)(b:B)(c:C)(d:D)(e:E):Hid A/\Hid B/\Hid C/\Hid D/\Hid E:=⟨a,b,c,d,e⟩
theorem hh6{A B C D E F:Prop}(a:A)(b:B)(c:C)(d:D)(e:E)(f:F):Hid A/\Hid B/\Hid C/\Hid D/\Hid E/\Hid F:=⟨a,b,c,d,e,f⟩
theorem hh7{A B C D E F G:Prop}(a:A)(b:B)(c:C)(d:D)(e:E)(f:F)(g:G):Hid A/\Hid B/\Hid C/\Hid D/\Hid E/\Hid F/\Hid G:=⟨a,b,c,d,e,f,g⟩
instance:Coe Nat Value:=⟨λb=>.pointer (some ⟨b,0,none⟩)⟩
instance:Coe Int Value:=⟨.int .i64⟩
instance:Coe Bool Value:=⟨.bool⟩
instance:Coe Unit Value:=⟨λ_=>.slice none 0 0⟩
instance:Coe (Array Value) Value:=⟨.agg⟩
instance:Coe Value Ending:=⟨.returned⟩
instance:Coe Nat (Option Addr):=⟨λb=>some ⟨b,0,none⟩⟩
instance:Coe Nat Addr:=⟨λb=>⟨b,0,none⟩⟩
theorem aI:type_of% @Nat.le_refl:=@Nat.le_refl
theorem cL:type_of% @Nat.le_trans:=@Nat.le_trans
theorem bQ:type_of% @Nat.lt_of_lt_of_le:=@Nat.lt_of_lt_of_le
theorem jF:type_of% @Go.RowKit.Below.heap_alloc:=@Go.RowKit.Below.heap_alloc
theorem aO:type_of% @Go.World.cell?_of_block:=@Go.World.cell?_of_block
theorem bU.{u}:type_of% @List.getElem?_take.{u}:=@List.getElem?_take.{u}
theorem aB.{u}{c:Prop}{i:Decidable c}(h:c:=by omega){t:Sort u}{x y:t}:@ite t c i x y=x:=if_pos h
theorem bg.{u}:type_of% @List.eq_nil_of_length_eq_zero.{u}:=@List.eq_nil_of_length_eq_zero.{u}
theorem dw.{u}:type_of% @Array.getElem?_toList.{u}:=@Array.getElem?_toList.{u}
theorem dD:type_of% @Go.run_underlying:=@Go.run_underlying
theorem dK.{u}:type_of% @Array.length_toList.{u}:=@Array.length_toList.{u}
theorem dE:type_of% @Nat.add_zero:=@Nat.add_zero
theorem eW.{u}:type_of% @List.take_zero.{u}:=@List.take_zero.{u}
theorem bN.{u}:type_of% @List.nil_append.{u}:=@List.nil_append.{u}
theorem bp:type_of% @Nat.zero_add:=@Nat.zero_add
theorem cG.{u}:type_of% @List.ext_getElem?.{u}:=@List.ext_getElem?.{u}
theorem ij:type_of% @Nat.mod_lt:=@Nat.mod_lt
theorem bR.{u}:type_of% @List.take_succ_eq_append_getElem.{u}:=@List.take_succ_eq_append_getElem.{u}
theorem bL.{u}:type_of% @List.mem_of_mem_take.{u}:=@List.mem_of_mem_take.{u}
theorem aT.{u}:type_of% @List.getElem?_append_right.{u}:=@List.getElem?_append_right.{u}
theorem iM.{u}:type_of% @List.all_eq_true.{u}:=@List.all_eq_true.{u}
theorem aM.{u}:type_of% @List.mem_cons.{u}:=@List.mem_cons.{u}
theorem aK.{u}:type_of% @List.not_mem_nil.{u}:=@List.not_mem_nil.{u}
theorem bC:type_of% @or_false:=@or_false
theorem b9.{u}:type_of% @List.getElem_of_mem.{u}:=@List.getElem_of_mem.{u}
theorem j0.{u,v}:type_of% @List.map_take.{u,v}:=@List.map_take.{u,v}
theorem bH.{u,v}:type_of% @List.mem_map.{u,v}:=@List.mem_map.{u,v}
theorem iu.{u}:type_of% @List.getElem?_cons_succ.{u}:=@List.getElem?_cons_succ.{u}
theorem bO.{u,v}:type_of% @List.getElem?_map.{u,v}:=@List.getElem?_map.{u,v}
theorem cU:type_of% @List.getElem?_range:=@List.getElem?_range
theorem aV.{u}:type_of% @List.append_assoc.{u}:=@List.append_assoc.{u}
theorem dU.{u}:type_of% @List.set_append_right.{u}:=@List.set_append_right.{u}
theorem aJ.{u}:type_of% @List.length_take.{u}:=@List.length_take.{u}
theorem cZ:type_of% @Nat.min_eq_left:=@Nat.min_eq_left
theorem ja:type_of% @Nat.sub_self:=@Nat.sub_self
theorem df:type_of% @Go.info_parts:=@Go.info_parts
theorem aF:type_of% @Int.toNat_natCast:=@Int.toNat_natCast
theorem iE:type_of% @Nat.mul_one:=@Nat.mul_one
theorem aA.{u}{c:Prop}{i:Decidable c}(h:Not c:=by omega){t:Sort u}{x y:t}:@ite t c i x y=y:=if_neg h
theorem cz:type_of% @Int.eq_ofNat_of_zero_le:=@Int.eq_ofNat_of_zero_le
theorem cV.{u}:type_of% @Ne.symm.{u}:=@Ne.symm.{u}
theorem fV.{u,v}:type_of% @List.getElem?_mapIdx.{u,v}:=@List.getElem?_mapIdx.{u,v}
theorem gT.{u}:type_of% @List.getElem?_set.{u}:=@List.getElem?_set.{u}
theorem iB.{u,v}:type_of% @Option.map_some.{u,v}:=@Option.map_some.{u,v}
theorem aW.{u}:type_of% @List.take_of_length_le.{u}:=@List.take_of_length_le.{u}
theorem dV.{u}:type_of% @List.drop_of_length_le.{u}:=@List.drop_of_length_le.{u}
theorem jb.{u}:type_of% @List.getElem?_append.{u}:=@List.getElem?_append.{u}
theorem cj.{u}:type_of% @List.getElem?_drop.{u}:=@List.getElem?_drop.{u}
theorem aC.{u}:type_of% @List.length_append.{u}:=@List.length_append.{u}
theorem bV.{u}:type_of% @List.length_drop.{u}:=@List.length_drop.{u}
theorem jP.{u,v}:type_of% @List.map_replicate.{u,v}:=@List.map_replicate.{u,v}
theorem bB.{u}:type_of% @List.getElem?_replicate.{u}:=@List.getElem?_replicate.{u}
theorem aZ.{u}:type_of% @List.getElem?_eq_none.{u}:=@List.getElem?_eq_none.{u}
theorem ck:type_of% @Go.Sem.run_bind:=@Go.Sem.run_bind
theorem fQ:type_of% @Go.Sem.run_pure:=@Go.Sem.run_pure
theorem cN:type_of% @Go.Result.andThen_ok:=@Go.Result.andThen_ok
theorem aD.{u}:type_of% @List.getElem?_eq_getElem.{u}:=@List.getElem?_eq_getElem.{u}
theorem fD:type_of% @Nat.zero_le:=@Nat.zero_le
theorem eO:type_of% @Go.wpList_append_own:=@Go.wpList_append_own
theorem bJ.{u}:type_of% @List.length_replicate.{u}:=@List.length_replicate.{u}
theorem aR.{u}:type_of% @List.mem_append.{u}:=@List.mem_append.{u}
theorem au.{u}:type_of% @List.mem_singleton.{u}:=@List.mem_singleton.{u}
theorem dQ:type_of% @List.range_succ:=@List.range_succ
theorem ez.{u,v}:type_of% @List.map_append.{u,v}:=@List.map_append.{u,v}
theorem dL.{u,v}:type_of% @List.map_congr_left.{u,v}:=@List.map_congr_left.{u,v}
theorem cu:type_of% @List.mem_range:=@List.mem_range
theorem fI.{u}:type_of% @List.take_append_of_le_length.{u}:=@List.take_append_of_le_length.{u}
theorem dZ.{u}:type_of% @List.filter_append.{u}:=@List.filter_append.{u}
theorem fE.{u}:type_of% @List.filter_cons.{u}:=@List.filter_cons.{u}
theorem b7.{u,v}:type_of% @List.length_map.{u,v}:=@List.length_map.{u,v}
theorem fe.{u}:type_of% @List.length_filter_le.{u}:=@List.length_filter_le.{u}
theorem aG.{u}:type_of% @List.getElem?_toArray.{u}:=@List.getElem?_toArray.{u}
theorem bh.{u}:type_of% @List.getElem?_append_left.{u}:=@List.getElem?_append_left.{u}
theorem dS:type_of% @Nat.add_sub_cancel_left:=@Nat.add_sub_cancel_left
theorem cP.{u,v}:type_of% @congrArg.{u,v}:=@congrArg.{u,v}
theorem cD.{u}:type_of% @List.length_nil.{u}:=@List.length_nil.{u}
theorem dg.{u}:type_of% @List.length_set.{u}:=@List.length_set.{u}
theorem dx.{u}:type_of% @List.take_append_drop.{u}:=@List.take_append_drop.{u}
theorem iR:type_of% @Nat.lt_of_le_of_lt:=@Nat.lt_of_le_of_lt
theorem jU:type_of% @Nat.testBit_and:=@Nat.testBit_and
theorem iz.{u}:type_of% @List.filter_congr.{u}:=@List.filter_congr.{u}
theorem dW:type_of% @Nat.and_two_pow_sub_one_eq_mod:=@Nat.and_two_pow_sub_one_eq_mod
theorem fK:type_of% @List.length_range:=@List.length_range
theorem jc:type_of% @Nat.pow_le_pow_right:=@Nat.pow_le_pow_right
theorem cA.{u}:type_of% @List.length_cons.{u}:=@List.length_cons.{u}
theorem bz.{u}:type_of% @List.append_nil.{u}:=@List.append_nil.{u}
theorem fW:type_of% @Go.IntKind.wrap_u64:=@Go.IntKind.wrap_u64
theorem fR:type_of% @Go.IntWalk.i64_in:=@Go.IntWalk.i64_in
theorem gM:type_of% @Go.u64_and_nat:=@Go.u64_and_nat
theorem cX.{u}:type_of% @List.ext_getElem.{u}:=@List.ext_getElem.{u}
theorem jQ:type_of% @Nat.add_sub_cancel:=@Nat.add_sub_cancel
theorem kz.{u}:type_of% @List.drop_eq_getElem_cons.{u}:=@List.drop_eq_getElem_cons.{u}
theorem aH:type_of% @Go.bodyPost_ret:=@Go.bodyPost_ret
theorem jw:type_of% @Go.ByteArray.toList_eq:=@Go.ByteArray.toList_eq
theorem cg.{u}:type_of% @beq_eq_false_iff_ne.{u}:=@beq_eq_false_iff_ne.{u}
theorem jy.{u}:type_of% @List.drop_replicate.{u}:=@List.drop_replicate.{u}
theorem iN.{u,v}:type_of% @List.getElem_map.{u,v}:=@List.getElem_map.{u,v}
theorem lv:type_of% @List.getElem_range:=@List.getElem_range
theorem fg.{u}:type_of% @Array.getD_eq_getD_getElem?.{u}:=@Array.getD_eq_getD_getElem?.{u}
theorem ju.{u}:type_of% @List.getElem?_cons_zero.{u}:=@List.getElem?_cons_zero.{u}
theorem jV:type_of% @Go.Oper.semAt_some:=@Go.Oper.semAt_some
theorem bP.{u}:type_of% @List.size_toArray.{u}:=@List.size_toArray.{u}
theorem fX.{u}:type_of% @Array.replicate_succ.{u}:=@Array.replicate_succ.{u}
theorem fY.{u}:type_of% @Array.replicate_zero.{u}:=@Array.replicate_zero.{u}
theorem iA.{u}:type_of% @List.push_toArray.{u}:=@List.push_toArray.{u}
theorem gU.{u}:type_of% @List.append_toArray.{u}:=@List.append_toArray.{u}
theorem iO.{u}:type_of% @List.cons_append.{u}:=@List.cons_append.{u}
theorem dF:type_of% @Nat.lt_or_ge:=@Nat.lt_or_ge
theorem fF:type_of% @Bool.and_eq_true:=@Bool.and_eq_true
theorem fZ.{u}:type_of% @List.getElem_toArray.{u}:=@List.getElem_toArray.{u}
theorem bq:type_of% @decide_eq_true:=@decide_eq_true
theorem aP:type_of% @decide_eq_false:=@decide_eq_false
theorem gi.{u}:type_of% @List.take_length.{u}:=@List.take_length.{u}
theorem eo:type_of% @Nat.eq_zero_or_pos:=@Nat.eq_zero_or_pos
theorem iF:type_of% @Go.wpAny_ready:=@Go.wpAny_ready
theorem eG:type_of% @Go.AllReady.cons:=@Go.AllReady.cons
theorem ia:type_of% @Go.AllReady.nil:=@Go.AllReady.nil
theorem kJ.{u}:type_of% @List.getElem?_take_of_lt.{u}:=@List.getElem?_take_of_lt.{u}
theorem gV.{u,v}:type_of% @List.filterMap_cons.{u,v}:=@List.filterMap_cons.{u,v}
theorem bM.{u}:type_of% @List.getElem_mem.{u}:=@List.getElem_mem.{u}
theorem eZ.{u}:type_of% @Option.getD_some.{u}:=@Option.getD_some.{u}
theorem dh.{u}:type_of% @List.pairwise_iff_getElem.{u}:=@List.pairwise_iff_getElem.{u}
theorem gZ:type_of% @UInt8.lt_iff_toNat_lt:=@UInt8.lt_iff_toNat_lt
theorem jz:type_of% @Int.toNat_of_nonneg:=@Int.toNat_of_nonneg
theorem ib.{u}:type_of% @List.eq_of_mem_replicate.{u}:=@List.eq_of_mem_replicate.{u}
theorem gj.{u}:type_of% @List.mem_of_mem_drop.{u}:=@List.mem_of_mem_drop.{u}
theorem fL.{u}:type_of% @List.count_append.{u}:=@List.count_append.{u}
theorem bT.{u}:type_of% @List.mem_append_left.{u}:=@List.mem_append_left.{u}
theorem bW.{u}:type_of% @List.mem_append_right.{u}:=@List.mem_append_right.{u}
theorem jd.{u}:type_of% @List.length_dropLast.{u}:=@List.length_dropLast.{u}
theorem aU:type_of% @Go.World.size_alloc:=@Go.World.size_alloc
theorem kM.{u}:type_of% @List.set_eq_of_length_le.{u}:=@List.set_eq_of_length_le.{u}
theorem cB:type_of% @Go.IntKind.wrap_i64:=@Go.IntKind.wrap_i64
theorem gN.{u}:type_of% @List.getElem_cons_succ.{u}:=@List.getElem_cons_succ.{u}
theorem gQ.{u}:type_of% @List.getElem_cons_zero.{u}:=@List.getElem_cons_zero.{u}
structure ay (l:List Nat) (w w':World):Prop where
 os:w'.os=w.os
 tape:w'.tape=w.tape
 output:w'.output=w.output
 size:w.heap.size<=w'.heap.size
 block:∀k,k<w.heap.size->k∉l->w'.heap[k]? =w.heap[k]?
theorem ay.refl(l:List Nat)(w:World):ay l w w:=⟨rfl,rfl,rfl,aI _,λ_ _ _=>rfl⟩
theorem ay.mono(h:ay l w w')(J:∀k,k∈l->k<w.heap.size->k∈l':=by simp):ay l' w w':=
 ⟨h.os,h.tape,h.output,h.size,λk z G=>h.block k z λU=>G (J k U z)⟩
theorem ay.trans{b c:World}(h:ay l a b)(k:ay l' b c)(J:∀x,x∈l'->x∈l\/a.heap.size<=x:=by simp):ay l a c:=
 ⟨k.os.trans h.os,k.tape.trans h.tape,k.output.trans h.output,cL h.size k.size,λx z G=>
  (k.block x (bQ z h.size) λU=>(J x U).elim G λV=>by omega).trans (h.block x z G)⟩
theorem ay.trans'{b c:World}(h:ay l a b)(k:ay l b c):ay l a c:=h.trans k λ_ z=> .inl z
theorem ay.drew(h:ay l a w):ay l a w.drew:=⟨h.os,h.tape,h.output,h.size,h.block⟩
theorem ay.drewN(h:ay l a w)(n:Nat):ay l a (w.drewN n):=⟨h.os,h.tape,h.output,h.size,h.block⟩
theorem ay.alloc(h:ay l a w)(o:Obj):ay l a (w.alloc o):=
 h.trans (l':=[]) ⟨rfl,rfl,rfl,by simp,λk z _=>jF _ _ _ z⟩ (by simp)
theorem ay.setCell(h:ay l a w){p:Addr}(G:p.block∈l\/a.heap.size<=p.block)(u:Value):ay l a (w.setCell p u):=
 h.trans (l':=[p.block]) ⟨rfl,rfl,rfl,by simp[World.setCell],λk _ z=>Below.heap_setCell _ _ _ _ (by simpa using z)⟩ (by
  simp_all)
theorem ay.below(h:ay l w w'){B:Nat}(U:B<=w.heap.size)(G:∀k,k∈l->B<=k):Below B w w':=
 ⟨h.os,h.tape,h.output,h.size,λk J=>h.block k (by omega) λz=>by have :=G k z;omega⟩
theorem ay.of_grown(h:w.grownBy w' row)(G:∀k,row=some k->k∈l\/w.heap.size<=k):ay l w w':=
 ⟨h.os,h.tape,h.output,h.size,λk z J=>h.block k z λe=>(G k e.symm).elim J λU=>by omega⟩
def bc (w:World) (b:Nat) (c:Array Value) (T:Nat):Prop:=w.heap[b]? =some (.cells c T (0,0))
theorem bc.lt(h:bc w b c T):b<w.heap.size:=(Array.getElem?_eq_some_iff.1 h).1
theorem bc.keep(h:bc w b c T){l:List Nat}(G:ay l w w')(z:b∉l:=by simp):bc w' b c T:=
 (G.block b h.lt z).trans h
theorem bc.cell(h:bc w b c T)(o:Nat):w.cell? ⟨b,o,none⟩=c[o]? :=by
 unfold bc at h;simp[World.cell?,h]
theorem bc.frozen(h:bc w b c T)(o:Nat):w.frozen? ⟨b,o,none⟩=false:=by
 unfold bc at h;simp[World.frozen?,h]
theorem bc.set(h:bc w b c T)(o:Nat)(v:Value):bc (w.setCell ⟨b,o,none⟩ v) b (c.setIfInBounds o v) T:=by
 grind [bc,World.setCell]
theorem bc.other(h:bc w b c T){a:Addr}(z:b≠a.block)(v:Value):bc (w.setCell a v) b c T:=by
 grind [bc,Below.heap_setCell]
theorem bc.alloc(h:bc w b c T)(o:Obj):bc (w.alloc o) b c T:=
 h.keep ((ay.refl [] w).alloc o)
theorem bc.new(w:World)(c:Array Value)(T:Nat):bc (w.alloc (.cells c T)) w.heap.size c T:=by
 unfold bc;exact heap_alloc_new w _
theorem bc.drew(h:bc w b c T):bc w.drew b c T:=h
theorem bc.drewN(h:bc w b c T)(n:Nat):bc (w.drewN n) b c T:=h
def Reads (w:World) (v:Value) (g:Nat) (xs:List Value):Prop:=
 ∃a cap,v= .slice a xs.length cap/\xs.length<=cap/\cap<=maxLen/\(xs≠[]->g<w.heap.size/\∃off,a=some ⟨g,off,none⟩/\∀j,j<xs.length->w.cell? ⟨g,off+j,none⟩=xs[j]?)
theorem Reads.keep(h:Reads w v g xs){l:List Nat}(G:ay l w w')(hg:g∉l:=by simp):Reads w' v g xs:=by
 obtain⟨a,cap,J,h2,h3,W⟩:=h;refine⟨a,cap,J,h2,h3,λV=> ?_⟩;obtain⟨z,off,h5,U⟩:=W V;refine⟨bQ z G.size,off,h5,λj hj=> ?_⟩;rw[aO (w:=w) (G.block g z hg)];exact U j hj
def fw (w:World) (v:Value) (g:Nat) (T sz n:Nat) (xs:List Value):Prop:=
 xs.length=n*sz/\∃a cap,v= .slice a n cap/\n<=cap/\cap<=maxLen/\(n≠0->a=some ⟨g,0,none⟩/\∃c:Array Value,bc w g c T/\c.size=cap*sz/\c.toList.take (n*sz)=xs)
theorem fw.keep(h:fw w v g T sz n xs){l:List Nat}(W:ay l w w')(hg:g∉l:=by simp):fw w' v g T sz n xs:=by
 obtain⟨h0,a,cap,z,h2,h3,U⟩:=h;refine⟨h0,a,cap,z,h2,h3,λJ=> ?_⟩;obtain⟨h5,c,G,V⟩:=U J;exact⟨h5,c,G.keep W hg,V⟩
theorem fw.keepIf(h:fw w v g T sz n xs){l:List Nat}(W:ay l w w')(hg:n≠0->g∉l:=by simp):fw w' v g T sz n xs:=by
 obtain⟨h0,a,cap,G,h2,h3,U⟩:=h;refine⟨h0,a,cap,G,h2,h3,λz=> ?_⟩;obtain⟨h5,c,J,V⟩:=U z;exact⟨h5,c,J.keep W (hg z),V⟩
theorem fw.len(h:fw w v g T sz n xs):xs.length=n*sz:=h.1
theorem BZ{c:List α}{m:Nat}{xs:List α}(h:c.take m=xs){j:Nat}(z:j<m):c[j]? =xs[j]? :=by
 rw[<-h,bU,aB z]
theorem fw.reads(h:fw w v g T 1 n xs):Reads w v g xs:=by
 obtain⟨h0,a,cap,G,h2,W,U⟩:=h;have hn:xs.length=n:=by omega
 refine⟨a,cap,by rw[hn];exact G,by omega,W,λJ=> ?_⟩;have :n≠0:=λe=>J (bg (by omega))
 obtain⟨V,c,z,h7,h8⟩:=U this;refine⟨z.lt,0,V,λj hj=> ?_⟩;rw[z.cell,<-dw]
 grind
theorem fw.set(h:fw w v g T sz n xs)(j:Nat)(u:Value):fw (w.setCell ⟨g,j,none⟩ u) v g T sz n (xs.set j u):=by
 obtain⟨h0,a,cap,z,W,h3,U⟩:=h;refine⟨by simpa using h0,a,cap,z,W,h3,λJ=> ?_⟩;obtain⟨V,c,G,h7,h8⟩:=U J;refine⟨V,_,G.set j u,by simpa using h7,?_⟩
 grind [List.take_set]
theorem fw.drew(h:fw w v g T sz n xs):fw w.drew v g T sz n xs:=h
theorem fw.alloc(h:fw w v g T sz n xs)(o:Obj):fw (w.alloc o) v g T sz n xs:=
 h.keep ((ay.refl [] w).alloc o)
theorem fw.cell(h:fw w v g T sz n xs)(hn:n≠0):g<w.heap.size/\(∃cap,v= .slice g n cap/\n<=cap/\cap<=maxLen)/\(∀j,j<n*sz->w.cell? ⟨g,j,none⟩=xs[j]?)/\∀j,w.frozen? ⟨g,j,none⟩=false:=by
 obtain⟨h0,a,cap,G,W,h3,J⟩:=h;obtain⟨V,c,z,h7,h8⟩:=J hn;subst V;refine⟨z.lt,⟨cap,G,W,h3⟩,λj U=> ?_,λj=>z.frozen j⟩;rw[z.cell,<-dw];exact BZ h8 U
theorem fw.val(h:fw w v g T sz n xs):∃a cap,v= .slice a n cap/\n<=cap/\cap<=maxLen:=by
 obtain⟨U,a,cap,z,J,G,V⟩:=h;exact⟨a,cap,z,J,G⟩
theorem fw.nil(w:World)(g T sz:Nat):fw w (.slice none 0 0) g T sz 0 []:=⟨by simp,none,0,rfl,by simp,by simp[maxLen],λh=>absurd rfl h⟩
theorem fw.anyG(h:fw w v g T sz n xs)(W:n=0)(U:Nat):fw w v U T sz n xs:=by
 obtain⟨G,a,cap,z,V,J,h4⟩:=h;exact⟨G,a,cap,z,V,J,λh=>absurd W h⟩
theorem fw.of_row(h:w.ownsRow z T sz v n xs):∃g,fw w v g T sz n xs/\(n≠0->z<=g/\v.ownBlock=some g):=by
 obtain⟨h0,J⟩:=h;rcases J with ⟨rfl,rfl⟩|⟨g,cap,G,rfl,hg,V,h2,h3,U,W⟩
 ·obtain rfl:xs=[]:=bg (by omega)
  exact⟨0,fw.nil w 0 T sz,λh=>absurd rfl h⟩
 ·exact⟨g,⟨h0,_,cap,rfl,h2,h3,λ_=>⟨rfl,G,V,U,W⟩⟩,λ_=>⟨hg,rfl⟩⟩
theorem ay.setRow(h:ay l a w){g:Nat}(G:g∈l\/a.heap.size<=g)(c:Array Value):ay l a (w.setRow g c):=
 h.trans (l':=[g]) ⟨rfl,rfl,rfl,by simp[World.setRow],λk _ z=>setRow_other w g k _ (by simpa using z)⟩ (by
  simp_all)
theorem oa (z:Array Value)(n:Nat):(Builtin.zeroCells z n).size=n*z.size:=by simp[Builtin.zeroCells]
theorem Fj{P:Program}{t e ty:Nat}{z:Value}(ht:P.underlying t=some (.slice e))(hz:∀w,(zeroValue e).run P w= .ok z w)
  (G:z.cells.size=sz) (h1:∀u∈(Builtin.zeroCells z.cells n).toList,u.oneCell'=true) (h:fw w v g T sz n xs):
  ∃w',(Builtin.clear_ #[t] ty #[v]).run P w= .ok (.tuple #[]) w'/\fw w' v g T sz n (Builtin.zeroCells z.cells n).toList/\ay [g] w w':=by
 obtain⟨h0,a,cap,rfl,V,h3,h4⟩:=h;by_cases W:n=0
 ·subst W
  refine⟨w,?_,⟨by simp[oa],a,cap,rfl,V,h3,λh=>absurd rfl h⟩,ay.refl _ _⟩;cases a<;>simp[Builtin.clear_,dD ht]
 ·obtain⟨rfl,c,hc,hs,hk⟩:=h4 W
  have J:(Builtin.zeroCells z.cells n).toList.length=n*sz:=by rw[dK,oa,G]
  have aa:n*sz<=c.size:=by rw[hs];exact Nat.mul_le_mul_right _ V
  have U:=run_storeCells_at P g 0 T (Builtin.zeroCells z.cells n).toList 0 c w hc (by rw[J];omega) h1;simp only[dE,eW,bN,bp] at U;generalize hC:((Builtin.zeroCells z.cells n).toList++List.drop (Builtin.zeroCells z.cells n).toList.length c.toList).toArray=C at U;refine⟨w.setRow g C,?_,⟨J,_,cap,rfl,V,h3,λ_=>⟨rfl,C,setRow_heap w g c _ T _ hc,?_,?_⟩⟩,(ay.refl _ _).setRow (by simp) _⟩
  ·cases n with
   |zero=>exact absurd rfl W
   |succ n=>simp[Builtin.clear_,dD ht,hz,U]
  ·grind
  ·rw[<-J,<-hC];exact List.take_left
theorem Io (l:List α)(i:Nat)(d:α):l.set i (l.getD i d)=l:=by
 apply cG
 grind
end
section
open Go.ChangeShapes Go.WideShapes Go.ChangeAt Go.RowKit
variable{α:Type}{T b g gf gl gn i j n sz z:Nat}{l l':List Nat}{a w w':World}{c:Array Value}{row:Option Nat}{v:Value}{xs:List Value}{ps:List (Int×Int)}
section
variable {H:Type} {enc:TypeId×Value->H} {P:Program} {W:World} {base:Nat} {spare:Nat->Bool} {held:Bool}
theorem Fk {a:Addr}{n:Nat}{v:Value}(h:W.cell? (a.add n)=some v)(G:n=0):∃g off,a=⟨g,off,none⟩:=by
 subst G;have :a.add 0=a:=by simp[Addr.add]
 rw[this] at h;obtain⟨g,off,z⟩:=a;have :=World.cell?_spot h
 simp_all
theorem add_plain(g off n:Nat):(⟨g,off,none⟩:Addr).add n=⟨g,off+n,none⟩:=by unfold Addr.add;split<;>simp_all
theorem lt_of_cell{a:Addr}{v:Value}(h:W.cell? a=some v):a.block<W.heap.size:=World.block_lt_of_cell? W a h
theorem Jh {t e:TypeId}{fuel sz:Nat}{cs:List Value}{x:DataW H×List MemPlace}(ht:P.underlying t=some (.slice e))(hc:P.cellsOf e=sz)(aa:0<sz)
  (h:DataW.trod enc P W base spare held fuel t cs=some x):
  ∃a len cap,cs=[.slice a len cap]/\len<=cap/\cap<=maxLen/\(len≠0->∃g off,a=some ⟨g,off,none⟩/\g<W.heap.size/\
   ∀i,i<len->∃(z:List Value) (y:DataW H×List MemPlace) (n:Nat),z.length=sz/\(∀c,c<sz->W.cell? ⟨g,off+(i*sz+c),none⟩=z[c]?)/\DataW.trod enc P W base spare held n e z=some y):=by
 rcases Deep.open_slice ht h with ⟨rfl,-⟩|⟨a,len,cap,m,n,D,Pl,rfl,-,hl,hm,ae,-,U⟩
 ·grind
 ·have ah:len<=m:=by rw[ae];split<;>omega
  refine⟨some a,len,cap,rfl,hl,hm,λh0=> ?_⟩;rw[hc] at U;obtain⟨V,h1,-⟩:=U 0 (by omega);obtain⟨-,af,J⟩:=World.cells?_some h1;have G:=J 0 aa;have e0:(a.add (0*sz))=a:=by simp[Addr.add]
  rw[e0] at G;cases hv:V[0]? with
  |none=>rw[List.getElem?_eq_none_iff] at hv;omega
  |some v=>
   rw[hv] at G;obtain⟨g,off,rfl⟩:=Fk G rfl;refine⟨g,off,rfl,by simpa[add_plain] using lt_of_cell G,λi hi=> ?_⟩;obtain⟨z,h2,h3⟩:=U i (by omega);obtain⟨-,ac,ag⟩:=World.cells?_some h2
   grind [add_plain]
end
end
section
variable{α:Type}{T b g gf gl gn i j n sz z:Nat}{l l':List Nat}{a w w':World}{c:Array Value}{row:Option Nat}{v:Value}{xs:List Value}{ps:List (Int×Int)}
def rG (W k:Nat):Nat:=W/256^k%256
def lO (W:Nat):List Nat:=(List.range 8).map (rG W)
def l7:List Nat->Nat
 | []=>0
 |c::l=>c+256*l7 l
theorem B0 (W k:Nat):rG W k<256:=ij _ (by decide)
theorem mr (W:Nat):(lO W).length=8:=by simp[lO]
theorem uH (W k:Nat)(h:k<8):(lO W).getD k 0=rG W k:=by simp[lO,h]
theorem R6 (W:Nat):∀c∈lO W,c<256:=by
 grind [lO,B0]
theorem AK (l m:List Nat):l7 (l++m)=l7 l+256^l.length*l7 m:=by
 induction l with
 |nil=>simp[l7]
 |cons c l ih=>grind [l7]
theorem Ji (c:Nat):l7 [c]=c:=by simp[l7]
theorem Mi (n:Nat):l7 (List.replicate n 0)=0:=by
 induction n with
 |zero=>rfl
 |succ n ih=>simp[List.replicate_succ,l7,ih]
theorem Fl (h:∀c∈l,c<256):l7 l<256^l.length:=by
 induction l with
 |nil=>simp[l7]
 |cons c l ih=>
  grind [List.mem_cons_self,l7]
theorem Jj (h:∀c∈l,c<256):∀k,rG (l7 l) k=l.getD k 0:=by
 induction l with
 |nil=>intro k;simp[l7,rG]
 |cons c l ih=>
  have G:=h c List.mem_cons_self;intro k;cases k with
  |zero=>simp[l7,rG];omega
  |succ k=>
   have :=ih (λx z=>h x (List.mem_cons_of_mem _ z)) k;rw[List.getD_cons_succ,<-this];unfold rG;rw[l7,Nat.pow_succ',<-Nat.div_div_eq_div_mul]
   congr 2
   omega
theorem Es (l:List Nat)(k:Nat)(h:k<l.length):l7 (l.take (k+1))=l7 (l.take k)+l.getD k 0*256^k:=by
 grind [bR,AK,Ji]
theorem R7 (h:∀c∈l,c<256)(k:Nat):∀c∈l.take k,c<256:=λc z=>h c (bL z)
def nO (c:Nat):Bool:=decide (33<=c)&&(decide (c<=126)&&(c != 47))
def ig (l:List Nat):Bool:=decide (1<=l.length)&&decide (l.length<=7)&&(l != [46])&&(l != [46,46])&&l.all nO
def sH (l:List Nat):Nat:=l7 l+72057594037927936*l.length
def Et (l:List Nat):List Nat:=l++List.replicate (7-l.length) 0++[l.length]
theorem oz (h:ig l=true):1<=l.length/\l.length<=7:=by simp[ig] at h;omega
theorem AL (h:l.length<=7):(Et l).length=8:=by simp[Et];omega
theorem Ky (z:l.length<=7)(h:∀c∈l,c<256):∀c∈Et l,c<256:=by
 grind [Et]
theorem zT (h:l.length<=7):l7 (Et l)=sH l:=by
 grind [Et,AK,Mi,Ji,sH]
theorem Xc (z:l.length<=7)(h:∀c∈l,c<256):sH l<18446744073709551616:=by
 have :=Fl (Ky z h)
 grind [zT,AL]
theorem PG (z:l.length<=7)(h:∀c∈l,c<256):lO (sH l)=Et l:=by
 have G:=Ky z h;apply cG
 grind [AL,Jj,zT,lO]
def kD (W:Nat):Option (List Nat):=if rG W 7<=7/\ig ((lO W).take (rG W 7))=true/\sH ((lO W).take (rG W 7))=W then some ((lO W).take (rG W 7)) else none
theorem oC (G:ig l=true)(h:∀c∈l,c<256):kD (sH l)=some l:=by
 obtain⟨U,J⟩:=oz G;have z:=PG J h;have V:rG (sH l) 7=l.length:=by
  rw[<-uH _ 7 (by omega),z,Et,aj,aT (by simp;omega)]
  simp_all
 grind [Et,kD]
def fnv (h c:Nat):Nat:=(h ^^^ c)*16777619%4294967296
def TD (h W:Nat):Nat:=(lO W).foldl fnv h
def Mj (l:List Nat):Nat:=l.foldl TD 2166136261
theorem adA (h c:Nat):fnv h c<4294967296:=ij _ (by decide)
theorem AO (l:List Nat):∀h,h<4294967296->l.foldl fnv h<4294967296:=by
 induction l with
 |nil=>intro h z;exact z
 |cons c l ih=>intro h _;exact ih _ (adA h c)
theorem aa3 (h W:Nat)(z:h<4294967296):TD h W<4294967296:=AO _ _ z
theorem zA (l:List Nat):∀h,h<4294967296->l.foldl TD h<4294967296:=by
 induction l with
 |nil=>intro h z;exact z
 |cons c l ih=>intro h z;exact ih _ (aa3 h c z)
theorem Kz (l:List Nat):Mj l<4294967296:=zA l _ (by decide)
def jo (ps:List (Int×Int)) (j:Nat):Int:=(ps.getD j (0,0)).1
def rA (ps:List (Int×Int)) (j:Nat):Int:=(ps.getD j (0,0)).2
theorem pY (ps:List (Int×Int))(k:Nat)(h:k<ps.length):ps.take (k+1)=ps.take k++[(jo ps k,rA ps k)]:=by
 grind [jo,rA,bR]
theorem Mk (ps:List (Int×Int))(k:Nat)(h:k<ps.length):(jo ps k,rA ps k)∈ps:=by
 grind [jo,rA]
def az (xs:List Int) (ps:List (Int×Int)):List Int:=ps.foldl (λa p=>a.set p.1.toNat p.2) xs
theorem zU (xs:List Int):az xs []=xs:=rfl
theorem br (xs:List Int)(ps qs:List (Int×Int)):az xs (ps++qs)=az (az xs ps) qs:=by simp[az,List.foldl_append]
theorem oh (xs:List Int)(a x:Int):az xs [(a,x)]=xs.set a.toNat x:=rfl
theorem cy (ps:List (Int×Int)):∀xs,(az xs ps).length=xs.length:=by
 induction ps with
 |nil=>intro xs;rfl
 |cons p ps ih=>intro xs;show(az (xs.set p.1.toNat p.2) ps).length=_;rw[ih];simp
theorem Ca (xs:List Int)(ps:List (Int×Int))(k:Nat)(h:k<ps.length):az xs (ps.take (k+1))=(az xs (ps.take k)).set (jo ps k).toNat (rA ps k):=by
 rw[pY ps k h,br];rfl
theorem getD_set_ne{l:List Int}(x:Int)(h:i≠j):(l.set i x).getD j 0=l.getD j 0:=by
 simp_all
theorem AP{l:List Int}(x:Int):(l.set i x).getD j 0=if i=j/\j<l.length then x else l.getD j 0:=by
 grind
theorem dX (ps:List (Int×Int))(i:Nat):∀xs,(∀p∈ps,p.1.toNat≠i)->(az xs ps).getD i 0=xs.getD i 0:=by
 induction ps with
 |nil=>intro xs _;rfl
 |cons p ps ih=>
  intro xs h;show(az (xs.set p.1.toNat p.2) ps).getD i 0=_
  simp_all
def sI (a:Int):Bool:=decide (0<=a)&&decide (a<3128)&&(decide (a<8)||decide (816<=a))
theorem nb{a:Int}:sI a=true↔0<=a/\a<3128/\(a<8\/816<=a):=by
 simp[sI,and_assoc]
def AQ (ps:List (Int×Int)):Bool:=ps.all λp=>sI p.1
theorem TE (h:AQ ps=true){p:Int×Int}(z:p∈ps):0<=p.1/\p.1<3128/\(p.1<8\/816<=p.1):=nb.1 (iM.1 h _ z)
def fx (ps:List (Int×Int)):List Int:=ps.flatMap λp=>[p.1%18446744073709551616,p.2]
theorem ng (ps:List (Int×Int)):(fx ps).length=2*ps.length:=by
 induction ps with
 |nil=>rfl
 |cons p ps ih=>simp[fx] at ih ⊢;omega
theorem Ip (ps qs:List (Int×Int)):fx (ps++qs)=fx ps++fx qs:=by simp[fx]
theorem Cb (ps:List (Int×Int))(k:Nat)(h:k<ps.length):fx (ps.take (k+1))=fx (ps.take k)++[jo ps k%18446744073709551616,rA ps k]:=by
 rw[pY ps k h,Ip];rfl
theorem PH (ps:List (Int×Int)):∀k,k<ps.length->(fx ps).getD (2*k) 0=jo ps k%18446744073709551616/\(fx ps).getD (2*k+1) 0=rA ps k:=by
 induction ps with
 |nil=>intro k h;simp at h
 |cons p ps ih=>
  intro k h;have z:fx (p::ps)=p.1%18446744073709551616::p.2::fx ps:=rfl
  grind [jo,rA]
def okP (ps:List (Int×Int)):Prop:=∀p∈ps,(-9223372036854775808<=p.1/\p.1<=9223372036854775807)/\0<=p.2/\p.2<=18446744073709551615
theorem R9 (h:okP ps){k:Nat}(z:k<ps.length):(-9223372036854775808<=jo ps k/\jo ps k<=9223372036854775807)/\0<=rA ps k/\rA ps k<=18446744073709551615:=h _ (Mk ps k z)
def Fm (xs:List Int):Prop:=∀x∈xs,0<=x/\x<=18446744073709551615
theorem Fp (h:okP ps):Fm (fx ps):=by
 intro x z;simp only[fx,List.mem_flatMap,aM,aK,bC] at z;obtain⟨p,G,z⟩:=z;have :=h p G;omega
theorem Fq{xs:List Int}(h:Fm xs)(k:Nat):0<=xs.getD k 0/\xs.getD k 0<=18446744073709551615:=by
 rw[aj];cases hk:xs[k]? with
 |none=>simp
 |some x=>exact h x (List.mem_of_getElem? hk)
def mb (ws:List Int) (m:Nat):Bool:=(List.range m).all λk=>sI (ws.getD (2*k) 0)
theorem Fs (h:okP ps):mb (fx ps) ps.length=AQ ps:=by
 have G:∀k,k<ps.length->sI ((fx ps).getD (2*k) 0)=sI (jo ps k):=by
  intro k z;rw[(PH ps k z).1,Bool.eq_iff_iff,nb,nb];have :=R9 h z;omega
 grind [mb,AQ,b9,jo]
def nD (ws:List Int):List (Int×Int):=ws.mapIdx λk w=>((9+k:Int),w)
theorem nV (ws:List Int):(nD ws).length=ws.length:=by simp[nD]
theorem Ml{ws:List Int}{p:Int×Int}(h:p∈nD ws):9<=p.1/\p.1<9+ws.length:=by
 grind [nD]
def rH (ws:List Int):Int:=(ws.length/2:Nat)*4294967296+(Mj (ws.map Int.toNat):Nat)
def nE (f:List Int):Nat->Nat
 |0=>0
 |k+1=>nE f k+if f.getD k 0∈f.take k then 0 else 1
def iC (ps:List (Int×Int)):List Int:=ps.map λp=>p.1/8
def KA (ps:List (Int×Int)):Nat:=nE (iC ps) ps.length
theorem Dw (ps:List (Int×Int))(k:Nat)(h:k<ps.length):(iC ps).getD k 0=jo ps k/8:=by
 grind [iC,jo]
theorem o6 (ps:List (Int×Int))(k:Nat):(iC ps).take k=iC (ps.take k):=by simp[iC]
theorem KB (ps:List (Int×Int))(k:Nat)(h:k<ps.length):(iC ps).take (k+1)=(iC ps).take k++[jo ps k/8]:=by
 grind [o6,pY,iC]
theorem zV (f:List Int):∀k,nE f k<=k
 |0=>aI _
 |k+1=>by
  have :=zV f k;unfold nE;split<;>omega
def mf (ps:List (Int×Int)):Nat:=ps.length+KA ps+1
def Cc (ps:List (Int×Int)):Nat:=if ps=[] then 0 else mf (nD (fx ps))+3+mf ps+3
theorem zW (ps:List (Int×Int)):mf ps<=2*ps.length+1:=by
 grind [zV,mf,KA]
theorem Mm (a x:Int):mf [(a,x)]=3:=by simp[mf,KA,nE]
theorem TF (ps:List (Int×Int)):Cc ps<=6*ps.length+8:=by
 grind [zW,nV,ng,Cc]
def Xd (xs:List Int) (ps:List (Int×Int)):List Int:=az (az xs ps) [(8,0)]
def nG (xs:List Int) (ps:List (Int×Int)):List Int:=if ps=[] then xs else Xd (az (az xs (nD (fx ps))) [(8,rH (fx ps))]) ps
end
section
open Go.RowKit
variable{α:Type}{T b g gf gl gn i j n sz z:Nat}{l l':List Nat}{a w w':World}{c:Array Value}{row:Option Nat}{v:Value}{xs:List Value}{ps:List (Int×Int)}
def aX (l:List Int):List Value:=l.map (Value.int .u64)
def bools (l:List Bool):List Value:=l.map Value.bool
theorem dM{l:List Int}(h:j<l.length):(aX l)[j]? =some (.int .u64 (l.getD j 0)):=by simp[aX,h]
theorem uI{l:List Bool}(h:j<l.length):(bools l)[j]? =some (.bool (l.getD j false)):=by simp[bools,h]
theorem mz (l:List Int)(j:Nat)(x:Int):(aX l).set j (.int .u64 x)=aX (l.set j x):=by simp[aX,List.map_set]
theorem Ce (l:List Bool)(j:Nat)(x:Bool):(bools l).set j (.bool x)=bools (l.set j x):=by simp[bools,List.map_set]
theorem bA (l:List Int):(aX l).length=l.length:=by simp[aX]
theorem pZ (l:List Bool):(bools l).length=l.length:=by simp[bools]
theorem fk (l:List Int):∀u∈aX l,u.oneCell'=true:=by
 intro u h;simp only[aX,bH] at h;obtain⟨x,-,rfl⟩:=h;rfl
theorem Jk (n:Nat):List.replicate n (Value.int .u64 0)=aX (List.replicate n 0):=by simp[aX]
theorem ua (xs h:List Int):aX (xs++h)=aX xs++aX h:=by simp[aX]
theorem il{xs:List Int}(h:Reads w v g (aX xs)):∃a cap,v= .slice a xs.length cap/\xs.length<=cap/\cap<=maxLen/\
  Hid (∀k,k<xs.length->g<w.heap.size/\∃off,a=some ⟨g,off,none⟩/\w.cell? ⟨g,off+k,none⟩=some (.int .u64 (xs.getD k 0))):=by
 obtain⟨a,cap,G,z,U,J⟩:=h;rw[bA] at *;refine⟨a,cap,G,z,U,λk W=> ?_⟩;obtain⟨hg,off,ho,V⟩:=J (by grind [bA])
 grind [dM]
theorem Reads.anyG(h:Reads w v g xs)(G:xs=[])(U:Nat):Reads w v U xs:=by
 obtain⟨a,cap,z,V,J,W⟩:=h;exact⟨a,cap,z,V,J,λh=>absurd G h⟩
def ni (w:World) (v:Value) (g:Nat) (ps:List (Int×Int)):Prop:=
 ∃a cap,v= .slice a ps.length cap/\ps.length<=cap/\cap<=maxLen/\(ps.length≠0->g<w.heap.size/\∃off,a=some ⟨g,off,none⟩/\
  ∀j,j<ps.length->w.cell? ⟨g,off+j*2,none⟩=some (.int .i64 (jo ps j))/\w.cell? ⟨g,off+j*2+1,none⟩=some (.int .u64 (rA ps j)))
theorem ni.keep(h:ni w v g ps){l:List Nat}(J:ay l w w')(hg:ps.length≠0->g∉l:=by simp):ni w' v g ps:=by
 obtain⟨a,cap,U,h2,h3,V⟩:=h;refine⟨a,cap,U,h2,h3,λG=> ?_⟩;obtain⟨z,off,W,h6⟩:=V G;refine⟨bQ z J.size,off,W,λj hj=> ?_⟩;have hb:=J.block g z (hg G)
 grind [aO]
theorem ni.val(h:ni w v g ps):∃a cap,v= .slice a ps.length cap/\ps.length<=cap/\cap<=maxLen:=by
 obtain⟨a,cap,z,J,G,U⟩:=h;exact⟨a,cap,z,J,G⟩
theorem ni.get{a:Option Addr}{cap:Nat}(h:ni w (.slice a n cap) g ps){j:Nat}(U:j<ps.length):
  g<w.heap.size/\∃off,a=some ⟨g,off,none⟩/\w.cell? ⟨g,off+j*2,none⟩=some (.int .i64 (jo ps j))/\w.cell? ⟨g,off+j*2+1,none⟩=some (.int .u64 (rA ps j)):=by
 obtain⟨W,z,G,h2,V,J⟩:=h
 grind
def je (ps:List (Int×Int)):List Value:=ps.flatMap λp=>[.int .i64 p.1,.int .u64 p.2]
theorem sJ (ps:List (Int×Int)):(je ps).length=ps.length*2:=by
 induction ps with
 |nil=>rfl
 |cons p ps ih=>simp[je] at ih ⊢;omega
theorem uz (ps qs:List (Int×Int)):je (ps++qs)=je ps++je qs:=by simp[je]
theorem p9 (ps:List (Int×Int)):∀k,k<ps.length->(je ps)[k*2]? =some (.int .i64 (jo ps k))/\(je ps)[k*2+1]? =some (.int .u64 (rA ps k)):=by
 induction ps with
 |nil=>intro k h;simp at h
 |cons p ps ih=>
  intro k h;have z:je (p::ps)= .int .i64 p.1:: .int .u64 p.2::je ps:=rfl;cases k with
  |zero=>rw[z];exact⟨rfl,rfl⟩
  |succ k=>
   have :=ih k (by simpa using h);rw[z,show(k+1)*2=k*2+1+1 by omega];simp only[iu];exact this
theorem fw.preads(h:fw w v g T 2 ps.length (je ps)):ni w v g ps:=by
 obtain⟨a,cap,G,U,V⟩:=h.val;refine⟨a,cap,G,U,V,λh0=> ?_⟩;obtain⟨W,⟨J,z,-,-⟩,hc,-⟩:=h.cell h0;rw[G] at z;cases z;refine⟨W,0,rfl,λj hj=> ?_⟩
 grind [p9]
def jG (w:World) (ws:List Int) (e:Ending) (w':World):Prop:=
 ∃v g,e=(v:Value)/\Reads w' v g (aX ws)/\w.heap.size<=g/\ay [] w w'
theorem lu (w:World)(cs:List Value)(T m:Nat)(z:m=w.heap.size):∀j u,cs[j]? =some u->(w.alloc (.cells cs.toArray T)).cell? ((⟨m,0,none⟩:Addr).add j)=some u:=by
 intro j u h;subst z;rw[add_plain,(bc.new w cs.toArray T).cell,bp];simpa using h
def mH (w:World) (ps:List (Int×Int)) (e:Ending) (w':World):Prop:=
 ∃v g,e=(v:Value)/\ni w' v g ps/\w.heap.size<=g/\ay [] w w'
theorem Dx (n:Nat):(madeCells #[Value.int .i64 0,Value.int .u64 0] (n*2)).toList=je (List.replicate n (0,0)):=by
 apply cG;intro j;simp only[madeCells,Array.toList_map,Array.toList_range,bO];by_cases h:j<n*2
 ·rw[cU h]
  have z:=p9 (List.replicate n ((0:Int),(0:Int))) (j/2) (by simp;omega)
  grind [jo,rA]
 grind [sJ]
theorem PJ (l:List (Int×Int))(a x:Int):∀k,((je l).set (k*2) (.int .i64 a)).set (k*2+1) (.int .u64 x)=je (l.set k (a,x)):=by
 induction l with
 |nil=>intro k;rfl
 |cons p l ih=>
  intro k;have h:∀(p:Int×Int) l,je (p::l)= .int .i64 p.1:: .int .u64 p.2::je l:=λ_ _=>rfl
  cases k with
  |zero=>rfl
  |succ k=>grind
def eH {α:Type} (z:α) (l:List α) (k:Nat):List α:=l.take k++List.replicate (l.length-k) z
theorem l8 (z:α)(l:List α):eH z l 0=List.replicate l.length z:=by simp[eH]
theorem nj (z:α)(l:List α):eH z l l.length=l:=by simp[eH]
theorem mg (z:α)(l:List α)(k:Nat)(h:k<=l.length):(eH z l k).length=l.length:=by simp[eH];omega
theorem l9 (z:α)(l:List α)(k:Nat)(h:k<l.length)(x:α)(G:l[k]=x):(eH z l k).set k x=eH z l (k+1):=by
 subst G;unfold eH;rw[bR h,show l.length-k=(l.length-(k+1))+1 by omega,List.replicate_succ,aV];rw[dU _ _ (by simp;omega)]
 congr 1
 rw[aJ,cZ (by omega),ja];rfl
theorem fw.pair{l:List (Int×Int)}(h:fw w v g T 2 n (je l))(k:Nat)(a x:Int):
  fw ((w.setCell ⟨g,k*2,none⟩ (.int .i64 a)).setCell ⟨g,k*2+1,none⟩ (.int .u64 x)) v g T 2 n (je (l.set k (a,x))):=by
 have :=(h.set (k*2) (.int .i64 a)).set (k*2+1) (.int .u64 x);rw[PJ] at this;exact this
theorem mH.mk(h:fw w' v g T 2 n (je ps))(z:n=ps.length)(G:w.heap.size<=g)(J:ay [] w w'):mH w ps (.returned v) w':=by
 subst z;exact⟨v,g,rfl,h.preads,G,J⟩
def Mn (ps:List (Int×Int)) (n:Nat):Prop:=∀p∈ps,0<=p.1/\p.1<n
theorem yI (h:Mn ps n){k:Nat}(z:k<ps.length):0<=jo ps k/\jo ps k<n:=h _ (Mk ps k z)
theorem dO (h:w.ownsRow z T sz v n xs):∀k,v.ownBlock=some k->z<=k:=by
 obtain⟨h0,J⟩:=h;intro k G;rcases J with ⟨rfl,rfl⟩|⟨g,cap,V,rfl,U,hh,h2,h3,W,h5⟩
 ·cases G
 ·cases G;exact U
theorem ay.grown{wr J:World}(h:ay [] w wr)(z:wr.grownBy J row)(U:∀k,row=some k->w.heap.size<=k):ay [] w J:=
 ⟨z.os.trans h.os,z.tape.trans h.tape,z.output.trans h.output,cL h.size z.size,λk G V=>
  (z.block k (bQ G h.size) λe=>by have :=U k e.symm;omega).trans (h.block k G V)⟩
theorem ey (h:w.ownsRow z T sz v n xs){l:List Nat}(W:ay l w w')(hn:∀k,v.ownBlock=some k->k∉l):w'.ownsRow z T sz v n xs:=by
 obtain⟨h0,U⟩:=h;refine⟨h0,?_⟩;rcases U with ⟨rfl,rfl⟩|⟨g,cap,G,rfl,hg,J,h2,h3,V,h5⟩
 ·exact .inl ⟨rfl,rfl⟩
 ·refine .inr ⟨g,cap,G,rfl,hg,?_,h2,h3,V,h5⟩
  rw[<-J];exact W.block g (Array.getElem?_eq_some_iff.1 J).1 (hn g rfl)
theorem iT (h:w.ownsRow z T sz v n xs):∃a cap,v= .slice a n cap/\n<=cap/\cap<=maxLen:=by
 obtain⟨g,G,-⟩:=fw.of_row h;exact G.val
theorem Tryz.info_u64:(prog.info? 70).map (λi=>(i.zero,i.size,i.bytes))=some (some (.int .u64 0),1,8):=by kernel_rfl
theorem AR (n:Nat)(hn:n<=100000)(m:Int)(U:m=(n:Int))(k:Nat)(W:k=0\/k=n)(w:World):(Instr.makeSlice 65 (.int .i64 (k:Int)) (.int .i64 m)).run prog w=
  .ok (.slice w.heap.size k n) (w.alloc (.cells (madeCells #[.int .u64 0] n) 70)):=by
 subst U;obtain⟨J,V,h,z,G⟩:=df Tryz.info_u64;have :=run_make (P:= prog) w 65 70 J _ underlying65 V h .i64 .i64 (k:Int) (n:Int) (by omega) (by omega) (by rw[G];omega) (by omega);rw[z,aF,aF,iE] at this;exact this
structure kp where
 now:List Int
 last:List Int
 fl:List Bool
 deeds:Int
 fused:Bool
 left:Int
structure fM (w:World) (b gn gl gf:Nat) (s:kp):Prop where
 n9:s.now.length<=10000
 ll:s.last.length=s.now.length
 fll:s.fl.length=(s.now.length+7)/8*8
 apart:s.now.length≠0->(gn≠b/\gl≠b/\gf≠b)/\gn≠gl/\gn≠gf/\gl≠gf
 at_:∃vn vl vf,bc w b #[vn,vl,vf,s.deeds,s.fused,s.left] 112/\
  fw w vn gn 70 1 s.now.length (aX s.now)/\fw w vl gl 70 1 s.now.length (aX s.last)/\
  fw w vf gf 200 8 ((s.now.length+7)/8) (bools s.fl)
theorem fM.keep{s:kp}(h:fM w b gn gl gf s){l:List Nat}(z:ay l w w')(U:b∉l:=by simp)(G:s.now.length≠0->gn∉l/\gl∉l/\gf∉l:=by simp):fM w' b gn gl gf s:=by
 obtain⟨n9,ll,fll,ap,W,V,J,a,c,d,e⟩:=h;exact⟨n9,ll,fll,ap,W,V,J,a.keep z U,c.keepIf z λh=>(G h).1,d.keepIf z λh=>(G h).2.1,e.keepIf z λh=>(G (by omega)).2.2⟩
def kp.gone (s:kp):Bool:=s.fused&&s.left==0
def kp.refusal (s:kp) (i:Int):Int:=if s.gone=true then 9 else if i<0\/(s.now.length:Int)<=i then 1 else 0
def kp.count (s:kp):kp:={ s with deeds:=s.deeds+1,left:=if s.fused=true then s.left-1 else s.left }
def kp.fit (s:kp):Prop:=0<=s.deeds/\s.deeds<4611686018427387904/\0<=s.left/\s.left<=9223372036854775807
theorem Xe (b:Nat)(fused:Bool)(left:Int)(w:World)
  (z:w.cell? ⟨b,4,none⟩=some (.bool fused)) (h:w.cell? ⟨b,5,none⟩=some (.int .i64 left)):
  Calls prog 51 #[b] w λe w'=>e=(fused&&left==0:Bool)/\w=w':=by
 cases fused
 ·go_in
  go_wp2;go_ret;exact⟨rfl,rfl⟩
 ·go_in
  go_wp2;go_ret;exact⟨rfl,rfl⟩
theorem Sa{s:kp}(h:fM w b gn gl gf s):
  Calls prog 51 #[b] w λe w'=>e=s.gone/\w=w':=by
 obtain⟨z,G,J,a,c,d,e⟩:=h.at_;exact Xe b s.fused s.left w (by rw[a.cell];rfl) (by rw[a.cell];rfl)
theorem zX{s:kp}(h:fM w b gn gl gf s)(i:Int):
  Calls prog 108 #[b,i] w λe w'=>e=(s.refusal i:Int)/\w=w':=by
 have J:=Sa h;have W:=h.n9;obtain⟨vn,vl,vf,a,c,d,e⟩:=h.at_;obtain⟨an,U,rfl,_,_⟩:=c.val;have h0:w.cell? b=some (.slice an s.now.length U):=by rw[a.cell];rfl
 clear a c d e h;unfold kp.refusal;generalize s.gone=g,s.now.length=n at *;have z:=ar J;clear J;cases g
 ·by_cases G:i<0
  ·rw[aA (by simp),aB (.inl G)]
   go_in;go_wp2_with(go_at_call 51;refine z.out.mono ?_;rintro e w' ⟨rfl,rfl⟩);go_ret;exact⟨rfl,rfl⟩
  ·by_cases h2:(n:Int)<=i
   ·rw[aA (by simp),aB (.inr h2)]
    have V:decide (i<0)=false:=by simpa using G
    go_in;go_wp2_with(go_at_call 51;refine z.out.mono ?_;rintro e w' ⟨rfl,rfl⟩);go_ret;exact⟨rfl,rfl⟩
   ·rw[aA (by simp),aA]
    have V:decide (i<0)=false:=by simpa using G
    go_in;go_wp2_with(go_at_call 51;refine z.out.mono ?_;rintro e w' ⟨rfl,rfl⟩);go_ret;exact⟨rfl,rfl⟩
 ·rw[aB rfl]
  go_in;go_wp2_with(go_at_call 51;refine z.out.mono ?_;rintro e w' ⟨rfl,rfl⟩);go_ret;exact⟨rfl,rfl⟩
theorem Xf{s:kp}(h:fM w b gn gl gf s):
  Calls prog 45 #[b] w λe w'=>e=(s.now.length:Int)/\w=w':=by
 obtain⟨V,U,J,a,c,d,e⟩:=h.at_;obtain⟨G,z,rfl,_,_⟩:=c.val;have W:w.cell? b=some (.slice G s.now.length z):=by rw[a.cell];rfl
 clear a c d e h;generalize s.now.length=n at *;go_in;go_wp2;go_ret;exact⟨rfl,rfl⟩
theorem fM.six{s z:kp}(h:fM w b gn gl gf s)(hk:ay [b] w w')
  (hs:z.now=s.now/\z.last=s.last/\z.fl=s.fl)
  (hb:∀W V J,bc w b #[W,V,J,s.deeds,s.fused,s.left] 112->bc w' b #[W,V,J,z.deeds,z.fused,z.left] 112):fM w' b gn gl gf z:=by
 obtain⟨n9,ll,fll,U,W,V,J,a,c,d,e⟩:=h;obtain⟨G,e2,e3⟩:=hs;refine⟨by rw[G];exact n9,by rw[G,e2];exact ll,by rw[G,e3];exact fll,by rw[G];exact U,W,V,J,hb _ _ _ a,?_,?_,?_⟩
 ·rw[G];exact c.keepIf hk λh=>by simpa using (U h).1.1
 ·rw[G,e2];exact d.keepIf hk λh=>by simpa using (U h).1.2.1
 ·rw[G,e3];exact e.keepIf hk λh=>by simpa using (U (by omega)).1.2.2
theorem Fu{s:kp}(h:fM w b gn gl gf s)(hf:s.fit)(hg:s.gone=false):
  Calls prog 146 #[b] w λe w'=>e= .returned (.tuple #[])/\fM w' b gn gl gf s.count/\ay [b] w w':=by
 obtain⟨f1,f2,f3,f4⟩:=hf;obtain⟨V,U,G,a,-,-,-⟩:=h.at_;have h3:w.cell? ⟨b,3,none⟩=some (.int .i64 s.deeds):=by rw[a.cell];rfl
 have W:w.cell? ⟨b,4,none⟩=some (.bool s.fused):=by rw[a.cell];rfl
 have h5:w.cell? ⟨b,5,none⟩=some (.int .i64 s.left):=by rw[a.cell];rfl
 have g3:w.frozen? ⟨b,3,none⟩=false:=a.frozen 3;have g5:w.frozen? ⟨b,5,none⟩=false:=a.frozen 5;clear a V U G;have H:=ar h;clear h;have HG:=ar hg;clear hg;cases hfu:s.fused
 ·rw[hfu] at W
  have J:=ar hfu;clear hfu;go_in;go_wp2;go_end0;have z:ay [b] w (w.setCell ⟨b,3,none⟩ (.int .i64 (s.deeds+1))):=(ay.refl _ _).setCell (by simp) _;refine⟨rfl,H.out.six z ⟨rfl,rfl,rfl⟩ λV U G a=> ?_,z⟩;simpa[kp.count,J.out] using a.set 3 (.int .i64 (s.deeds+1))
 ·rw[hfu] at W
  have hl:s.left≠0:=by
   intro e;have :=HG.out;simp[kp.gone,hfu,e] at this
  have J:=ar hfu;clear hfu;go_in;go_wp2;go_end0;have z:ay [b] w ((w.setCell ⟨b,3,none⟩ (.int .i64 (s.deeds+1))).setCell ⟨b,5,none⟩ (.int .i64 (s.left-1))):=((ay.refl _ _).setCell (by simp) _).setCell (by simp) _;refine⟨rfl,H.out.six z ⟨rfl,rfl,rfl⟩ λV U G a=> ?_,z⟩;simpa[kp.count,J.out] using (a.set 3 (.int .i64 (s.deeds+1))).set 5 (.int .i64 (s.left-1))
def kp.load (s:kp) (i:Int):Int:=if s.refusal i=0 then s.now.getD i.toNat 0 else 0
def kp.store (s:kp) (i x:Int):kp:=if s.refusal i=0 then { s.count with now:=s.now.set i.toNat x,fl:=s.fl.set i.toNat false } else s
theorem kp.refusal_ok{s:kp}{i:Int}(h:s.refusal i=0):s.gone=false/\0<=i/\i<s.now.length:=by
 grind [kp.refusal]
theorem Sb{s:kp}(h:fM w b gn gl gf s)(i:Int):
  Calls prog 55 #[b,i] w λe w'=>e= .returned (.tuple #[.int .u64 (s.load i),(s.refusal i:Int)])/\w=w':=by
 have G:=ar (zX h i);by_cases z:s.refusal i=0
 ·obtain⟨-,W,i1⟩:=kp.refusal_ok z
  obtain⟨i,rfl⟩:=cz W;have V:=h.n9;obtain⟨vn,vl,vf,a,c,-,-⟩:=h.at_;obtain⟨-,⟨U,rfl,q1,q2⟩,q3,-⟩:=c.cell (by omega);have k0:w.cell? b=some (.slice gn s.now.length U):=by rw[a.cell];rfl
  have k1:w.cell? ⟨gn,i,none⟩=some (.int .u64 (s.load (i:Int))):=by grind [dM,kp.load]
  clear a c q3 h;rw[z] at G ⊢;clear z;generalize s.load i=x,s.now.length=n at *;go_in;go_wp2_with(go_at_call 108;refine G.out.mono ?_;rintro e w' ⟨rfl,rfl⟩);go_ret2;exact⟨rfl,rfl⟩
 ·have J:s.load i=0:=by rw[kp.load,aA z]
  rw[J];have h1:(s.refusal i != 0)=true:=by simpa using z
  generalize s.refusal i=r at *;clear h J z;go_in;go_wp2_with(go_at_call 108;refine G.out.mono ?_;rintro e w' ⟨rfl,rfl⟩);go_ret2;exact⟨rfl,rfl⟩
theorem fM.store{s:kp}(h:fM w b gn gl gf s)(hn:s.now.length≠0)(i:Nat)(x:Int):
  fM ((w.setCell ⟨gn,i,none⟩ (.int .u64 x)).setCell ⟨gf,i,none⟩ (.bool false)) b gn gl gf { s with now:=s.now.set i x,fl:=s.fl.set i false }:=by
 obtain⟨n9,ll,fll,G,vn,W,J,a,c,d,e⟩:=h;obtain⟨⟨p1,p2,p3⟩,U,z,V⟩:=G hn;refine⟨by simpa using n9,by simpa using ll,by simpa using fll,by simpa using G,vn,W,J,?_,?_,?_,?_⟩
 ·exact(a.other (a:=⟨gn,i,none⟩) (cV p1) _).other (a:=⟨gf,i,none⟩) (cV p3) _
 ·have :=(c.set i (.int .u64 x)).keep (((ay.refl [gf] _).setCell (p:=⟨gf,i,none⟩) (by simp) (.bool false))) (by simpa using z)
  simpa[mz] using this
 ·have :=(d.keep ((ay.refl [gn] _).setCell (p:=⟨gn,i,none⟩) (by simp) (.int .u64 x)) (by simpa using cV U)).keep (((ay.refl [gf] _).setCell (p:=⟨gf,i,none⟩) (by simp) (.bool false))) (by simpa using V)
  simpa using this
 ·have :=(e.keep ((ay.refl [gn] _).setCell (p:=⟨gn,i,none⟩) (by simp) (.int .u64 x)) (by simpa using cV z)).set i (.bool false)
  simpa[Ce] using this
theorem Mo{s:kp}(h:fM w b gn gl gf s)(hf:s.fit)(i x:Int):
  Calls prog 105 #[b,i,.int .u64 x] w λe w'=>e=(s.refusal i:Int)/\fM w' b gn gl gf (s.store i x)/\ay [b,gn,gl,gf] w w':=by
 have U:=ar (zX h i);by_cases z:s.refusal i=0
 ·obtain⟨hg,i0,i1⟩:=kp.refusal_ok z
  rw[kp.store,aB z];obtain⟨i,rfl⟩:=cz i0;rw[z] at U ⊢;have aa:=h.n9;have hc:=ar (Fu h hf hg);clear z h hf;go_in;go_wp2_with fail;refine U.out.mono ?_;rintro e w' ⟨rfl,rfl⟩;go_wp2_with fail;refine hc.out.mono ?_;rintro e G ⟨rfl,h,hk⟩;obtain⟨vn,vl,vf,a,c,d,e⟩:=h.at_;have ec:s.count.now.length=s.now.length:=rfl;obtain⟨-,⟨cn,rfl,q1,q2⟩,q3,q4⟩:=c.cell (by omega);obtain⟨-,⟨cf,rfl,r1,r2⟩,W,V⟩:=e.cell (by omega);have ap:=(h.apart (by omega)).2.2.1;have k0:G.cell? b=some (.slice gn s.now.length cn):=by rw[a.cell];rfl
  have k1:G.cell? ⟨gn,i,none⟩=some (.int .u64 (s.now.getD i 0)):=by rw[q3 i (by omega),dM (by omega)];rfl
  have k2:G.frozen? ⟨gn,i,none⟩=false:=q4 i;have k3:(G.setCell ⟨gn,i,none⟩ (.int .u64 x)).cell? ⟨b,2,none⟩=some (.slice gf ((s.now.length+7)/8) cf):=by
   rw[(a.other (a:=⟨gn,i,none⟩) (cV (h.apart (by omega)).1.1) _).cell];rfl
  have J:i/8*8+i%8=i:=by omega
  have k4:G.cell? ⟨gf,i/8*8+i%8,none⟩=some (.bool (s.fl.getD i false)):=by
   have :=h.fll;rw[J,W i (by omega),uI (by omega)];rfl
  have k5:G.frozen? ⟨gf,i/8*8+i%8,none⟩=false:=V _;have hs:=h.store (by omega) i x;have HE:=ar J;have HS:=ar hs;clear a c d e q3 W q4 V J hs;go_wp2;go_ret;refine⟨rfl,?_,((hk.mono).setCell (by simp) _).setCell (by simp) _⟩;rw[HE.out];exact HS.out
 ·rw[kp.store,aA z]
  have h1:(s.refusal i != 0)=true:=by simpa using z
  have H:=ar h;generalize s.refusal i=r at *;clear h z;go_in;go_wp2_with(go_at_call 108;refine U.out.mono ?_;rintro e w' ⟨rfl,rfl⟩);go_ret;exact⟨rfl,H.out,ay.refl _ _⟩
def ky (l:List Int):List Value:=l.map (Value.int .u8)
theorem fq (l:List Int):(ky l).length=l.length:=by simp[ky]
theorem fM.mark{s:kp}(h:fM w b gn gl gf s)(hn:s.now.length≠0)(j:Nat)(x:Bool):
  fM (w.setCell ⟨gf,j,none⟩ (.bool x)) b gn gl gf { s with fl:=s.fl.set j x }:=by
 obtain⟨n9,ll,fll,G,vn,W,U,a,c,d,e⟩:=h;obtain⟨⟨p1,p2,p3⟩,p4,J,V⟩:=G hn;have z:ay [gf] w (w.setCell ⟨gf,j,none⟩ (.bool x)):=(ay.refl _ _).setCell (by simp) _;refine⟨n9,ll,by simpa using fll,G,vn,W,U,a.keep z (by simpa using cV p3),c.keep z (by simpa using J),d.keep z (by simpa using V),?_⟩;simpa[Ce] using e.set j (.bool x)
def zY (fl:List Bool) (q k:Nat):List Bool:=fl.mapIdx λj x=>if q*8<=j/\j<q*8+k then true else x
theorem TG (fl:List Bool)(q:Nat):zY fl q 0=fl:=by
 apply cG;intro j;simp only[zY,fV];cases fl[j]? <;>simp
 omega
theorem TH (fl:List Bool)(q k:Nat):(zY fl q k).set (q*8+k) true=zY fl q (k+1):=by
 apply cG;intro j;simp only[zY,gT,fV,List.length_mapIdx];by_cases z:q*8+k=j
 ·subst z
  by_cases G:q*8+k<fl.length
  ·simp[G]
  ·simp[G]
 ·rw[aA z]
  cases fl[j]? with
  |none=>simp
  |some x=>
   simp only[iB,Option.some.injEq];by_cases h:q*8<=j/\j<q*8+k
   ·rw[aB h,aB ⟨h.1,by omega⟩]
   ·rw[aA h,aA]
def kp.flush (s:kp) (i:Int):kp:=if s.refusal i=0 then { s.count with fl:=zY s.fl (i.toNat/8) 8 } else s
theorem Mq{s:kp}(h:fM w b gn gl gf s)(hf:s.fit)(i:Int):
  Calls prog 106 #[b,i] w λe w'=>e=(s.refusal i:Int)/\fM w' b gn gl gf (s.flush i)/\ay [b,gn,gl,gf] w w':=by
 have V:=ar (zX h i);by_cases z:s.refusal i=0
 ·obtain⟨hg,i0,i1⟩:=kp.refusal_ok z
  rw[kp.flush,aB z];obtain⟨i,rfl⟩:=cz i0;rw[z] at V ⊢;have af:=h.n9;have hc:=ar (Fu h hf hg);clear z h hf;go_in;go_wp2_with fail;refine V.out.mono ?_;rintro e w' ⟨rfl,rfl⟩;go_wp2_with fail;refine hc.out.mono ?_;rintro e w1 ⟨rfl,h,hk⟩;obtain⟨vn,vl,vf,a,c,d,e⟩:=h.at_;have W:s.count.now.length=s.now.length:=rfl;obtain⟨-,⟨cf,rfl,r1,r2⟩,-,-⟩:=e.cell (by omega);have k0:w1.cell? ⟨b,2,none⟩=some (.slice gf ((s.now.length+7)/8) cf):=by rw[a.cell];rfl
  have H:=ar h;have HK:=ar hk;clear a c d e h hk W;go_wp2_with fail
  go_loopw [23] (λc wr=>∃k:Nat,k<=8/\c= .int .i64 (k:Int)/\fM wr b gn gl gf { s.count with fl:=zY s.fl (i/8) k }/\ay [b,gn,gl,gf] w wr) (λc _=>8-(intOf c).toNat)
  case atStart=>exact⟨0,by omega,rfl,by rw[TG];exact H.out,HK.out.mono⟩
  case round=>
   obtain⟨k,rM,rfl,G,J⟩:=hrel;by_cases ac:k<8
   ·have hs:=ar (G.mark (show s.now.length≠0 by omega) (i/8*8+k) true)
    obtain⟨ae,aa,ag,a,c,d,e⟩:=G.at_;have W:({ s.count with fl:=zY s.fl (i/8) k }:kp).now.length=s.now.length:=rfl;obtain⟨-,-,r3,r4⟩:=e.cell (by omega);have k1:wr.cell? ⟨gf,i/8*8+k,none⟩=some (.bool ((zY s.fl (i/8) k).getD (i/8*8+k) false)):=by
     have :=G.fll;rw[r3 _ (by omega),uI (by rw[this];omega)]
    have k2:wr.frozen? ⟨gf,i/8*8+k,none⟩=false:=r4 _;have U:=ar J;clear a c d e r3 r4 G J W k0;generalize (zY s.fl (i/8) k).getD (i/8*8+k) false=y at *;go_wp2
    go_roundw
    case rel=>
     refine⟨k+1,by omega,by go_num,?_,U.out.setCell (by simp) _⟩;rw[<-TH];exact hs.out
    case measure=>simp[intOf];omega
   ·obtain rfl:k=8:=by omega
    have HP:=ar G;have U:=ar J;clear G J;go_wp2;go_ret;exact⟨rfl,HP.out,U.out⟩
 ·rw[kp.flush,aA z]
  have h1:(s.refusal i != 0)=true:=by simpa using z
  have H:=ar h;generalize s.refusal i=r at *;clear h z;go_in;go_wp2_with(go_at_call 108;refine V.out.mono ?_;rintro e w' ⟨rfl,rfl⟩);go_ret;exact⟨rfl,H.out,ay.refl _ _⟩
def mix (c l:List Int) (i:Nat):List Int:=c.take i++l.drop i
theorem Xg (c l:List Int):mix c l 0=l:=by simp[mix]
theorem aa4 (c l:List Int)(i:Nat)(h:c.length<=i)(z:l.length<=i):mix c l i=c:=by simp[mix,aW h,dV z]
theorem aa5 (c l:List Int)(i:Nat)(h:c.length=l.length):(mix c l i).length=l.length:=by
 simp[mix];omega
theorem Xh (c l:List Int)(i:Nat)(h:c.length=l.length)(U:i<l.length):mix c l (i+1)=(mix c l i).set i (c.getD i 0):=by
 apply cG;intro j;simp only[mix,gT,jb,aJ,bU,cj,aC,bV,aj];by_cases z:i=j
 ·subst z
  have G:i<c.length:=by omega
  simp[G];rw[aB,aB]
 ·rw[aA z]
  by_cases J:j<i
  ·rw[aB,aB,aB,aB]
  ·rw[aA,aA]
   congr 1;omega
theorem fM.setLast{s:kp}(h:fM w b gn gl gf s)(hn:s.now.length≠0)(j:Nat)(x:Int):
  fM (w.setCell ⟨gl,j,none⟩ (.int .u64 x)) b gn gl gf { s with last:=s.last.set j x }:=by
 obtain⟨n9,ll,fll,G,vn,vl,J,a,c,d,e⟩:=h;obtain⟨⟨p1,U,p3⟩,V,p5,W⟩:=G hn;have z:ay [gl] w (w.setCell ⟨gl,j,none⟩ (.int .u64 x)):=(ay.refl _ _).setCell (by simp) _;refine⟨n9,by simpa using ll,fll,G,vn,vl,J,a.keep z (by simpa using cV U),c.keep z (by simpa using V),?_,e.keep z (by simpa using cV W)⟩;simpa[mz] using d.set j (.int .u64 x)
theorem fM.drew{s:kp}(h:fM w b gn gl gf s):fM w.drew b gn gl gf s:=
 h.keep ((ay.refl [] w).drew)
theorem PK (w:World):(zeroValue 200).run prog w= .ok (.agg (Array.replicate 8 (.bool false))) w:=by kernel_rfl
theorem rB (n:Nat):(Builtin.zeroCells (Value.agg (Array.replicate 8 (.bool false))).cells n).toList=bools (List.replicate (n*8) false):=by
 apply cG;intro j;simp only[Builtin.zeroCells,Value.cells,bools,jP,Array.size_replicate,Array.toList_map,Array.toList_range,bO,bB];by_cases h:j<n*8
 ·have z:j%8<8:=ij _ (by omega)
  rw[cU h];simp[h,z]
 ·rw[aZ (by simpa using h)]
  simp[h]
theorem Jl (l:List Bool):∀u∈bools l,u.oneCell'=true:=by
 intro u h;simp only[bools,bH] at h;obtain⟨x,-,rfl⟩:=h;rfl
theorem fM.clear{s:kp}(h:fM w b gn gl gf s):
  ∃z w',w.cell? ⟨b,2,none⟩=some z/\(∀ty,(Builtin.clear_ #[110] ty #[z]).run prog w= .ok (.tuple #[]) w')/\
   fM w' b gn gl gf { s with fl:=List.replicate s.fl.length false }/\ay [b,gn,gl,gf] w w':=by
 obtain⟨n9,ll,fll,J,vn,vl,z,a,c,d,e⟩:=h;obtain⟨w',G,W,U⟩:=Fj (P:= prog) (ty:=0) underlying110 PK rfl (by rw[rB];exact Jl _) e;rw[rB,<-fll] at W;refine⟨z,w',by rw[a.cell];rfl,λty=> ?_,⟨n9,ll,by simpa using fll,J,vn,vl,z,?_,?_,?_,?_⟩,U.mono⟩
 ·exact G
 ·by_cases hn:s.now.length=0
  ·obtain⟨V,c1,e1,_,_⟩:=e.val
   have :w'=w:=by
    have hz:(s.now.length+7)/8=0:=by omega
    rw[e1,hz] at G;have h4:(Builtin.clear_ #[110] 0 #[.slice V 0 c1]).run prog w= .ok (.tuple #[]) w:=by
     cases V<;>simp[Builtin.clear_,dD underlying110]
    rw[h4] at G;exact(Result.ok.inj G).2.symm
   rw[this];exact a
  ·exact a.keep U (by simpa using cV (J hn).1.2.2)
 ·exact c.keepIf U λh=>by simpa using (J h).2.2.1
 ·exact d.keepIf U λh=>by simpa using (J h).2.2.2
 ·exact W
end
end Go.Proofs.YtimcfdnbpkiniaaGreatDoor
