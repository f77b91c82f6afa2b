/- Lemmas. -/
import Derived.WalkKit
import Derived.WalkSpells
import Derived.Deep.QuietTactic
import Derived.Lib.Hide
import Derived.ProofKit
import Derived.OpenShut
import Derived.Deep.Slices
import Derived.Laws.BitsAllLaws
import Derived.WalkLawsBesides
import Derived.Laws.AppendOwn
import Derived.Test.YtepbpdipenedhaaGreatDoorRows
import Derived.BigQuiet
set_option maxHeartbeats 400000
namespace Go.Proofs.YtepbpdipenedhaaGreatDoor
open Go.Proofs.Tryz
open Go.RowKit
variable{α:Type}{T b g gf gl gn i j n sz z:Nat}{l l':List Nat}{a w w':World}{c:Array Value}{row:Option Nat}{v:Value}{xs:List Value}{ps:List (Int×Int)}
theorem ag{α:Type _}(l:List α)(i:Nat)(a:α):l.toArray.setIfInBounds i a=(l.set i a).toArray:=List.setIfInBounds_toArray l i a
theorem ah{α:Type _}(x:α)(l:List α)(a:α):(x::l).set 0 a=a::l:=rfl
theorem ai{α:Type _}(x:α)(l:List α)(n:Nat)(a:α):(x::l).set (n+1) a=x::l.set n a:=rfl
theorem aj{α:Type _}{l:List α}{a:α}:l.getD i a=l[i]?.getD a:=List.getD_eq_getElem?_getD
theorem au{p:Prop}(h:p):Hid p:=Lib.hid h
theorem aI:type_of% @Nat.le_refl:=@Nat.le_refl
theorem cD:type_of% @Nat.le_trans:=@Nat.le_trans
theorem bL:type_of% @Nat.lt_of_lt_of_le:=@Nat.lt_of_lt_of_le
theorem jv:type_of% @Go.RowKit.Below.heap_alloc:=@Go.RowKit.Below.heap_alloc
theorem ay.{u}:type_of% @List.mem_singleton.{u}:=@List.mem_singleton.{u}
theorem aO:type_of% @Go.World.cell?_of_block:=@Go.World.cell?_of_block
theorem bO.{u}:type_of% @List.getElem?_take.{u}:=@List.getElem?_take.{u}
theorem aC.{u}:type_of% @if_pos.{u}:=@if_pos.{u}
theorem bg.{u}:type_of% @List.eq_nil_of_length_eq_zero.{u}:=@List.eq_nil_of_length_eq_zero.{u}
theorem dw.{u}:type_of% @Array.getElem?_toList.{u}:=@Array.getElem?_toList.{u}
theorem dQ:type_of% @Go.run_underlying:=@Go.run_underlying
theorem dm.{u}:type_of% @Array.length_toList.{u}:=@Array.length_toList.{u}
theorem dR:type_of% @Nat.add_zero:=@Nat.add_zero
theorem eV.{u}:type_of% @List.take_zero.{u}:=@List.take_zero.{u}
theorem bY.{u}:type_of% @List.nil_append.{u}:=@List.nil_append.{u}
theorem aX:type_of% @Nat.zero_add:=@Nat.zero_add
theorem bN.{u}:type_of% @List.size_toArray.{u}:=@List.size_toArray.{u}
theorem aD.{u}:type_of% @List.length_append.{u}:=@List.length_append.{u}
theorem bE.{u}:type_of% @List.length_drop.{u}:=@List.length_drop.{u}
theorem ck.{u}:type_of% @List.ext_getElem?.{u}:=@List.ext_getElem?.{u}
theorem fg.{u}:type_of% @List.getElem?_set.{u}:=@List.getElem?_set.{u}
theorem iw:type_of% @Nat.mod_lt:=@Nat.mod_lt
theorem bH.{u,v}:type_of% @List.mem_map.{u,v}:=@List.mem_map.{u,v}
theorem ib.{u}:type_of% @List.cons_append.{u}:=@List.cons_append.{u}
theorem bQ.{u}:type_of% @List.length_cons.{u}:=@List.length_cons.{u}
theorem eQ.{u}:type_of% @List.mem_cons_of_mem.{u}:=@List.mem_cons_of_mem.{u}
theorem jG.{u}:type_of% @List.mem_cons_self.{u}:=@List.mem_cons_self.{u}
theorem bJ.{u}:type_of% @List.take_succ_eq_append_getElem.{u}:=@List.take_succ_eq_append_getElem.{u}
theorem aJ.{u}:type_of% @List.length_take.{u}:=@List.length_take.{u}
theorem cC:type_of% @Nat.min_eq_left:=@Nat.min_eq_left
theorem bM.{u}:type_of% @List.mem_of_mem_take.{u}:=@List.mem_of_mem_take.{u}
theorem aU.{u}:type_of% @List.mem_append.{u}:=@List.mem_append.{u}
theorem bG.{u}:type_of% @List.length_replicate.{u}:=@List.length_replicate.{u}
theorem aT.{u}:type_of% @List.getElem?_eq_none.{u}:=@List.getElem?_eq_none.{u}
theorem aQ.{u}:type_of% @List.getElem?_append_right.{u}:=@List.getElem?_append_right.{u}
theorem ba.{u}:type_of% @List.append_assoc.{u}:=@List.append_assoc.{u}
theorem bA.{u}:type_of% @List.getElem_mem.{u}:=@List.getElem_mem.{u}
theorem aB.{u}:type_of% @if_neg.{u}:=@if_neg.{u}
theorem jb.{u}:type_of% @List.set_eq_of_length_le.{u}:=@List.set_eq_of_length_le.{u}
theorem fY.{u}:type_of% @List.all_eq_true.{u}:=@List.all_eq_true.{u}
theorem cX.{u}:type_of% @List.getElem?_cons_succ.{u}:=@List.getElem?_cons_succ.{u}
theorem aP.{u}:type_of% @List.mem_cons.{u}:=@List.mem_cons.{u}
theorem aM.{u}:type_of% @List.not_mem_nil.{u}:=@List.not_mem_nil.{u}
theorem bz:type_of% @or_false:=@or_false
theorem cj.{u}:type_of% @List.getElem_of_mem.{u}:=@List.getElem_of_mem.{u}
theorem bX:type_of% @List.mem_range:=@List.mem_range
theorem cB.{u,v}:type_of% @congrArg.{u,v}:=@congrArg.{u,v}
theorem b8.{u}:type_of% @List.length_nil.{u}:=@List.length_nil.{u}
theorem bF.{u,v}:type_of% @List.getElem?_map.{u,v}:=@List.getElem?_map.{u,v}
theorem cA:type_of% @List.getElem?_range:=@List.getElem?_range
theorem bo.{u}:type_of% @List.getElem?_replicate.{u}:=@List.getElem?_replicate.{u}
theorem dx.{u}:type_of% @List.set_append_right.{u}:=@List.set_append_right.{u}
theorem jH:type_of% @Nat.sub_self:=@Nat.sub_self
theorem cP:type_of% @Go.info_parts:=@Go.info_parts
theorem aH:type_of% @Int.toNat_natCast:=@Int.toNat_natCast
theorem iq:type_of% @Nat.mul_one:=@Nat.mul_one
theorem cu:type_of% @Int.eq_ofNat_of_zero_le:=@Int.eq_ofNat_of_zero_le
theorem dK.{u}:type_of% @Ne.symm.{u}:=@Ne.symm.{u}
theorem fZ.{u,v}:type_of% @List.getElem?_mapIdx.{u,v}:=@List.getElem?_mapIdx.{u,v}
theorem fV.{u,v}:type_of% @Option.map_some.{u,v}:=@Option.map_some.{u,v}
theorem aV.{u}:type_of% @List.take_of_length_le.{u}:=@List.take_of_length_le.{u}
theorem dF.{u}:type_of% @List.drop_of_length_le.{u}:=@List.drop_of_length_le.{u}
theorem iy.{u}:type_of% @List.getElem?_append.{u}:=@List.getElem?_append.{u}
theorem bT.{u}:type_of% @List.getElem?_drop.{u}:=@List.getElem?_drop.{u}
theorem cg:type_of% @Go.Sem.run_bind:=@Go.Sem.run_bind
theorem fO:type_of% @Go.Sem.run_pure:=@Go.Sem.run_pure
theorem cm:type_of% @Go.Result.andThen_ok:=@Go.Result.andThen_ok
theorem aG.{u}:type_of% @List.getElem?_eq_getElem.{u}:=@List.getElem?_eq_getElem.{u}
theorem fC:type_of% @Nat.zero_le:=@Nat.zero_le
theorem dO:type_of% @Go.wpList_append_own:=@Go.wpList_append_own
theorem jM.{u}:type_of% @List.length_singleton.{u}:=@List.length_singleton.{u}
theorem dS:type_of% @List.range_succ:=@List.range_succ
theorem eX.{u,v}:type_of% @List.map_append.{u,v}:=@List.map_append.{u,v}
theorem dD.{u,v}:type_of% @List.map_congr_left.{u,v}:=@List.map_congr_left.{u,v}
theorem ia.{u}:type_of% @List.take_append_of_le_length.{u}:=@List.take_append_of_le_length.{u}
theorem ft.{u}:type_of% @List.filter_append.{u}:=@List.filter_append.{u}
theorem iT.{u}:type_of% @List.filter_cons.{u}:=@List.filter_cons.{u}
theorem bS.{u,v}:type_of% @List.length_map.{u,v}:=@List.length_map.{u,v}
theorem fQ.{u}:type_of% @List.length_filter_le.{u}:=@List.length_filter_le.{u}
theorem aF.{u}:type_of% @List.getElem?_toArray.{u}:=@List.getElem?_toArray.{u}
theorem aY.{u}:type_of% @List.getElem?_append_left.{u}:=@List.getElem?_append_left.{u}
theorem cY:type_of% @Nat.add_sub_cancel_left:=@Nat.add_sub_cancel_left
theorem cT.{u}:type_of% @List.length_set.{u}:=@List.length_set.{u}
theorem eI.{u}:type_of% @List.take_append_drop.{u}:=@List.take_append_drop.{u}
theorem jI:type_of% @Nat.lt_of_le_of_lt:=@Nat.lt_of_le_of_lt
theorem jN:type_of% @Nat.testBit_and:=@Nat.testBit_and
theorem iE.{u}:type_of% @List.filter_congr.{u}:=@List.filter_congr.{u}
theorem dU:type_of% @Nat.and_two_pow_sub_one_eq_mod:=@Nat.and_two_pow_sub_one_eq_mod
theorem eN:type_of% @List.length_range:=@List.length_range
theorem jc:type_of% @Nat.pow_le_pow_right:=@Nat.pow_le_pow_right
theorem bu.{u}:type_of% @List.append_nil.{u}:=@List.append_nil.{u}
theorem gi:type_of% @Go.IntKind.wrap_u64:=@Go.IntKind.wrap_u64
theorem eW:type_of% @Go.IntWalk.i64_in:=@Go.IntWalk.i64_in
theorem iu:type_of% @Go.u64_and_nat:=@Go.u64_and_nat
theorem dg.{u}:type_of% @List.ext_getElem.{u}:=@List.ext_getElem.{u}
theorem ic:type_of% @Nat.add_sub_cancel:=@Nat.add_sub_cancel
theorem fE.{u}:type_of% @List.drop_eq_getElem_cons.{u}:=@List.drop_eq_getElem_cons.{u}
theorem aL:type_of% @Go.bodyPost_ret:=@Go.bodyPost_ret
theorem jo:type_of% @Go.ByteArray.toList_eq:=@Go.ByteArray.toList_eq
theorem cQ.{u}:type_of% @beq_eq_false_iff_ne.{u}:=@beq_eq_false_iff_ne.{u}
theorem jq.{u}:type_of% @List.drop_replicate.{u}:=@List.drop_replicate.{u}
theorem ig.{u,v}:type_of% @List.getElem_map.{u,v}:=@List.getElem_map.{u,v}
theorem jJ:type_of% @List.getElem_range:=@List.getElem_range
theorem aS:type_of% @decide_eq_false:=@decide_eq_false
theorem bq:type_of% @decide_eq_true:=@decide_eq_true
theorem fX.{u}:type_of% @Array.getD_eq_getD_getElem?.{u}:=@Array.getD_eq_getD_getElem?.{u}
theorem jO:type_of% @Go.Oper.semAt_some:=@Go.Oper.semAt_some
theorem gj.{u}:type_of% @Array.replicate_succ.{u}:=@Array.replicate_succ.{u}
theorem gy.{u}:type_of% @Array.replicate_zero.{u}:=@Array.replicate_zero.{u}
theorem iF.{u}:type_of% @List.push_toArray.{u}:=@List.push_toArray.{u}
theorem gM.{u}:type_of% @List.append_toArray.{u}:=@List.append_toArray.{u}
theorem dG:type_of% @Nat.lt_or_ge:=@Nat.lt_or_ge
theorem fD:type_of% @Bool.and_eq_true:=@Bool.and_eq_true
theorem iz.{u}:type_of% @List.getElem_toArray.{u}:=@List.getElem_toArray.{u}
theorem jn:type_of% @Go.wp_region_any:=@Go.wp_region_any
theorem gA.{u}:type_of% @List.take_length.{u}:=@List.take_length.{u}
theorem jh:type_of% @Go.run_sliceAt_slice:=@Go.run_sliceAt_slice
theorem eT:type_of% @Nat.eq_zero_or_pos:=@Nat.eq_zero_or_pos
theorem eD:type_of% @Go.wpAny_ready:=@Go.wpAny_ready
theorem cH:type_of% @Go.AllReady.cons:=@Go.AllReady.cons
theorem dV:type_of% @Go.AllReady.nil:=@Go.AllReady.nil
theorem ij.{u}:type_of% @List.getElem?_take_of_lt.{u}:=@List.getElem?_take_of_lt.{u}
theorem fe.{u,v}:type_of% @List.filterMap_cons.{u,v}:=@List.filterMap_cons.{u,v}
theorem gD.{u}:type_of% @Option.getD_some.{u}:=@Option.getD_some.{u}
theorem cU.{u}:type_of% @List.pairwise_iff_getElem.{u}:=@List.pairwise_iff_getElem.{u}
theorem gY:type_of% @UInt8.lt_iff_toNat_lt:=@UInt8.lt_iff_toNat_lt
theorem jr:type_of% @Int.toNat_of_nonneg:=@Int.toNat_of_nonneg
theorem iA.{u}:type_of% @List.mem_of_mem_drop.{u}:=@List.mem_of_mem_drop.{u}
theorem gK.{u}:type_of% @List.count_append.{u}:=@List.count_append.{u}
theorem bR.{u}:type_of% @List.mem_append_left.{u}:=@List.mem_append_left.{u}
theorem bV.{u}:type_of% @List.mem_append_right.{u}:=@List.mem_append_right.{u}
theorem jd.{u}:type_of% @List.length_dropLast.{u}:=@List.length_dropLast.{u}
theorem br:type_of% @Go.World.size_alloc:=@Go.World.size_alloc
theorem cy:type_of% @Go.IntKind.wrap_i64:=@Go.IntKind.wrap_i64
theorem iI.{u}:type_of% @List.getElem_cons_succ.{u}:=@List.getElem_cons_succ.{u}
theorem iJ.{u}:type_of% @List.getElem_cons_zero.{u}:=@List.getElem_cons_zero.{u}
structure az (l:List Nat) (w w':World):Prop where
 os:w'.os=w.os
 tape:w'.tape=w.tape
 output:w'.output=w.output
 size:w.heap.size<=w'.heap.size
 block:∀k,k<w.heap.size->k∉l->w'.heap[k]? =w.heap[k]?
theorem az.refl(l:List Nat)(w:World):az l w w:=⟨rfl,rfl,rfl,aI _,λ_ _ _=>rfl⟩
theorem az.mono(h:az l w w')(U:∀k,k∈l->k<w.heap.size->k∈l'):az l' w w':=
 ⟨h.os,h.tape,h.output,h.size,λk z G=>h.block k z λJ=>G (U k J z)⟩
theorem az.trans{b c:World}(h:az l a b)(k:az l' b c)(U:∀x,x∈l'->x∈l\/a.heap.size<=x):az l a c:=
 ⟨k.os.trans h.os,k.tape.trans h.tape,k.output.trans h.output,cD h.size k.size,λx z G=>
  (k.block x (bL z h.size) λJ=>(U x J).elim G λV=>by omega).trans (h.block x z G)⟩
theorem az.trans'{b c:World}(h:az l a b)(k:az l b c):az l a c:=h.trans k λ_ z=> .inl z
theorem az.drew(h:az l a w):az l a w.drew:=⟨h.os,h.tape,h.output,h.size,h.block⟩
theorem az.drewN(h:az l a w)(n:Nat):az l a (w.drewN n):=⟨h.os,h.tape,h.output,h.size,h.block⟩
theorem az.alloc(h:az l a w)(o:Obj):az l a (w.alloc o):=
 h.trans (l':=[]) ⟨rfl,rfl,rfl,by simp,λk z _=>jv _ _ _ z⟩ (by simp)
theorem az.setCell(h:az l a w){p:Addr}(J:p.block∈l\/a.heap.size<=p.block)(u:Value):az l a (w.setCell p u):=
 h.trans (l':=[p.block]) ⟨rfl,rfl,rfl,by simp[World.setCell],λk _ G=>Below.heap_setCell _ _ _ _ (by simpa using G)⟩ (by
  intro x z;rw[ay] at z;subst z;exact J)
theorem az.below(h:az l w w'){B:Nat}(U:B<=w.heap.size)(G:∀k,k∈l->B<=k):Below B w w':=
 ⟨h.os,h.tape,h.output,h.size,λk J=>h.block k (by omega) λz=>by have :=G k z;omega⟩
theorem az.of_grown(h:w.grownBy w' row)(z:∀k,row=some k->k∈l\/w.heap.size<=k):az l w w':=
 ⟨h.os,h.tape,h.output,h.size,λk G J=>h.block k G λe=>(z k e.symm).elim J λU=>by omega⟩
def bh (w:World) (b:Nat) (c:Array Value) (T:Nat):Prop:=w.heap[b]? =some (.cells c T (0,0))
theorem bh.lt(h:bh w b c T):b<w.heap.size:=(Array.getElem?_eq_some_iff.1 h).1
theorem bh.keep(h:bh w b c T){l:List Nat}(z:az l w w')(G:b∉l):bh w' b c T:=
 (z.block b h.lt G).trans h
theorem bh.cell(h:bh w b c T)(o:Nat):w.cell? ⟨b,o,none⟩=c[o]? :=by
 unfold bh at h;simp[World.cell?,h]
theorem bh.frozen(h:bh w b c T)(o:Nat):w.frozen? ⟨b,o,none⟩=false:=by
 unfold bh at h;simp[World.frozen?,h]
theorem bh.set(h:bh w b c T)(o:Nat)(v:Value):bh (w.setCell ⟨b,o,none⟩ v) b (c.setIfInBounds o v) T:=by
 unfold bh at *;simp[World.setCell,Array.getElem?_modify,h]
theorem bh.other(h:bh w b c T){a:Addr}(z:b≠a.block)(v:Value):bh (w.setCell a v) b c T:=by
 unfold bh at *;rw[Below.heap_setCell _ _ _ _ z];exact h
theorem bh.alloc(h:bh w b c T)(o:Obj):bh (w.alloc o) b c T:=
 h.keep ((az.refl [] w).alloc o) (by simp)
theorem bh.new(w:World)(c:Array Value)(T:Nat):bh (w.alloc (.cells c T)) w.heap.size c T:=by
 unfold bh;exact heap_alloc_new w _
theorem bh.drew(h:bh w b c T):bh w.drew b c T:=h
theorem bh.drewN(h:bh w b c T)(n:Nat):bh (w.drewN n) b c T:=h
def Reads (w:World) (v:Value) (g:Nat) (xs:List Value):Prop:=
 ∃a cap,v= .slice a xs.length cap/\xs.length<=cap/\cap<=maxLen/\(xs≠[]->g<w.heap.size/\∃off,a=some ⟨g,off,none⟩/\∀j,j<xs.length->w.cell? ⟨g,off+j,none⟩=xs[j]?)
theorem Reads.keep(h:Reads w v g xs){l:List Nat}(G:az l w w')(U:g∉l):Reads w' v g xs:=by
 obtain⟨a,cap,J,h2,h3,h4⟩:=h;refine⟨a,cap,J,h2,h3,λV=> ?_⟩;obtain⟨z,off,h5,h6⟩:=h4 V;refine⟨bL z G.size,off,h5,λj W=> ?_⟩;rw[aO (w:=w) (G.block g z U)];exact h6 j W
def fp (w:World) (v:Value) (g:Nat) (T sz n:Nat) (xs:List Value):Prop:=
 xs.length=n*sz/\∃a cap,v= .slice a n cap/\n<=cap/\cap<=maxLen/\(n≠0->a=some ⟨g,0,none⟩/\∃c:Array Value,bh w g c T/\c.size=cap*sz/\c.toList.take (n*sz)=xs)
theorem fp.keep(h:fp w v g T sz n xs){l:List Nat}(z:az l w w')(J:g∉l):fp w' v g T sz n xs:=by
 obtain⟨W,a,cap,G,h2,h3,h4⟩:=h;refine⟨W,a,cap,G,h2,h3,λU=> ?_⟩;obtain⟨h5,c,h6,V⟩:=h4 U;exact⟨h5,c,h6.keep z J,V⟩
theorem fp.keepIf(h:fp w v g T sz n xs){l:List Nat}(G:az l w w')(U:n≠0->g∉l):fp w' v g T sz n xs:=by
 obtain⟨W,a,cap,J,h2,h3,h4⟩:=h;refine⟨W,a,cap,J,h2,h3,λz=> ?_⟩;obtain⟨h5,c,h6,V⟩:=h4 z;exact⟨h5,c,h6.keep G (U z),V⟩
theorem fp.len(h:fp w v g T sz n xs):xs.length=n*sz:=h.1
theorem tA{c:List α}{m:Nat}{xs:List α}(h:c.take m=xs){j:Nat}(z:j<m):c[j]? =xs[j]? :=by
 rw[<-h,bO,aC z]
theorem fp.reads(h:fp w v g T 1 n xs):Reads w v g xs:=by
 obtain⟨h0,a,cap,G,h2,h3,V⟩:=h;have U:xs.length=n:=by omega
 refine⟨a,cap,by rw[U];exact G,by omega,h3,λJ=> ?_⟩;have :n≠0:=λe=>J (bg (by omega))
 obtain⟨W,c,z,h7,h8⟩:=V this;refine⟨z.lt,0,W,λj hj=> ?_⟩;rw[z.cell,<-dw];simpa using tA h8 (j:=j) (by omega)
theorem fp.set(h:fp w v g T sz n xs)(j:Nat)(u:Value):fp (w.setCell ⟨g,j,none⟩ u) v g T sz n (xs.set j u):=by
 obtain⟨U,a,cap,z,V,h3,W⟩:=h;refine⟨by simpa using U,a,cap,z,V,h3,λG=> ?_⟩;obtain⟨h5,c,h6,J,h8⟩:=W G;refine⟨h5,_,h6.set j u,by simpa using J,?_⟩;rw[Array.toList_setIfInBounds,List.take_set,h8]
theorem fp.drew(h:fp w v g T sz n xs):fp w.drew v g T sz n xs:=h
theorem fp.alloc(h:fp w v g T sz n xs)(o:Obj):fp (w.alloc o) v g T sz n xs:=
 h.keep ((az.refl [] w).alloc o) (by simp)
theorem fp.cell(h:fp w v g T sz n xs)(U:n≠0):g<w.heap.size/\(∃cap,v= .slice (some ⟨g,0,none⟩) n cap/\n<=cap/\cap<=maxLen)/\(∀j,j<n*sz->w.cell? ⟨g,j,none⟩=xs[j]?)/\∀j,w.frozen? ⟨g,j,none⟩=false:=by
 obtain⟨h0,a,cap,G,V,h3,W⟩:=h;obtain⟨h5,c,z,h7,h8⟩:=W U;subst h5;refine⟨z.lt,⟨cap,G,V,h3⟩,λj J=> ?_,λj=>z.frozen j⟩;rw[z.cell,<-dw];exact tA h8 J
theorem fp.val(h:fp w v g T sz n xs):∃a cap,v= .slice a n cap/\n<=cap/\cap<=maxLen:=by
 obtain⟨U,a,cap,z,G,J,V⟩:=h;exact⟨a,cap,z,G,J⟩
theorem fp.nil(w:World)(g T sz:Nat):fp w (.slice none 0 0) g T sz 0 []:=⟨by simp,none,0,rfl,by simp,by simp[maxLen],λh=>absurd rfl h⟩
theorem fp.anyG(h:fp w v g T sz n xs)(J:n=0)(G:Nat):fp w v G T sz n xs:=by
 obtain⟨U,a,cap,z,V,W,h4⟩:=h;exact⟨U,a,cap,z,V,W,λh=>absurd J h⟩
theorem fp.of_row(h:w.ownsRow z T sz v n xs):∃g,fp w v g T sz n xs/\(n≠0->z<=g/\v.ownBlock=some g):=by
 obtain⟨V,J⟩:=h;rcases J with ⟨rfl,rfl⟩|⟨g,cap,G,rfl,U,hh,W,h3,h4,h5⟩
 ·obtain rfl:xs=[]:=bg (by omega)
  exact⟨0,fp.nil w 0 T sz,λh=>absurd rfl h⟩
 ·exact⟨g,⟨V,_,cap,rfl,W,h3,λ_=>⟨rfl,G,hh,h4,h5⟩⟩,λ_=>⟨U,rfl⟩⟩
theorem az.setRow(h:az l a w){g:Nat}(J:g∈l\/a.heap.size<=g)(c:Array Value):az l a (w.setRow g c):=
 h.trans (l':=[g]) ⟨rfl,rfl,rfl,by simp[World.setRow],λk _ G=>setRow_other w g k _ (by simpa using G)⟩ (by
  intro x z;rw[ay] at z;subst z;exact J)
theorem nA (z:Array Value)(n:Nat):(Builtin.zeroCells z n).size=n*z.size:=by simp[Builtin.zeroCells]
theorem Eo{P:Program}{t e ty:Nat}{z:Value}(ht:P.underlying t=some (.slice e))(hz:∀w,(zeroValue e).run P w= .ok z w)
  (V:z.cells.size=sz) (h1:∀u∈(Builtin.zeroCells z.cells n).toList,u.oneCell'=true) (h:fp w v g T sz n xs):
  ∃w',(Builtin.clear_ #[t] ty #[v]).run P w= .ok (.tuple #[]) w'/\fp w' v g T sz n (Builtin.zeroCells z.cells n).toList/\az [g] w w':=by
 obtain⟨h0,a,cap,rfl,W,h3,h4⟩:=h;by_cases U:n=0
 ·subst U
  refine⟨w,?_,⟨by simp[nA],a,cap,rfl,W,h3,λh=>absurd rfl h⟩,az.refl _ _⟩;cases a<;>simp[Builtin.clear_,dQ ht]
 ·obtain⟨rfl,c,hc,hs,hk⟩:=h4 U
  have G:(Builtin.zeroCells z.cells n).toList.length=n*sz:=by rw[dm,nA,V]
  have aa:n*sz<=c.size:=by rw[hs];exact Nat.mul_le_mul_right _ W
  have J:=run_storeCells_at P g 0 T (Builtin.zeroCells z.cells n).toList 0 c w hc (by rw[G];omega) h1;simp only[dR,eV,bY,aX] at J;generalize hC:((Builtin.zeroCells z.cells n).toList++List.drop (Builtin.zeroCells z.cells n).toList.length c.toList).toArray=C at J;refine⟨w.setRow g C,?_,⟨G,_,cap,rfl,W,h3,λ_=>⟨rfl,C,setRow_heap w g c _ T _ hc,?_,?_⟩⟩,(az.refl _ _).setRow (by simp) _⟩
  ·cases n with
   |zero=>exact absurd rfl U
   |succ n=>simp[Builtin.clear_,dQ ht,hz,J]
  ·rw[<-hC,bN,aD,bE,G,dm];omega
  ·rw[<-G,<-hC];exact List.take_left
theorem GI (l:List α)(i:Nat)(d:α):l.set i (l.getD i d)=l:=by
 apply ck;intro j;rw[fg];split
 ·rename_i hj
  subst hj;split
  ·rename_i hi;simp[hi]
  ·rename_i hi;simp at hi;simp[hi]
 ·rfl
end Go.Proofs.YtepbpdipenedhaaGreatDoor
namespace Go.Proofs.YtepbpdipenedhaaGreatDoor
open Go.Proofs.Tryz
open Go.ChangeShapes Go.WideShapes Go.ChangeAt Go.RowKit
variable{α:Type}{T b g gf gl gn i j n sz z:Nat}{l l':List Nat}{a w w':World}{c:Array Value}{row:Option Nat}{v:Value}{xs:List Value}{ps:List (Int×Int)}
section
variable {H:Type} {enc:TypeId×Value->H} {P:Program} {W:World} {base:Nat} {spare:Nat->Bool} {held:Bool}
theorem Ep {a:Addr}{n:Nat}{v:Value}(h:W.cell? (a.add n)=some v)(G:n=0):∃g off,a=⟨g,off,none⟩:=by
 subst G;have :a.add 0=a:=by simp[Addr.add]
 rw[this] at h;obtain⟨g,off,z⟩:=a;have :=World.cell?_spot h;simp at this;subst this;exact⟨g,off,rfl⟩
theorem add_plain(g off n:Nat):(⟨g,off,none⟩:Addr).add n=⟨g,off+n,none⟩:=by unfold Addr.add;split<;>simp_all
theorem za {a:Addr}{v:Value}(h:W.cell? a=some v):a.block<W.heap.size:=World.block_lt_of_cell? W a h
theorem H5 {t e:TypeId}{fuel sz:Nat}{cs:List Value}{x:DataW H×List MemPlace}(ht:P.underlying t=some (.slice e))(hc:P.cellsOf e=sz)(V:0<sz)
  (h:DataW.trod enc P W base spare held fuel t cs=some x):
  ∃a len cap,cs=[.slice a len cap]/\len<=cap/\cap<=maxLen/\(len≠0->∃g off,a=some ⟨g,off,none⟩/\g<W.heap.size/\
   ∀i,i<len->∃(z:List Value) (y:DataW H×List MemPlace) (n:Nat),z.length=sz/\(∀c,c<sz->W.cell? ⟨g,off+(i*sz+c),none⟩=z[c]?)/\DataW.trod enc P W base spare held n e z=some y):=by
 rcases Deep.open_slice ht h with ⟨rfl,-⟩|⟨a,len,cap,m,n,D,Pl,rfl,-,hl,hm,ae,-,hx⟩
 ·exact⟨none,0,0,rfl,by simp,by simp[maxLen],λh=>absurd rfl h⟩
 ·have ah:len<=m:=by rw[ae];split<;>omega
  refine⟨some a,len,cap,rfl,hl,hm,λh0=> ?_⟩;rw[hc] at hx;obtain⟨aa,h1,-⟩:=hx 0 (by omega);obtain⟨-,ag,J⟩:=World.cells?_some h1;have G:=J 0 V;have e0:(a.add (0*sz))=a:=by simp[Addr.add]
  rw[e0] at G;cases hv:aa[0]? with
  |none=>rw[List.getElem?_eq_none_iff] at hv;omega
  |some v=>
   rw[hv] at G;obtain⟨g,off,rfl⟩:=Ep G rfl;refine⟨g,off,rfl,by simpa[add_plain] using za G,λi hi=> ?_⟩;obtain⟨z,h2,h3⟩:=hx i (by omega);obtain⟨-,U,ac⟩:=World.cells?_some h2;refine⟨z,_,n,U,λc af=> ?_,h3⟩;have :=ac c af;rw[add_plain,add_plain] at this;rw[<-this,Nat.add_assoc]
end
end Go.Proofs.YtepbpdipenedhaaGreatDoor
namespace Go.Proofs.YtepbpdipenedhaaGreatDoor
open Go.Proofs.Tryz
variable{α:Type}{T b g gf gl gn i j n sz z:Nat}{l l':List Nat}{a w w':World}{c:Array Value}{row:Option Nat}{v:Value}{xs:List Value}{ps:List (Int×Int)}
def qR (W k:Nat):Nat:=W/256^k%256
def kS (W:Nat):List Nat:=(List.range 8).map (qR W)
def lh:List Nat->Nat
 | []=>0
 |c::l=>c+256*lh l
theorem Br (W k:Nat):qR W k<256:=iw _ (by decide)
theorem lj (W:Nat):(kS W).length=8:=by simp[kS]
theorem tB (W k:Nat)(h:k<8):(kS W).getD k 0=qR W k:=by simp[kS,h]
theorem QF (W:Nat):∀c∈kS W,c<256:=by
 intro c h;simp only[kS,bH] at h;obtain⟨k,-,rfl⟩:=h;exact Br W k
theorem uO (l m:List Nat):lh (l++m)=lh l+256^l.length*lh m:=by
 induction l with
 |nil=>simp[lh]
 |cons c l ih=>rw[ib,lh,ih,lh,bQ,Nat.pow_succ',Nat.mul_add,Nat.mul_assoc,Nat.add_assoc]
theorem H9 (c:Nat):lh [c]=c:=by simp[lh]
theorem K5 (n:Nat):lh (List.replicate n 0)=0:=by
 induction n with
 |zero=>rfl
 |succ n ih=>simp[List.replicate_succ,lh,ih]
theorem Er (h:∀c∈l,c<256):lh l<256^l.length:=by
 induction l with
 |nil=>simp[lh]
 |cons c l ih=>
  have G:=ih λx z=>h x (eQ _ z)
  have J:=h c jG;rw[lh,bQ,Nat.pow_succ'];omega
theorem Ia (h:∀c∈l,c<256):∀k,qR (lh l) k=l.getD k 0:=by
 induction l with
 |nil=>intro k;simp[lh,qR]
 |cons c l ih=>
  have G:=h c jG;intro k;cases k with
  |zero=>simp[lh,qR];omega
  |succ k=>
   have :=ih (λx z=>h x (eQ _ z)) k;rw[List.getD_cons_succ,<-this];unfold qR;rw[lh,Nat.pow_succ',<-Nat.div_div_eq_div_mul]
   congr 2
   omega
theorem Du (l:List Nat)(k:Nat)(h:k<l.length):lh (l.take (k+1))=lh (l.take k)+l.getD k 0*256^k:=by
 rw[bJ h,uO,H9,aJ,cC (by omega),Nat.mul_comm];simp[h]
theorem QG (h:∀c∈l,c<256)(k:Nat):∀c∈l.take k,c<256:=λc z=>h c (bM z)
def mW (c:Nat):Bool:=decide (33<=c)&&(decide (c<=126)&&(c != 47))
def iC (l:List Nat):Bool:=decide (1<=l.length)&&decide (l.length<=7)&&(l != [46])&&(l != [46,46])&&l.all mW
def qK (l:List Nat):Nat:=lh l+72057594037927936*l.length
def zX (l:List Nat):List Nat:=l++List.replicate (7-l.length) 0++[l.length]
theorem nN (h:iC l=true):1<=l.length/\l.length<=7:=by simp[iC] at h;omega
theorem wR (h:l.length<=7):(zX l).length=8:=by simp[zX];omega
theorem Jv (G:l.length<=7)(h:∀c∈l,c<256):∀c∈zX l,c<256:=by
 intro c z;simp only[zX,aU,List.mem_replicate,ay] at z;rcases z with(z|⟨-,rfl⟩)|rfl
 ·exact h c z
 ·omega
 ·omega
theorem zb (h:l.length<=7):lh (zX l)=qK l:=by
 rw[zX,uO,uO,K5,H9,aD,bG,show l.length+(7-l.length)=7 by omega,qK];rfl
theorem VI (z:l.length<=7)(h:∀c∈l,c<256):qK l<18446744073709551616:=by
 have :=Er (Jv z h);rw[zb z,wR z] at this;simpa using this
theorem Og (z:l.length<=7)(h:∀c∈l,c<256):kS (qK l)=zX l:=by
 have U:=Jv z h;apply ck;intro k;by_cases G:k<8
 ·have J:(zX l)[k]? =some ((zX l).getD k 0):=by simp[wR z,G]
  rw[J,<-Ia U,zb z];simp[kS,G]
 ·rw[aT (by rw[lj];omega),aT (by rw[wR z];omega)]
def kf (W:Nat):Option (List Nat):=if qR W 7<=7/\iC ((kS W).take (qR W 7))=true/\qK ((kS W).take (qR W 7))=W then some ((kS W).take (qR W 7)) else none
theorem nO (z:iC l=true)(h:∀c∈l,c<256):kf (qK l)=some l:=by
 obtain⟨W,G⟩:=nN z;have J:=Og G h;have V:qR (qK l) 7=l.length:=by
  rw[<-tB _ 7 (by omega),J,zX,aj,aQ (by simp;omega)];simp[show 7-(l.length+(7-l.length))=0 by omega]
 have U:(kS (qK l)).take l.length=l:=by
  rw[J,zX,ba,List.take_left]
 unfold kf;rw[V,U,aC ⟨G,z,rfl⟩]
def fnv (h c:Nat):Nat:=(h ^^^ c)*16777619%4294967296
def R6 (h W:Nat):Nat:=(kS W).foldl fnv h
def K6 (l:List Nat):Nat:=l.foldl R6 2166136261
theorem acq (h c:Nat):fnv h c<4294967296:=iw _ (by decide)
theorem zY (l:List Nat):∀h,h<4294967296->l.foldl fnv h<4294967296:=by
 induction l with
 |nil=>intro h z;exact z
 |cons c l ih=>intro h _;exact ih _ (acq h c)
theorem ZK (h W:Nat)(z:h<4294967296):R6 h W<4294967296:=zY _ _ z
theorem yH (l:List Nat):∀h,h<4294967296->l.foldl R6 h<4294967296:=by
 induction l with
 |nil=>intro h z;exact z
 |cons c l ih=>intro h z;exact ih _ (ZK h c z)
theorem Jw (l:List Nat):K6 l<4294967296:=yH l _ (by decide)
def jS (ps:List (Int×Int)) (j:Nat):Int:=(ps.getD j (0,0)).1
def qD (ps:List (Int×Int)) (j:Nat):Int:=(ps.getD j (0,0)).2
theorem rB (ps:List (Int×Int))(k:Nat)(h:k<ps.length):ps.take (k+1)=ps.take k++[(jS ps k,qD ps k)]:=by
 have e:(jS ps k,qD ps k)=ps[k]:=by simp[jS,qD,h]
 rw[e];exact bJ h
theorem Es (ps:List (Int×Int))(k:Nat)(h:k<ps.length):(jS ps k,qD ps k)∈ps:=by
 have :(jS ps k,qD ps k)=ps[k]:=by simp[jS,qD,h]
 rw[this];exact bA h
def aA (xs:List Int) (ps:List (Int×Int)):List Int:=ps.foldl (λa p=>a.set p.1.toNat p.2) xs
theorem ze (xs:List Int):aA xs []=xs:=rfl
theorem bD (xs:List Int)(ps qs:List (Int×Int)):aA xs (ps++qs)=aA (aA xs ps) qs:=by simp[aA,List.foldl_append]
theorem nC (xs:List Int)(a x:Int):aA xs [(a,x)]=xs.set a.toNat x:=rfl
theorem b7 (ps:List (Int×Int)):∀xs,(aA xs ps).length=xs.length:=by
 induction ps with
 |nil=>intro xs;rfl
 |cons p ps ih=>intro xs;show(aA (xs.set p.1.toNat p.2) ps).length=_;rw[ih];simp
theorem Bt (xs:List Int)(ps:List (Int×Int))(k:Nat)(h:k<ps.length):aA xs (ps.take (k+1))=(aA xs (ps.take k)).set (jS ps k).toNat (qD ps k):=by
 rw[rB ps k h,bD];rfl
theorem getD_set_ne{l:List Int}(x:Int)(h:i≠j):(l.set i x).getD j 0=l.getD j 0:=by
 simp[List.getElem?_set_ne h]
theorem K7{l:List Int}(x:Int)(h:i<l.length):(l.set i x).getD i 0=x:=by
 simp[h]
theorem zZ{l:List Int}(x:Int):(l.set i x).getD j 0=if i=j/\j<l.length then x else l.getD j 0:=by
 by_cases h:i=j
 ·subst h
  by_cases z:i<l.length
  ·rw[K7 x z,aC ⟨rfl,z⟩]
  ·rw[aB (by omega),jb (by omega)]
 ·rw[getD_set_ne x h,aB (by omega)]
theorem ey (ps:List (Int×Int))(i:Nat):∀xs,(∀p∈ps,p.1.toNat≠i)->(aA xs ps).getD i 0=xs.getD i 0:=by
 induction ps with
 |nil=>intro xs _;rfl
 |cons p ps ih=>
  intro xs h;show(aA (xs.set p.1.toNat p.2) ps).getD i 0=_;rw[ih _ λq z=>h q (eQ _ z),getD_set_ne _ (h p jG)]
def rC (a:Int):Bool:=decide (0<=a)&&decide (a<3128)&&(decide (a<8)||decide (816<=a))
theorem mr{a:Int}:rC a=true↔0<=a/\a<3128/\(a<8\/816<=a):=by
 simp[rC,and_assoc]
def Aa (ps:List (Int×Int)):Bool:=ps.all λp=>rC p.1
theorem R7 (h:Aa ps=true){p:Int×Int}(z:p∈ps):0<=p.1/\p.1<3128/\(p.1<8\/816<=p.1):=mr.1 (fY.1 h _ z)
def fq (ps:List (Int×Int)):List Int:=ps.flatMap λp=>[p.1%18446744073709551616,p.2]
theorem mz (ps:List (Int×Int)):(fq ps).length=2*ps.length:=by
 induction ps with
 |nil=>rfl
 |cons p ps ih=>simp[fq] at ih ⊢;omega
theorem GJ (ps qs:List (Int×Int)):fq (ps++qs)=fq ps++fq qs:=by simp[fq]
theorem Bu (ps:List (Int×Int))(k:Nat)(h:k<ps.length):fq (ps.take (k+1))=fq (ps.take k)++[jS ps k%18446744073709551616,qD ps k]:=by
 rw[rB ps k h,GJ];rfl
theorem Oh (ps:List (Int×Int)):∀k,k<ps.length->(fq ps).getD (2*k) 0=jS ps k%18446744073709551616/\(fq ps).getD (2*k+1) 0=qD ps k:=by
 induction ps with
 |nil=>intro k h;simp at h
 |cons p ps ih=>
  intro k h;have z:fq (p::ps)=p.1%18446744073709551616::p.2::fq ps:=rfl;cases k with
  |zero=>rw[z];exact⟨rfl,rfl⟩
  |succ k=>
   have :=ih k (by simpa using h);rw[z];simp only[jS,qD,aj,show 2*(k+1)=2*k+1+1 by omega,cX] at this ⊢;exact this
def okP (ps:List (Int×Int)):Prop:=∀p∈ps,(-9223372036854775808<=p.1/\p.1<=9223372036854775807)/\0<=p.2/\p.2<=18446744073709551615
theorem QH (h:okP ps){k:Nat}(z:k<ps.length):(-9223372036854775808<=jS ps k/\jS ps k<=9223372036854775807)/\0<=qD ps k/\qD ps k<=18446744073709551615:=h _ (Es ps k z)
def Et (xs:List Int):Prop:=∀x∈xs,0<=x/\x<=18446744073709551615
theorem Eu (h:okP ps):Et (fq ps):=by
 intro x z;simp only[fq,List.mem_flatMap,aP,aM,bz] at z;obtain⟨p,G,z⟩:=z;have :=h p G;omega
theorem Ev{xs:List Int}(h:Et xs)(k:Nat):0<=xs.getD k 0/\xs.getD k 0<=18446744073709551615:=by
 rw[aj];cases hk:xs[k]? with
 |none=>simp
 |some x=>exact h x (List.mem_of_getElem? hk)
def lK (ws:List Int) (m:Nat):Bool:=(List.range m).all λk=>rC (ws.getD (2*k) 0)
theorem Ew (h:okP ps):lK (fq ps) ps.length=Aa ps:=by
 have J:∀k,k<ps.length->rC ((fq ps).getD (2*k) 0)=rC (jS ps k):=by
  intro k z;rw[(Oh ps k z).1,Bool.eq_iff_iff,mr,mr];have :=QH h z;omega
 rw[Bool.eq_iff_iff];unfold lK Aa;rw[fY,fY];constructor
 ·intro G p U
  obtain⟨k,z,rfl⟩:=cj U;have :=G k (by simpa using z);rw[J k z] at this;simpa[jS,aj,z] using this
 ·intro G k z
  rw[bX] at z;rw[J k z];exact G _ (Es ps k z)
def mn (ws:List Int):List (Int×Int):=ws.mapIdx λk w=>((9+k:Int),w)
theorem nj (ws:List Int):(mn ws).length=ws.length:=by simp[mn]
theorem K8{ws:List Int}{p:Int×Int}(h:p∈mn ws):9<=p.1/\p.1<9+ws.length:=by
 obtain⟨k,z,rfl⟩:=cj h;have G:k<ws.length:=by simpa[mn] using z
 simp[mn];omega
def qL (ws:List Int):Int:=(ws.length/2:Nat)*4294967296+(K6 (ws.map Int.toNat):Nat)
def mg (f:List Int):Nat->Nat
 |0=>0
 |k+1=>mg f k+if f.getD k 0∈f.take k then 0 else 1
def iP (ps:List (Int×Int)):List Int:=ps.map λp=>p.1/8
def zf (ps:List (Int×Int)):Nat:=mg (iP ps) ps.length
theorem K9 (ps:List (Int×Int))(k:Nat)(h:k<ps.length):(iP ps).getD k 0=jS ps k/8:=by
 simp[iP,jS,h]
theorem uP (ps:List (Int×Int))(k:Nat):(iP ps).take k=iP (ps.take k):=by simp[iP,List.map_take]
theorem Jy (ps:List (Int×Int))(k:Nat)(h:k<ps.length):(iP ps).take (k+1)=(iP ps).take k++[jS ps k/8]:=by
 rw[uP,uP,rB ps k h];simp[iP]
theorem uQ (f:List Int):∀k,mg f k<=k
 |0=>aI _
 |k+1=>by
  have :=uQ f k;unfold mg;split<;>omega
def mh (ps:List (Int×Int)):Nat:=ps.length+zf ps+1
def Bv (ps:List (Int×Int)):Nat:=if ps=[] then 0 else mh (mn (fq ps))+3+mh ps+3
theorem uR (ps:List (Int×Int)):mh ps<=2*ps.length+1:=by
 have :=uQ (iP ps) ps.length;unfold mh zf;omega
theorem La (a x:Int):mh [(a,x)]=3:=by simp[mh,zf,mg]
theorem R9 (ps:List (Int×Int)):Bv ps<=6*ps.length+8:=by
 have z:=uR ps;have h:=uR (mn (fq ps));rw[nj,mz] at h;unfold Bv;split<;>omega
def VJ (xs:List Int) (ps:List (Int×Int)):List Int:=aA (aA xs ps) [(8,0)]
def mM (xs:List Int) (ps:List (Int×Int)):List Int:=if ps=[] then xs else VJ (aA (aA xs (mn (fq ps))) [(8,qL (fq ps))]) ps
end Go.Proofs.YtepbpdipenedhaaGreatDoor
namespace Go.Proofs.YtepbpdipenedhaaGreatDoor
open Go.Proofs.Tryz
open Go.RowKit
variable{α:Type}{T b g gf gl gn i j n sz z:Nat}{l l':List Nat}{a w w':World}{c:Array Value}{row:Option Nat}{v:Value}{xs:List Value}{ps:List (Int×Int)}
def aW (l:List Int):List Value:=l.map (Value.int .u64)
def bools (l:List Bool):List Value:=l.map Value.bool
theorem dA{l:List Int}(h:j<l.length):(aW l)[j]? =some (.int .u64 (l.getD j 0)):=by simp[aW,h]
theorem tC{l:List Bool}(h:j<l.length):(bools l)[j]? =some (.bool (l.getD j false)):=by simp[bools,h]
theorem lT (l:List Int)(j:Nat)(x:Int):(aW l).set j (.int .u64 x)=aW (l.set j x):=by simp[aW,List.map_set]
theorem Bw (l:List Bool)(j:Nat)(x:Bool):(bools l).set j (.bool x)=bools (l.set j x):=by simp[bools,List.map_set]
theorem bp (l:List Int):(aW l).length=l.length:=by simp[aW]
theorem pj (l:List Bool):(bools l).length=l.length:=by simp[bools]
theorem fh (l:List Int):∀u∈aW l,u.oneCell'=true:=by
 intro u h;simp only[aW,bH] at h;obtain⟨x,-,rfl⟩:=h;rfl
theorem Ib (n:Nat):List.replicate n (Value.int .u64 0)=aW (List.replicate n 0):=by simp[aW]
theorem nP (xs h:List Int):aW (xs++h)=aW xs++aW h:=by simp[aW]
theorem iB{xs:List Int}(h:Reads w v g (aW xs)):∃a cap,v= .slice a xs.length cap/\xs.length<=cap/\cap<=maxLen/\
  Hid (∀k,k<xs.length->g<w.heap.size/\∃off,a=some ⟨g,off,none⟩/\w.cell? ⟨g,off+k,none⟩=some (.int .u64 (xs.getD k 0))):=by
 obtain⟨a,cap,U,G,V,h3⟩:=h;rw[bp] at *;refine⟨a,cap,U,G,V,λk z=> ?_⟩;obtain⟨J,off,W,hc⟩:=h3 (by intro e;have :=cB List.length e;rw[bp,b8] at this;omega);exact⟨J,off,W,(hc k z).trans (dA z)⟩
theorem Reads.anyG(h:Reads w v g xs)(J:xs=[])(G:Nat):Reads w v G xs:=by
 obtain⟨a,cap,z,U,V,W⟩:=h;exact⟨a,cap,z,U,V,λh=>absurd J h⟩
def mX (w:World) (v:Value) (g:Nat) (ps:List (Int×Int)):Prop:=
 ∃a cap,v= .slice a ps.length cap/\ps.length<=cap/\cap<=maxLen/\(ps.length≠0->g<w.heap.size/\∃off,a=some ⟨g,off,none⟩/\
  ∀j,j<ps.length->w.cell? ⟨g,off+j*2,none⟩=some (.int .i64 (jS ps j))/\w.cell? ⟨g,off+j*2+1,none⟩=some (.int .u64 (qD ps j)))
theorem mX.keep(h:mX w v g ps){l:List Nat}(G:az l w w')(hg:ps.length≠0->g∉l):mX w' v g ps:=by
 obtain⟨a,cap,h1,h2,h3,h4⟩:=h;refine⟨a,cap,h1,h2,h3,λJ=> ?_⟩;obtain⟨z,off,h5,W⟩:=h4 J;refine⟨bL z G.size,off,h5,λj U=> ?_⟩;have V:=G.block g z (hg J);exact⟨(aO (w:=w) (w':=w') (a:=⟨g,off+j*2,none⟩) V).trans (W j U).1,(aO (w:=w) (w':=w') (a:=⟨g,off+j*2+1,none⟩) V).trans (W j U).2⟩
theorem mX.val(h:mX w v g ps):∃a cap,v= .slice a ps.length cap/\ps.length<=cap/\cap<=maxLen:=by
 obtain⟨a,cap,z,G,J,U⟩:=h;exact⟨a,cap,z,G,J⟩
theorem mX.get{a:Option Addr}{cap:Nat}(h:mX w (.slice a n cap) g ps){j:Nat}(U:j<ps.length):
  g<w.heap.size/\∃off,a=some ⟨g,off,none⟩/\w.cell? ⟨g,off+j*2,none⟩=some (.int .i64 (jS ps j))/\w.cell? ⟨g,off+j*2+1,none⟩=some (.int .u64 (qD ps j)):=by
 obtain⟨a',z,G,h2,h3,V⟩:=h;cases G;obtain⟨W,off,h6,J⟩:=V (by omega);exact⟨W,off,h6,J j U⟩
def je (ps:List (Int×Int)):List Value:=ps.flatMap λp=>[.int .i64 p.1,.int .u64 p.2]
theorem rD (ps:List (Int×Int)):(je ps).length=ps.length*2:=by
 induction ps with
 |nil=>rfl
 |cons p ps ih=>simp[je] at ih ⊢;omega
theorem sU (ps qs:List (Int×Int)):je (ps++qs)=je ps++je qs:=by simp[je]
theorem pk (ps:List (Int×Int)):∀k,k<ps.length->(je ps)[k*2]? =some (.int .i64 (jS ps k))/\(je ps)[k*2+1]? =some (.int .u64 (qD ps k)):=by
 induction ps with
 |nil=>intro k h;simp at h
 |cons p ps ih=>
  intro k h;have z:je (p::ps)= .int .i64 p.1:: .int .u64 p.2::je ps:=rfl;cases k with
  |zero=>rw[z];exact⟨rfl,rfl⟩
  |succ k=>
   have :=ih k (by simpa using h);rw[z,show(k+1)*2=k*2+1+1 by omega];simp only[cX];exact this
theorem fp.preads(h:fp w v g T 2 ps.length (je ps)):mX w v g ps:=by
 obtain⟨a,cap,G,V,h2⟩:=h.val;refine⟨a,cap,G,V,h2,λh0=> ?_⟩;obtain⟨W,⟨U,z,-,-⟩,J,-⟩:=h.cell h0;rw[G] at z;cases z;refine⟨W,0,rfl,λj hj=> ?_⟩;rw[aX,J (j*2) (by omega),J (j*2+1) (by omega)];exact pk ps j hj
def jw (w:World) (ws:List Int) (e:Ending) (w':World):Prop:=
 ∃v g,e= .returned v/\Reads w' v g (aW ws)/\w.heap.size<=g/\az [] w w'
theorem jP (w:World)(cs:List Value)(T m:Nat)(z:m=w.heap.size):∀j u,cs[j]? =some u->(w.alloc (.cells cs.toArray T)).cell? ((⟨m,0,none⟩:Addr).add j)=some u:=by
 intro j u h;subst z;rw[add_plain,(bh.new w cs.toArray T).cell,aX];simpa using h
def l6 (w:World) (ps:List (Int×Int)) (e:Ending) (w':World):Prop:=
 ∃v g,e= .returned v/\mX w' v g ps/\w.heap.size<=g/\az [] w w'
theorem CK (n:Nat):(madeCells #[Value.int .i64 0,Value.int .u64 0] (n*2)).toList=je (List.replicate n (0,0)):=by
 apply ck;intro j;simp only[madeCells,Array.toList_map,Array.toList_range,bF];by_cases G:j<n*2
 ·rw[cA G]
  have z:=pk (List.replicate n ((0:Int),(0:Int))) (j/2) (by simp;omega);have J:jS (List.replicate n ((0:Int),(0:Int))) (j/2)=0:=by
   simp[jS,bo];split<;>rfl
  have U:qD (List.replicate n ((0:Int),(0:Int))) (j/2)=0:=by
   simp[qD,bo];split<;>rfl
  rw[J,U] at z;rcases (show j%2=0\/j%2=1 by omega) with h|h
  ·rw[show j/2*2=j by omega] at z
   rw[z.1];simp[h]
  ·rw[show j/2*2+1=j by omega] at z
   rw[z.2];simp[h]
 ·rw[aT (by simpa using G),aT (by rw[rD,bG];omega)];rfl
theorem Oi (l:List (Int×Int))(a x:Int):∀k,((je l).set (k*2) (.int .i64 a)).set (k*2+1) (.int .u64 x)=je (l.set k (a,x)):=by
 induction l with
 |nil=>intro k;rfl
 |cons p l ih=>
  intro k;have h:∀(p:Int×Int) l,je (p::l)= .int .i64 p.1:: .int .u64 p.2::je l:=λ_ _=>rfl
  cases k with
  |zero=>rfl
  |succ k=>rw[h,ai,h,<-ih k,show(k+1)*2=k*2+1+1 by omega];rfl
def dW {α:Type} (z:α) (l:List α) (k:Nat):List α:=l.take k++List.replicate (l.length-k) z
theorem kN (z:α)(l:List α):dW z l 0=List.replicate l.length z:=by simp[dW]
theorem lL (z:α)(l:List α):dW z l l.length=l:=by simp[dW]
theorem kT (z:α)(l:List α)(k:Nat)(h:k<=l.length):(dW z l k).length=l.length:=by simp[dW];omega
theorem kO (z:α)(l:List α)(k:Nat)(h:k<l.length)(x:α)(G:l[k]=x):(dW z l k).set k x=dW z l (k+1):=by
 subst G;unfold dW;rw[bJ h,show l.length-k=(l.length-(k+1))+1 by omega,List.replicate_succ,ba];rw[dx _ _ (by simp;omega)]
 congr 1
 rw[aJ,cC (by omega),jH];rfl
theorem fp.pair{l:List (Int×Int)}(h:fp w v g T 2 n (je l))(k:Nat)(a x:Int):
  fp ((w.setCell ⟨g,k*2,none⟩ (.int .i64 a)).setCell ⟨g,k*2+1,none⟩ (.int .u64 x)) v g T 2 n (je (l.set k (a,x))):=by
 have :=(h.set (k*2) (.int .i64 a)).set (k*2+1) (.int .u64 x);rw[Oi] at this;exact this
theorem l6.mk(h:fp w' v g T 2 n (je ps))(G:n=ps.length)(J:w.heap.size<=g)(z:az [] w w'):l6 w ps (.returned v) w':=by
 subst G;exact⟨v,g,rfl,h.preads,J,z⟩
def N3 (ps:List (Int×Int)) (n:Nat):Prop:=∀p∈ps,0<=p.1/\p.1<n
theorem Ab (h:N3 ps n){k:Nat}(z:k<ps.length):0<=jS ps k/\jS ps k<n:=h _ (Es ps k z)
theorem cZ (h:w.ownsRow z T sz v n xs):∀k,v.ownBlock=some k->z<=k:=by
 obtain⟨W,J⟩:=h;intro k G;rcases J with ⟨rfl,rfl⟩|⟨g,cap,V,rfl,U,hh,h2,h3,h4,h5⟩
 ·cases G
 ·cases G;exact U
theorem az.grown{wr J:World}(h:az [] w wr)(G:wr.grownBy J row)(U:∀k,row=some k->w.heap.size<=k):az [] w J:=
 ⟨G.os.trans h.os,G.tape.trans h.tape,G.output.trans h.output,cD h.size G.size,λk z V=>
  (G.block k (bL z h.size) λe=>by have :=U k e.symm;omega).trans (h.block k z V)⟩
theorem dB (h:w.ownsRow z T sz v n xs){l:List Nat}(U:az l w w')(hn:∀k,v.ownBlock=some k->k∉l):w'.ownsRow z T sz v n xs:=by
 obtain⟨h0,V⟩:=h;refine⟨h0,?_⟩;rcases V with ⟨rfl,rfl⟩|⟨g,cap,G,rfl,W,J,h2,h3,h4,h5⟩
 ·exact .inl ⟨rfl,rfl⟩
 ·refine .inr ⟨g,cap,G,rfl,W,?_,h2,h3,h4,h5⟩
  rw[<-J];exact U.block g (Array.getElem?_eq_some_iff.1 J).1 (hn g rfl)
theorem iV (h:w.ownsRow z T sz v n xs):∃a cap,v= .slice a n cap/\n<=cap/\cap<=maxLen:=by
 obtain⟨g,G,-⟩:=fp.of_row h;exact G.val
theorem Tryz.info_u64:(prog.info? 56).map (λi=>(i.zero,i.size,i.bytes))=some (some (.int .u64 0),1,8):=by kernel_rfl
theorem Ac (n:Nat)(hn:n<=100000)(m:Int)(U:m=(n:Int))(k:Nat)(W:k=0\/k=n)(w:World):(Instr.makeSlice 71 (.int .i64 (k:Int)) (.int .i64 m)).run prog w=
  .ok (.slice (some ⟨w.heap.size,0,none⟩) k n) (w.alloc (.cells (madeCells #[.int .u64 0] n) 56)):=by
 subst U;obtain⟨V,J,h,z,G⟩:=cP Tryz.info_u64;have :=run_make (P:= prog) w 71 56 V _ underlying71 J h .i64 .i64 (k:Int) (n:Int) (by omega) (by omega) (by rw[G];omega) (by omega);rw[z,aH,aH,iq] at this;exact this
structure j0 where
 now:List Int
 last:List Int
 fl:List Bool
 deeds:Int
 fused:Bool
 left:Int
structure fH (w:World) (b gn gl gf:Nat) (s:j0):Prop where
 n9:s.now.length<=10000
 ll:s.last.length=s.now.length
 fll:s.fl.length=(s.now.length+7)/8*8
 apart:s.now.length≠0->(gn≠b/\gl≠b/\gf≠b)/\gn≠gl/\gn≠gf/\gl≠gf
 at_:∃vn vl vf,bh w b #[vn,vl,vf,.int .i64 s.deeds,.bool s.fused,.int .i64 s.left] 95/\
  fp w vn gn 56 1 s.now.length (aW s.now)/\fp w vl gl 56 1 s.now.length (aW s.last)/\
  fp w vf gf 97 8 ((s.now.length+7)/8) (bools s.fl)
theorem fH.keep{s:j0}(h:fH w b gn gl gf s){l:List Nat}(z:az l w w')(V:b∉l)(G:s.now.length≠0->gn∉l/\gl∉l/\gf∉l):fH w' b gn gl gf s:=by
 obtain⟨n9,ll,fll,U,W,vl,J,a,c,d,e⟩:=h;exact⟨n9,ll,fll,U,W,vl,J,a.keep z V,c.keepIf z λh=>(G h).1,d.keepIf z λh=>(G h).2.1,e.keepIf z λh=>(G (by omega)).2.2⟩
def j0.gone (s:j0):Bool:=s.fused&&s.left==0
def j0.refusal (s:j0) (i:Int):Int:=if s.gone=true then 9 else if i<0\/(s.now.length:Int)<=i then 1 else 0
def j0.count (s:j0):j0:={ s with deeds:=s.deeds+1,left:=if s.fused=true then s.left-1 else s.left }
def j0.fit (s:j0):Prop:=0<=s.deeds/\s.deeds<4611686018427387904/\0<=s.left/\s.left<=9223372036854775807
theorem VK (b:Nat)(fused:Bool)(left:Int)(w:World)
  (h:w.cell? ⟨b,4,none⟩=some (.bool fused)) (z:w.cell? ⟨b,5,none⟩=some (.int .i64 left)):
  Calls prog 88 #[.pointer (some ⟨b,0,none⟩)] w λe w'=>e= .returned (.bool (fused&&left==0))/\w=w':=by
 cases fused
 ·go_enter func88,ntmps88
  go_wp2;go_ret;exact⟨rfl,rfl⟩
 ·go_enter func88,ntmps88
  go_wp2;go_ret;exact⟨rfl,rfl⟩
theorem QI{s:j0}(h:fH w b gn gl gf s):
  Calls prog 88 #[.pointer (some ⟨b,0,none⟩)] w λe w'=>e= .returned (.bool s.gone)/\w=w':=by
 obtain⟨J,G,z,a,c,d,e⟩:=h.at_;exact VK b s.fused s.left w (by rw[a.cell];rfl) (by rw[a.cell];rfl)
theorem zg{s:j0}(h:fH w b gn gl gf s)(i:Int):
  Calls prog 39 #[.pointer (some ⟨b,0,none⟩),.int .i64 i] w λe w'=>e= .returned (.int .i64 (s.refusal i))/\w=w':=by
 have J:=QI h;have V:=h.n9;obtain⟨vn,vl,vf,a,c,d,e⟩:=h.at_;obtain⟨an,U,rfl,_,_⟩:=c.val;have h0:w.cell? ⟨b,0,none⟩=some (.slice an s.now.length U):=by rw[a.cell];rfl
 clear a c d e h;unfold j0.refusal;generalize s.gone=g at *;generalize s.now.length=n at *;have z:=au J;clear J;cases g
 ·by_cases G:i<0
  ·rw[aB (by simp),aC (.inl G)]
   go_enter func39,ntmps39;go_wp2_with(go_at_call 88;refine z.out.mono ?_;rintro e w' ⟨rfl,rfl⟩);go_ret;exact⟨rfl,rfl⟩
  ·by_cases W:(n:Int)<=i
   ·rw[aB (by simp),aC (.inr W)]
    have d1:decide (i<0)=false:=by simpa using G
    go_enter func39,ntmps39;go_wp2_with(go_at_call 88;refine z.out.mono ?_;rintro e w' ⟨rfl,rfl⟩);go_ret;exact⟨rfl,rfl⟩
   ·rw[aB (by simp),aB (by omega)]
    have d1:decide (i<0)=false:=by simpa using G
    go_enter func39,ntmps39;go_wp2_with(go_at_call 88;refine z.out.mono ?_;rintro e w' ⟨rfl,rfl⟩);go_ret;exact⟨rfl,rfl⟩
 ·rw[aC rfl]
  go_enter func39,ntmps39;go_wp2_with(go_at_call 88;refine z.out.mono ?_;rintro e w' ⟨rfl,rfl⟩);go_ret;exact⟨rfl,rfl⟩
theorem VL{s:j0}(h:fH w b gn gl gf s):
  Calls prog 46 #[.pointer (some ⟨b,0,none⟩)] w λe w'=>e= .returned (.int .i64 (s.now.length:Int))/\w=w':=by
 obtain⟨V,W,J,a,c,d,e⟩:=h.at_;obtain⟨G,z,rfl,_,_⟩:=c.val;have U:w.cell? ⟨b,0,none⟩=some (.slice G s.now.length z):=by rw[a.cell];rfl
 clear a c d e h;generalize s.now.length=n at *;go_enter func46,ntmps46;go_wp2;go_ret;exact⟨rfl,rfl⟩
theorem fH.six{s z:j0}(h:fH w b gn gl gf s)(hk:az [b] w w')
  (hs:z.now=s.now/\z.last=s.last/\z.fl=s.fl)
  (hb:∀V W J,bh w b #[V,W,J,.int .i64 s.deeds,.bool s.fused,.int .i64 s.left] 95->bh w' b #[V,W,J,.int .i64 z.deeds,.bool z.fused,.int .i64 z.left] 95):fH w' b gn gl gf z:=by
 obtain⟨n9,ll,fll,U,V,W,J,a,c,d,e⟩:=h;obtain⟨G,e2,e3⟩:=hs;refine⟨by rw[G];exact n9,by rw[G,e2];exact ll,by rw[G,e3];exact fll,by rw[G];exact U,V,W,J,hb _ _ _ a,?_,?_,?_⟩
 ·rw[G];exact c.keepIf hk λh=>by simpa using (U h).1.1
 ·rw[G,e2];exact d.keepIf hk λh=>by simpa using (U h).1.2.1
 ·rw[G,e3];exact e.keepIf hk λh=>by simpa using (U (by omega)).1.2.2
theorem Ex{s:j0}(h:fH w b gn gl gf s)(hf:s.fit)(W:s.gone=false):
  Calls prog 40 #[.pointer (some ⟨b,0,none⟩)] w λe w'=>e= .returned (.tuple #[])/\fH w' b gn gl gf s.count/\az [b] w w':=by
 obtain⟨f1,f2,f3,f4⟩:=hf;obtain⟨U,V,G,a,-,-,-⟩:=h.at_;have h3:w.cell? ⟨b,3,none⟩=some (.int .i64 s.deeds):=by rw[a.cell];rfl
 have h4:w.cell? ⟨b,4,none⟩=some (.bool s.fused):=by rw[a.cell];rfl
 have h5:w.cell? ⟨b,5,none⟩=some (.int .i64 s.left):=by rw[a.cell];rfl
 have g3:w.frozen? ⟨b,3,none⟩=false:=a.frozen 3;have g5:w.frozen? ⟨b,5,none⟩=false:=a.frozen 5;clear a U V G;have H:=au h;clear h;have HG:=au W;clear W;cases hfu:s.fused
 ·rw[hfu] at h4
  have J:=au hfu;clear hfu;go_enter func40,ntmps40;go_wp2;go_end0;have z:az [b] w (w.setCell ⟨b,3,none⟩ (.int .i64 (s.deeds+1))):=(az.refl _ _).setCell (by simp) _;refine⟨rfl,H.out.six z ⟨rfl,rfl,rfl⟩ λU V G a=> ?_,z⟩;simpa[j0.count,J.out] using a.set 3 (.int .i64 (s.deeds+1))
 ·rw[hfu] at h4
  have hl:s.left≠0:=by
   intro e;have :=HG.out;simp[j0.gone,hfu,e] at this
  have J:=au hfu;clear hfu;go_enter func40,ntmps40;go_wp2;go_end0;have z:az [b] w ((w.setCell ⟨b,3,none⟩ (.int .i64 (s.deeds+1))).setCell ⟨b,5,none⟩ (.int .i64 (s.left-1))):=((az.refl _ _).setCell (by simp) _).setCell (by simp) _;refine⟨rfl,H.out.six z ⟨rfl,rfl,rfl⟩ λU V G a=> ?_,z⟩;simpa[j0.count,J.out] using (a.set 3 (.int .i64 (s.deeds+1))).set 5 (.int .i64 (s.left-1))
def j0.load (s:j0) (i:Int):Int:=if s.refusal i=0 then s.now.getD i.toNat 0 else 0
def j0.store (s:j0) (i x:Int):j0:=if s.refusal i=0 then { s.count with now:=s.now.set i.toNat x,fl:=s.fl.set i.toNat false } else s
theorem j0.refusal_ok{s:j0}{i:Int}(h:s.refusal i=0):s.gone=false/\0<=i/\i<s.now.length:=by
 unfold j0.refusal at h;cases hg:s.gone<;>simp[hg] at h
 exact⟨rfl,by omega,by omega⟩
theorem QJ{s:j0}(h:fH w b gn gl gf s)(i:Int):
  Calls prog 52 #[.pointer (some ⟨b,0,none⟩),.int .i64 i] w λe w'=>e= .returned (.tuple #[.int .u64 (s.load i),.int .i64 (s.refusal i)])/\w=w':=by
 have G:=au (zg h i);by_cases z:s.refusal i=0
 ·obtain⟨-,W,i1⟩:=j0.refusal_ok z
  obtain⟨i,rfl⟩:=cu W;have V:=h.n9;obtain⟨vn,vl,vf,a,c,-,-⟩:=h.at_;obtain⟨-,⟨U,rfl,q1,q2⟩,q3,-⟩:=c.cell (by omega);have k0:w.cell? ⟨b,0,none⟩=some (.slice (some ⟨gn,0,none⟩) s.now.length U):=by rw[a.cell];rfl
  have k1:w.cell? ⟨gn,i,none⟩=some (.int .u64 (s.load (i:Int))):=by rw[q3 i (by omega),dA (by omega),j0.load,aC z];rfl
  clear a c q3 h;rw[z] at G ⊢;clear z;generalize s.load i=x at *;generalize s.now.length=n at *;go_enter func52,ntmps52;go_wp2_with(go_at_call 39;refine G.out.mono ?_;rintro e w' ⟨rfl,rfl⟩);go_ret2;exact⟨rfl,rfl⟩
 ·have J:s.load i=0:=by rw[j0.load,aB z]
  rw[J];have h1:(s.refusal i != 0)=true:=by simpa using z
  generalize s.refusal i=r at *;clear h J z;go_enter func52,ntmps52;go_wp2_with(go_at_call 39;refine G.out.mono ?_;rintro e w' ⟨rfl,rfl⟩);go_ret2;exact⟨rfl,rfl⟩
theorem fH.store{s:j0}(h:fH w b gn gl gf s)(V:s.now.length≠0)(i:Nat)(x:Int):
  fH ((w.setCell ⟨gn,i,none⟩ (.int .u64 x)).setCell ⟨gf,i,none⟩ (.bool false)) b gn gl gf { s with now:=s.now.set i x,fl:=s.fl.set i false }:=by
 obtain⟨n9,ll,fll,G,vn,vl,J,a,c,d,e⟩:=h;obtain⟨⟨p1,p2,W⟩,p4,z,U⟩:=G V;refine⟨by simpa using n9,by simpa using ll,by simpa using fll,by simpa using G,vn,vl,J,?_,?_,?_,?_⟩
 ·exact(a.other (a:=⟨gn,i,none⟩) (dK p1) _).other (a:=⟨gf,i,none⟩) (dK W) _
 ·have :=(c.set i (.int .u64 x)).keep (((az.refl [gf] _).setCell (p:=⟨gf,i,none⟩) (by simp) (.bool false))) (by simpa using z)
  simpa[lT] using this
 ·have :=(d.keep ((az.refl [gn] _).setCell (p:=⟨gn,i,none⟩) (by simp) (.int .u64 x)) (by simpa using dK p4)).keep (((az.refl [gf] _).setCell (p:=⟨gf,i,none⟩) (by simp) (.bool false))) (by simpa using U)
  simpa using this
 ·have :=(e.keep ((az.refl [gn] _).setCell (p:=⟨gn,i,none⟩) (by simp) (.int .u64 x)) (by simpa using dK z)).set i (.bool false)
  simpa[Bw] using this
theorem Lb{s:j0}(h:fH w b gn gl gf s)(hf:s.fit)(i x:Int):
  Calls prog 18 #[.pointer (some ⟨b,0,none⟩),.int .i64 i,.int .u64 x] w λe w'=>e= .returned (.int .i64 (s.refusal i))/\fH w' b gn gl gf (s.store i x)/\az [b,gn,gl,gf] w w':=by
 have J:=au (zg h i);by_cases z:s.refusal i=0
 ·obtain⟨hg,i0,i1⟩:=j0.refusal_ok z
  rw[j0.store,aC z];obtain⟨i,rfl⟩:=cu i0;rw[z] at J ⊢;have aa:=h.n9;have hc:=au (Ex h hf hg);clear z h hf;go_enter func18,ntmps18;go_wp2_with fail;refine J.out.mono ?_;rintro e w' ⟨rfl,rfl⟩;go_wp2_with fail;refine hc.out.mono ?_;rintro e G ⟨rfl,h,hk⟩;obtain⟨vn,vl,vf,a,c,d,e⟩:=h.at_;have ec:s.count.now.length=s.now.length:=rfl;obtain⟨-,⟨cn,rfl,q1,q2⟩,q3,V⟩:=c.cell (by omega);obtain⟨-,⟨cf,rfl,r1,r2⟩,W,r4⟩:=e.cell (by omega);have ap:=(h.apart (by omega)).2.2.1;have k0:G.cell? ⟨b,0,none⟩=some (.slice (some ⟨gn,0,none⟩) s.now.length cn):=by rw[a.cell];rfl
  have k1:G.cell? ⟨gn,i,none⟩=some (.int .u64 (s.now.getD i 0)):=by rw[q3 i (by omega),dA (by omega)];rfl
  have k2:G.frozen? ⟨gn,i,none⟩=false:=V i;have k3:(G.setCell ⟨gn,i,none⟩ (.int .u64 x)).cell? ⟨b,2,none⟩=some (.slice (some ⟨gf,0,none⟩) ((s.now.length+7)/8) cf):=by
   rw[(a.other (a:=⟨gn,i,none⟩) (dK (h.apart (by omega)).1.1) _).cell];rfl
  have U:i/8*8+i%8=i:=by omega
  have k4:G.cell? ⟨gf,i/8*8+i%8,none⟩=some (.bool (s.fl.getD i false)):=by
   have :=h.fll;rw[U,W i (by omega),tC (by omega)];rfl
  have k5:G.frozen? ⟨gf,i/8*8+i%8,none⟩=false:=r4 _;have hs:=h.store (by omega) i x;have HE:=au U;have HS:=au hs;clear a c d e q3 W V r4 U hs;go_wp2_with fail;go_ret;refine⟨rfl,?_,((hk.mono (by simp)).setCell (by simp) _).setCell (by simp) _⟩;rw[HE.out];exact HS.out
 ·rw[j0.store,aB z]
  have h1:(s.refusal i != 0)=true:=by simpa using z
  have H:=au h;generalize s.refusal i=r at *;clear h z;go_enter func18,ntmps18;go_wp2_with(go_at_call 39;refine J.out.mono ?_;rintro e w' ⟨rfl,rfl⟩);go_ret;exact⟨rfl,H.out,az.refl _ _⟩
def jL (l:List Int):List Value:=l.map (Value.int .u8)
theorem QK{l:List Int}(h:j<l.length):(jL l)[j]? =some (.int .u8 (l.getD j 0)):=by simp[jL,h]
theorem fF (l:List Int):(jL l).length=l.length:=by simp[jL]
end Go.Proofs.YtepbpdipenedhaaGreatDoor
