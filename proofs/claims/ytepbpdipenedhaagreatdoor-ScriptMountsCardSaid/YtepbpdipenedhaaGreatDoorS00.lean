/- Lemmas. -/
import Derived.WalkKit
import Derived.WalkSpells
import Derived.Deep.QuietTactic
import Derived.Lib.Hide
import Derived.ProofKit
import Derived.OpenShut
import Derived.Deep.Slices
import Derived.Laws.BitsAllLaws
import Derived.WalkLawsBesides
import Derived.Laws.AppendOwn
import Derived.Test.YtepbpdipenedhaaGreatDoorRows
import Derived.BigQuiet
set_option maxHeartbeats 400000
namespace Go.Proofs.YtepbpdipenedhaaGreatDoor
open Go.Proofs.Tryz
open Go.RowKit
variable{α:Type}{T b g gf gl gn i j n sz y:Nat}{l l':List Nat}{a w w':World}{c:Array Value}{row:Option Nat}{v:Value}{xs:List Value}{ps:List (Int×Int)}
theorem ag{α:Type _}(l:List α)(i:Nat)(a:α):l.toArray.setIfInBounds i a=(l.set i a).toArray:=List.setIfInBounds_toArray l i a
theorem ah{α:Type _}(x:α)(l:List α)(a:α):(x::l).set 0 a=a::l:=rfl
theorem ai{α:Type _}(x:α)(l:List α)(n:Nat)(a:α):(x::l).set (n+1) a=x::l.set n a:=rfl
theorem aj{α:Type _}{l:List α}{a:α}:l.getD i a=l[i]?.getD a:=List.getD_eq_getElem?_getD
theorem ar{p:Prop}(h:p):Hid p:=Lib.hid h
theorem aG:type_of% @Nat.le_refl:=@Nat.le_refl
theorem cJ:type_of% @Nat.le_trans:=@Nat.le_trans
theorem bt:type_of% @Nat.lt_of_lt_of_le:=@Nat.lt_of_lt_of_le
theorem au.{u}:type_of% @List.mem_singleton.{u}:=@List.mem_singleton.{u}
theorem aK:type_of% @Go.World.cell?_of_block:=@Go.World.cell?_of_block
theorem cy.{u}:type_of% @List.getElem?_take.{u}:=@List.getElem?_take.{u}
theorem aB.{u}:type_of% @if_pos.{u}:=@if_pos.{u}
theorem bc.{u}:type_of% @List.eq_nil_of_length_eq_zero.{u}:=@List.eq_nil_of_length_eq_zero.{u}
theorem cE.{u}:type_of% @Array.getElem?_toList.{u}:=@Array.getElem?_toList.{u}
theorem cP:type_of% @Go.run_underlying:=@Go.run_underlying
theorem cV.{u}:type_of% @Array.length_toList.{u}:=@Array.length_toList.{u}
theorem dP:type_of% @Nat.add_zero:=@Nat.add_zero
theorem eI.{u}:type_of% @List.take_zero.{u}:=@List.take_zero.{u}
theorem bT.{u}:type_of% @List.nil_append.{u}:=@List.nil_append.{u}
theorem aV:type_of% @Nat.zero_add:=@Nat.zero_add
theorem bH.{u}:type_of% @List.size_toArray.{u}:=@List.size_toArray.{u}
theorem aD.{u}:type_of% @List.length_append.{u}:=@List.length_append.{u}
theorem bu.{u}:type_of% @List.length_drop.{u}:=@List.length_drop.{u}
theorem bW.{u}:type_of% @List.ext_getElem?.{u}:=@List.ext_getElem?.{u}
theorem eB.{u}:type_of% @List.getElem?_set.{u}:=@List.getElem?_set.{u}
theorem gi:type_of% @Nat.mod_lt:=@Nat.mod_lt
theorem bL.{u,v}:type_of% @List.mem_map.{u,v}:=@List.mem_map.{u,v}
theorem fL.{u}:type_of% @List.cons_append.{u}:=@List.cons_append.{u}
theorem bF.{u}:type_of% @List.length_cons.{u}:=@List.length_cons.{u}
theorem iq.{u}:type_of% @List.mem_cons_of_mem.{u}:=@List.mem_cons_of_mem.{u}
theorem iO.{u}:type_of% @List.mem_cons_self.{u}:=@List.mem_cons_self.{u}
theorem bz.{u}:type_of% @List.take_succ_eq_append_getElem.{u}:=@List.take_succ_eq_append_getElem.{u}
theorem aI.{u}:type_of% @List.length_take.{u}:=@List.length_take.{u}
theorem cA:type_of% @Nat.min_eq_left:=@Nat.min_eq_left
theorem bQ.{u}:type_of% @List.mem_of_mem_take.{u}:=@List.mem_of_mem_take.{u}
theorem aR.{u}:type_of% @List.mem_append.{u}:=@List.mem_append.{u}
theorem bj.{u}:type_of% @List.length_replicate.{u}:=@List.length_replicate.{u}
theorem aP.{u}:type_of% @List.getElem?_eq_none.{u}:=@List.getElem?_eq_none.{u}
theorem aT.{u}:type_of% @List.getElem?_append_right.{u}:=@List.getElem?_append_right.{u}
theorem ba.{u}:type_of% @List.append_assoc.{u}:=@List.append_assoc.{u}
theorem bA.{u}:type_of% @List.getElem_mem.{u}:=@List.getElem_mem.{u}
theorem aA.{u}:type_of% @if_neg.{u}:=@if_neg.{u}
theorem fg.{u}:type_of% @List.all_eq_true.{u}:=@List.all_eq_true.{u}
theorem cN.{u}:type_of% @List.getElem?_cons_succ.{u}:=@List.getElem?_cons_succ.{u}
theorem aQ.{u}:type_of% @List.mem_cons.{u}:=@List.mem_cons.{u}
theorem aS.{u}:type_of% @List.not_mem_nil.{u}:=@List.not_mem_nil.{u}
theorem bD:type_of% @or_false:=@or_false
theorem bU.{u}:type_of% @List.getElem_of_mem.{u}:=@List.getElem_of_mem.{u}
theorem bP:type_of% @List.mem_range:=@List.mem_range
theorem b8.{u,v}:type_of% @congrArg.{u,v}:=@congrArg.{u,v}
theorem b9.{u}:type_of% @List.length_nil.{u}:=@List.length_nil.{u}
theorem bC.{u,v}:type_of% @List.getElem?_map.{u,v}:=@List.getElem?_map.{u,v}
theorem bV:type_of% @List.getElem?_range:=@List.getElem?_range
theorem bb.{u}:type_of% @List.getElem?_replicate.{u}:=@List.getElem?_replicate.{u}
theorem cQ.{u}:type_of% @List.set_append_right.{u}:=@List.set_append_right.{u}
theorem cr:type_of% @Go.info_parts:=@Go.info_parts
theorem aJ:type_of% @Int.toNat_natCast:=@Int.toNat_natCast
theorem b7:type_of% @Int.eq_ofNat_of_zero_le:=@Int.eq_ofNat_of_zero_le
theorem eu.{u}:type_of% @Ne.symm.{u}:=@Ne.symm.{u}
theorem fh.{u,v}:type_of% @List.getElem?_mapIdx.{u,v}:=@List.getElem?_mapIdx.{u,v}
theorem fC.{u,v}:type_of% @Option.map_some.{u,v}:=@Option.map_some.{u,v}
theorem aW.{u}:type_of% @List.take_of_length_le.{u}:=@List.take_of_length_le.{u}
theorem cZ.{u}:type_of% @List.drop_of_length_le.{u}:=@List.drop_of_length_le.{u}
theorem gj.{u}:type_of% @List.getElem?_append.{u}:=@List.getElem?_append.{u}
theorem cg.{u}:type_of% @List.getElem?_drop.{u}:=@List.getElem?_drop.{u}
theorem bM:type_of% @Go.Sem.run_bind:=@Go.Sem.run_bind
theorem eZ:type_of% @Go.Sem.run_pure:=@Go.Sem.run_pure
theorem bX:type_of% @Go.Result.andThen_ok:=@Go.Result.andThen_ok
theorem aF.{u}:type_of% @List.getElem?_eq_getElem.{u}:=@List.getElem?_eq_getElem.{u}
theorem eD:type_of% @Nat.zero_le:=@Nat.zero_le
theorem iu:type_of% @Go.Exit.noGoto_ret:=@Go.Exit.noGoto_ret
theorem dw:type_of% @Go.wpList_append_own:=@Go.wpList_append_own
theorem iT.{u}:type_of% @List.length_singleton.{u}:=@List.length_singleton.{u}
theorem dI:type_of% @List.range_succ:=@List.range_succ
theorem eJ.{u,v}:type_of% @List.map_append.{u,v}:=@List.map_append.{u,v}
theorem dL.{u,v}:type_of% @List.map_congr_left.{u,v}:=@List.map_congr_left.{u,v}
theorem fJ.{u}:type_of% @List.take_append_of_le_length.{u}:=@List.take_append_of_le_length.{u}
theorem fM.{u}:type_of% @List.filter_append.{u}:=@List.filter_append.{u}
theorem bG.{u,v}:type_of% @List.length_map.{u,v}:=@List.length_map.{u,v}
theorem fH.{u}:type_of% @List.length_filter_le.{u}:=@List.length_filter_le.{u}
theorem aC.{u}:type_of% @List.getElem?_toArray.{u}:=@List.getElem?_toArray.{u}
theorem bg.{u}:type_of% @List.getElem?_append_left.{u}:=@List.getElem?_append_left.{u}
theorem cO:type_of% @Nat.add_sub_cancel_left:=@Nat.add_sub_cancel_left
theorem dW.{u}:type_of% @List.length_set.{u}:=@List.length_set.{u}
theorem ey.{u}:type_of% @List.take_append_drop.{u}:=@List.take_append_drop.{u}
theorem iP:type_of% @Nat.lt_of_le_of_lt:=@Nat.lt_of_le_of_lt
theorem iU:type_of% @Nat.testBit_and:=@Nat.testBit_and
theorem gF.{u}:type_of% @List.filter_congr.{u}:=@List.filter_congr.{u}
theorem df:type_of% @Nat.and_two_pow_sub_one_eq_mod:=@Nat.and_two_pow_sub_one_eq_mod
theorem eX:type_of% @List.length_range:=@List.length_range
theorem bq.{u}:type_of% @List.append_nil.{u}:=@List.append_nil.{u}
theorem fN:type_of% @Go.IntKind.wrap_u64:=@Go.IntKind.wrap_u64
theorem dV:type_of% @Go.IntWalk.i64_in:=@Go.IntWalk.i64_in
theorem fZ:type_of% @Go.u64_and_nat:=@Go.u64_and_nat
theorem dB.{u}:type_of% @List.ext_getElem.{u}:=@List.ext_getElem.{u}
theorem fO:type_of% @Nat.add_sub_cancel:=@Nat.add_sub_cancel
theorem eV.{u}:type_of% @List.drop_eq_getElem_cons.{u}:=@List.drop_eq_getElem_cons.{u}
theorem iV.{u}:type_of% @List.cons.injEq.{u}:=@List.cons.injEq.{u}
theorem aL:type_of% @Go.bodyPost_ret:=@Go.bodyPost_ret
theorem iF:type_of% @Go.ByteArray.toList_eq:=@Go.ByteArray.toList_eq
theorem cj.{u}:type_of% @beq_eq_false_iff_ne.{u}:=@beq_eq_false_iff_ne.{u}
theorem iG.{u}:type_of% @List.drop_replicate.{u}:=@List.drop_replicate.{u}
theorem fQ.{u,v}:type_of% @List.getElem_map.{u,v}:=@List.getElem_map.{u,v}
theorem iQ:type_of% @List.getElem_range:=@List.getElem_range
theorem aM:type_of% @decide_eq_false:=@decide_eq_false
theorem bh:type_of% @decide_eq_true:=@decide_eq_true
theorem gJ.{u}:type_of% @Array.getD_eq_getD_getElem?.{u}:=@Array.getD_eq_getD_getElem?.{u}
theorem iE.{u}:type_of% @List.getElem?_cons_zero.{u}:=@List.getElem?_cons_zero.{u}
theorem iW:type_of% @Go.Oper.semAt_some:=@Go.Oper.semAt_some
theorem fk.{u}:type_of% @Array.replicate_succ.{u}:=@Array.replicate_succ.{u}
theorem fo.{u}:type_of% @Array.replicate_zero.{u}:=@Array.replicate_zero.{u}
theorem gG.{u}:type_of% @List.push_toArray.{u}:=@List.push_toArray.{u}
theorem fx.{u}:type_of% @List.append_toArray.{u}:=@List.append_toArray.{u}
theorem dg:type_of% @Nat.lt_or_ge:=@Nat.lt_or_ge
theorem fR:type_of% @Bool.and_eq_true:=@Bool.and_eq_true
theorem gY.{u}:type_of% @List.take_length.{u}:=@List.take_length.{u}
theorem eK:type_of% @Nat.eq_zero_or_pos:=@Nat.eq_zero_or_pos
theorem dD:type_of% @Go.wpAny_ready:=@Go.wpAny_ready
theorem bZ:type_of% @Go.AllReady.cons:=@Go.AllReady.cons
theorem dh:type_of% @Go.AllReady.nil:=@Go.AllReady.nil
theorem fS.{u}:type_of% @List.getElem?_take_of_lt.{u}:=@List.getElem?_take_of_lt.{u}
theorem fy.{u,v}:type_of% @List.filterMap_cons.{u,v}:=@List.filterMap_cons.{u,v}
theorem gZ.{u}:type_of% @Option.getD_some.{u}:=@Option.getD_some.{u}
theorem cU.{u}:type_of% @List.pairwise_iff_getElem.{u}:=@List.pairwise_iff_getElem.{u}
theorem fI:type_of% @UInt8.lt_iff_toNat_lt:=@UInt8.lt_iff_toNat_lt
theorem gM:type_of% @Int.toNat_of_nonneg:=@Int.toNat_of_nonneg
theorem dm.{u}:type_of% @List.mem_append_left.{u}:=@List.mem_append_left.{u}
theorem dA.{u}:type_of% @List.mem_append_right.{u}:=@List.mem_append_right.{u}
theorem iw.{u}:type_of% @List.length_dropLast.{u}:=@List.length_dropLast.{u}
theorem bO:type_of% @Go.World.size_alloc:=@Go.World.size_alloc
structure ay (l:List Nat) (w w':World):Prop where
 os:w'.os=w.os
 tape:w'.tape=w.tape
 output:w'.output=w.output
 size:w.heap.size<=w'.heap.size
 block:∀k,k<w.heap.size->k∉l->w'.heap[k]? =w.heap[k]?
theorem ay.refl(l:List Nat)(w:World):ay l w w:=⟨rfl,rfl,rfl,aG _,λ_ _ _=>rfl⟩
theorem ay.mono(h:ay l w w')(J:∀k,k∈l->k<w.heap.size->k∈l'):ay l' w w':=
 ⟨h.os,h.tape,h.output,h.size,λk y G=>h.block k y λz=>G (J k z y)⟩
theorem ay.trans{b c:World}(h:ay l a b)(k:ay l' b c)(J:∀x,x∈l'->x∈l\/a.heap.size<=x):ay l a c:=
 ⟨k.os.trans h.os,k.tape.trans h.tape,k.output.trans h.output,cJ h.size k.size,λx y z=>
  (k.block x (bt y h.size) λG=>(J x G).elim z λU=>by omega).trans (h.block x y z)⟩
theorem ay.trans'{b c:World}(h:ay l a b)(k:ay l b c):ay l a c:=h.trans k λ_ y=> .inl y
theorem ay.drew(h:ay l a w):ay l a w.drew:=⟨h.os,h.tape,h.output,h.size,h.block⟩
theorem ay.drewN(h:ay l a w)(n:Nat):ay l a (w.drewN n):=⟨h.os,h.tape,h.output,h.size,h.block⟩
theorem ay.alloc(h:ay l a w)(o:Obj):ay l a (w.alloc o):=
 h.trans (l':=[]) ⟨rfl,rfl,rfl,by simp,λk y _=>Below.heap_alloc _ _ _ y⟩ (by simp)
theorem ay.setCell(h:ay l a w){p:Addr}(G:p.block∈l\/a.heap.size<=p.block)(u:Value):ay l a (w.setCell p u):=
 h.trans (l':=[p.block]) ⟨rfl,rfl,rfl,by simp[World.setCell],λk _ z=>Below.heap_setCell _ _ _ _ (by simpa using z)⟩ (by
  intro x y;rw[au] at y;subst y;exact G)
theorem ay.below(h:ay l w w'){B:Nat}(G:B<=w.heap.size)(z:∀k,k∈l->B<=k):Below B w w':=
 ⟨h.os,h.tape,h.output,h.size,λk J=>h.block k (by omega) λy=>by have :=z k y;omega⟩
theorem ay.of_grown(h:w.grownBy w' row)(G:∀k,row=some k->k∈l\/w.heap.size<=k):ay l w w':=
 ⟨h.os,h.tape,h.output,h.size,λk y z=>h.block k y λe=>(G k e.symm).elim z λJ=>by omega⟩
def bf (w:World) (b:Nat) (c:Array Value) (T:Nat):Prop:=w.heap[b]? =some (.cells c T (0,0))
theorem bf.lt(h:bf w b c T):b<w.heap.size:=(Array.getElem?_eq_some_iff.1 h).1
theorem bf.keep(h:bf w b c T){l:List Nat}(z:ay l w w')(y:b∉l):bf w' b c T:=
 (z.block b h.lt y).trans h
theorem bf.cell(h:bf w b c T)(o:Nat):w.cell? ⟨b,o,none⟩=c[o]? :=by
 unfold bf at h;simp[World.cell?,h]
theorem bf.frozen(h:bf w b c T)(o:Nat):w.frozen? ⟨b,o,none⟩=false:=by
 unfold bf at h;simp[World.frozen?,h]
theorem bf.set(h:bf w b c T)(o:Nat)(v:Value):bf (w.setCell ⟨b,o,none⟩ v) b (c.setIfInBounds o v) T:=by
 unfold bf at *;simp[World.setCell,Array.getElem?_modify,h]
theorem bf.other(h:bf w b c T){a:Addr}(y:b≠a.block)(v:Value):bf (w.setCell a v) b c T:=by
 unfold bf at *;rw[Below.heap_setCell _ _ _ _ y];exact h
theorem bf.alloc(h:bf w b c T)(o:Obj):bf (w.alloc o) b c T:=
 h.keep ((ay.refl [] w).alloc o) (by simp)
theorem bf.new(w:World)(c:Array Value)(T:Nat):bf (w.alloc (.cells c T)) w.heap.size c T:=by
 unfold bf;exact heap_alloc_new w _
theorem bf.drew(h:bf w b c T):bf w.drew b c T:=h
def Reads (w:World) (v:Value) (g:Nat) (xs:List Value):Prop:=
 ∃a cap,v= .slice a xs.length cap/\xs.length<=cap/\cap<=maxLen/\(xs≠[]->g<w.heap.size/\∃off,a=some ⟨g,off,none⟩/\∀j,j<xs.length->w.cell? ⟨g,off+j,none⟩=xs[j]?)
theorem Reads.keep(h:Reads w v g xs){l:List Nat}(z:ay l w w')(hg:g∉l):Reads w' v g xs:=by
 obtain⟨a,cap,h1,J,V,h4⟩:=h;refine⟨a,cap,h1,J,V,λU=> ?_⟩;obtain⟨y,off,G,Z⟩:=h4 U;refine⟨bt y z.size,off,G,λj W=> ?_⟩;rw[aK (w:=w) (z.block g y hg)];exact Z j W
def eQ (w:World) (v:Value) (g:Nat) (T sz n:Nat) (xs:List Value):Prop:=
 xs.length=n*sz/\∃a cap,v= .slice a n cap/\n<=cap/\cap<=maxLen/\(n≠0->a=some ⟨g,0,none⟩/\∃c:Array Value,bf w g c T/\c.size=cap*sz/\c.toList.take (n*sz)=xs)
theorem eQ.keep(h:eQ w v g T sz n xs){l:List Nat}(W:ay l w w')(hg:g∉l):eQ w' v g T sz n xs:=by
 obtain⟨V,a,cap,J,y,G,h4⟩:=h;refine⟨V,a,cap,J,y,G,λz=> ?_⟩;obtain⟨Z,c,U,h7⟩:=h4 z;exact⟨Z,c,U.keep W hg,h7⟩
theorem eQ.keepIf(h:eQ w v g T sz n xs){l:List Nat}(W:ay l w w')(hg:n≠0->g∉l):eQ w' v g T sz n xs:=by
 obtain⟨V,a,cap,J,z,G,h4⟩:=h;refine⟨V,a,cap,J,z,G,λy=> ?_⟩;obtain⟨Z,c,U,h7⟩:=h4 y;exact⟨Z,c,U.keep W (hg y),h7⟩
theorem eQ.len(h:eQ w v g T sz n xs):xs.length=n*sz:=h.1
theorem qq{c:List α}{m:Nat}{xs:List α}(h:c.take m=xs){j:Nat}(y:j<m):c[j]? =xs[j]? :=by
 rw[<-h,cy,aB y]
theorem eQ.reads(h:eQ w v g T 1 n xs):Reads w v g xs:=by
 obtain⟨h0,a,cap,W,h2,J,Z⟩:=h;have V:xs.length=n:=by omega
 refine⟨a,cap,by rw[V];exact W,by omega,J,λG=> ?_⟩;have :n≠0:=λe=>G (bc (by omega))
 obtain⟨z,c,y,h7,U⟩:=Z this;refine⟨y.lt,0,z,λj hj=> ?_⟩;rw[y.cell,<-cE];simpa using qq U (j:=j) (by omega)
theorem eQ.set(h:eQ w v g T sz n xs)(j:Nat)(u:Value):eQ (w.setCell ⟨g,j,none⟩ u) v g T sz n (xs.set j u):=by
 obtain⟨W,a,cap,Z,z,J,h4⟩:=h;refine⟨by simpa using W,a,cap,Z,z,J,λG=> ?_⟩;obtain⟨y,c,V,h7,U⟩:=h4 G;refine⟨y,_,V.set j u,by simpa using h7,?_⟩;rw[Array.toList_setIfInBounds,List.take_set,U]
theorem eQ.drew(h:eQ w v g T sz n xs):eQ w.drew v g T sz n xs:=h
theorem eQ.alloc(h:eQ w v g T sz n xs)(o:Obj):eQ (w.alloc o) v g T sz n xs:=
 h.keep ((ay.refl [] w).alloc o) (by simp)
theorem eQ.cell(h:eQ w v g T sz n xs)(W:n≠0):g<w.heap.size/\(∃cap,v= .slice (some ⟨g,0,none⟩) n cap/\n<=cap/\cap<=maxLen)/\(∀j,j<n*sz->w.cell? ⟨g,j,none⟩=xs[j]?)/\∀j,w.frozen? ⟨g,j,none⟩=false:=by
 obtain⟨h0,a,cap,Z,G,J,h4⟩:=h;obtain⟨z,c,y,h7,U⟩:=h4 W;subst z;refine⟨y.lt,⟨cap,Z,G,J⟩,λj V=> ?_,λj=>y.frozen j⟩;rw[y.cell,<-cE];exact qq U V
theorem eQ.val(h:eQ w v g T sz n xs):∃a cap,v= .slice a n cap/\n<=cap/\cap<=maxLen:=by
 obtain⟨J,a,cap,G,y,z,U⟩:=h;exact⟨a,cap,G,y,z⟩
theorem eQ.nil(w:World)(g T sz:Nat):eQ w (.slice none 0 0) g T sz 0 []:=⟨by simp,none,0,rfl,by simp,by simp[maxLen],λh=>absurd rfl h⟩
theorem eQ.anyG(h:eQ w v g T sz n xs)(J:n=0)(U:Nat):eQ w v U T sz n xs:=by
 obtain⟨G,a,cap,V,y,z,W⟩:=h;exact⟨G,a,cap,V,y,z,λh=>absurd J h⟩
theorem eQ.of_row(h:w.ownsRow y T sz v n xs):∃g,eQ w v g T sz n xs/\(n≠0->y<=g/\v.ownBlock=some g):=by
 obtain⟨W,V⟩:=h;rcases V with ⟨rfl,rfl⟩|⟨g,cap,z,rfl,hg,G,J,U,h4,Z⟩
 ·obtain rfl:xs=[]:=bc (by omega)
  exact⟨0,eQ.nil w 0 T sz,λh=>absurd rfl h⟩
 ·exact⟨g,⟨W,_,cap,rfl,J,U,λ_=>⟨rfl,z,G,h4,Z⟩⟩,λ_=>⟨hg,rfl⟩⟩
theorem ay.setRow(h:ay l a w){g:Nat}(G:g∈l\/a.heap.size<=g)(c:Array Value):ay l a (w.setRow g c):=
 h.trans (l':=[g]) ⟨rfl,rfl,rfl,by simp[World.setRow],λk _ z=>setRow_other w g k _ (by simpa using z)⟩ (by
  intro x y;rw[au] at y;subst y;exact G)
theorem lT (z:Array Value)(n:Nat):(Builtin.zeroCells z n).size=n*z.size:=by simp[Builtin.zeroCells]
theorem Be{P:Program}{t e ty:Nat}{z:Value}(W:P.underlying t=some (.slice e))(hz:∀w,(zeroValue e).run P w= .ok z w)
  (J:z.cells.size=sz) (h1:∀u∈(Builtin.zeroCells z.cells n).toList,u.oneCell'=true) (h:eQ w v g T sz n xs):
  ∃w',(Builtin.clear_ #[t] ty #[v]).run P w= .ok (.tuple #[]) w'/\eQ w' v g T sz n (Builtin.zeroCells z.cells n).toList/\ay [g] w w':=by
 obtain⟨h0,a,cap,rfl,G,Z,h4⟩:=h;by_cases U:n=0
 ·subst U
  refine⟨w,?_,⟨by simp[lT],a,cap,rfl,G,Z,λh=>absurd rfl h⟩,ay.refl _ _⟩;cases a<;>simp[Builtin.clear_,cP W]
 ·obtain⟨rfl,c,hc,hs,hk⟩:=h4 U
  have y:(Builtin.zeroCells z.cells n).toList.length=n*sz:=by rw[cV,lT,J]
  have aa:n*sz<=c.size:=by rw[hs];exact Nat.mul_le_mul_right _ G
  have V:=run_storeCells_at P g 0 T (Builtin.zeroCells z.cells n).toList 0 c w hc (by rw[y];omega) h1;simp only[dP,eI,bT,aV] at V;generalize hC:((Builtin.zeroCells z.cells n).toList++List.drop (Builtin.zeroCells z.cells n).toList.length c.toList).toArray=C at V;refine⟨w.setRow g C,?_,⟨y,_,cap,rfl,G,Z,λ_=>⟨rfl,C,setRow_heap w g c _ T _ hc,?_,?_⟩⟩,(ay.refl _ _).setRow (by simp) _⟩
  ·cases n with
   |zero=>exact absurd rfl U
   |succ n=>simp[Builtin.clear_,cP W,hz,V]
  ·rw[<-hC,bH,aD,bu,y,cV];omega
  ·rw[<-y,<-hC];exact List.take_left
theorem Dj (l:List α)(i:Nat)(d:α):l.set i (l.getD i d)=l:=by
 apply bW;intro j;rw[eB];split
 ·rename_i hj
  subst hj;split
  ·rename_i hi;simp[hi]
  ·rename_i hi;simp at hi;simp[hi]
 ·rfl
end Go.Proofs.YtepbpdipenedhaaGreatDoor
namespace Go.Proofs.YtepbpdipenedhaaGreatDoor
open Go.Proofs.Tryz
open Go.ChangeShapes Go.WideShapes Go.ChangeAt Go.RowKit
variable{α:Type}{T b g gf gl gn i j n sz y:Nat}{l l':List Nat}{a w w':World}{c:Array Value}{row:Option Nat}{v:Value}{xs:List Value}{ps:List (Int×Int)}
section
variable {H:Type} {enc:TypeId×Value->H} {P:Program} {W:World} {base:Nat} {spare:Nat->Bool} {held:Bool}
theorem Bf {a:Addr}{n:Nat}{v:Value}(h:W.cell? (a.add n)=some v)(z:n=0):∃g off,a=⟨g,off,none⟩:=by
 subst z;have :a.add 0=a:=by simp[Addr.add]
 rw[this] at h;obtain⟨g,off,y⟩:=a;have :=World.cell?_spot h;simp at this;subst this;exact⟨g,off,rfl⟩
theorem add_plain(g off n:Nat):(⟨g,off,none⟩:Addr).add n=⟨g,off+n,none⟩:=by unfold Addr.add;split<;>simp_all
theorem vG {a:Addr}{v:Value}(h:W.cell? a=some v):a.block<W.heap.size:=World.block_lt_of_cell? W a h
theorem Ec {t e:TypeId}{fuel sz:Nat}{cs:List Value}{x:DataW H×List MemPlace}(ht:P.underlying t=some (.slice e))(hc:P.cellsOf e=sz)(aa:0<sz)
  (h:DataW.trod enc P W base spare held fuel t cs=some x):
  ∃a len cap,cs=[.slice a len cap]/\len<=cap/\cap<=maxLen/\(len≠0->∃g off,a=some ⟨g,off,none⟩/\g<W.heap.size/\
   ∀i,i<len->∃(z:List Value) (y:DataW H×List MemPlace) (n:Nat),z.length=sz/\(∀c,c<sz->W.cell? ⟨g,off+(i*sz+c),none⟩=z[c]?)/\DataW.trod enc P W base spare held n e z=some y):=by
 rcases Deep.open_slice ht h with ⟨rfl,-⟩|⟨a,len,cap,m,n,D,Pl,rfl,-,hl,hm,V,-,hx⟩
 ·exact⟨none,0,0,rfl,by simp,by simp[maxLen],λh=>absurd rfl h⟩
 ·have af:len<=m:=by rw[V];split<;>omega
  refine⟨some a,len,cap,rfl,hl,hm,λh0=> ?_⟩;rw[hc] at hx;obtain⟨ac,h1,-⟩:=hx 0 (by omega);obtain⟨-,ae,J⟩:=World.cells?_some h1;have G:=J 0 aa;have e0:(a.add (0*sz))=a:=by simp[Addr.add]
  rw[e0] at G;cases hv:ac[0]? with
  |none=>rw[List.getElem?_eq_none_iff] at hv;omega
  |some v=>
   rw[hv] at G;obtain⟨g,off,rfl⟩:=Bf G rfl;refine⟨g,off,rfl,by simpa[add_plain] using vG G,λi hi=> ?_⟩;obtain⟨z,h2,h3⟩:=hx i (by omega);obtain⟨-,U,X3⟩:=World.cells?_some h2;refine⟨z,_,n,U,λc Z=> ?_,h3⟩;have :=X3 c Z;rw[add_plain,add_plain] at this;rw[<-this,Nat.add_assoc]
end
end Go.Proofs.YtepbpdipenedhaaGreatDoor
namespace Go.Proofs.YtepbpdipenedhaaGreatDoor
open Go.Proofs.Tryz
variable{α:Type}{T b g gf gl gn i j n sz y:Nat}{l l':List Nat}{a w w':World}{c:Array Value}{row:Option Nat}{v:Value}{xs:List Value}{ps:List (Int×Int)}
def pU (W k:Nat):Nat:=W/256^k%256
def jW (W:Nat):List Nat:=(List.range 8).map (pU W)
def jX:List Nat->Nat
 | []=>0
 |c::l=>c+256*jX l
theorem yg (W k:Nat):pU W k<256:=gi _ (by decide)
theorem kS (W:Nat):(jW W).length=8:=by simp[jW]
theorem sV (W k:Nat)(h:k<8):(jW W).getD k 0=pU W k:=by simp[jW,h]
theorem Ms (W:Nat):∀c∈jW W,c<256:=by
 intro c h;simp only[jW,bL] at h;obtain⟨k,-,rfl⟩:=h;exact yg W k
theorem rf (l m:List Nat):jX (l++m)=jX l+256^l.length*jX m:=by
 induction l with
 |nil=>simp[jX]
 |cons c l ih=>rw[fL,jX,ih,jX,bF,Nat.pow_succ',Nat.mul_add,Nat.mul_assoc,Nat.add_assoc]
theorem Ed (c:Nat):jX [c]=c:=by simp[jX]
theorem Hf (n:Nat):jX (List.replicate n 0)=0:=by
 induction n with
 |zero=>rfl
 |succ n ih=>simp[List.replicate_succ,jX,ih]
theorem Hg (h:∀c∈l,c<256):jX l<256^l.length:=by
 induction l with
 |nil=>simp[jX]
 |cons c l ih=>
  have z:=ih λx y=>h x (iq _ y)
  have G:=h c iO;rw[jX,bF,Nat.pow_succ'];omega
theorem Ns (h:∀c∈l,c<256):∀k,pU (jX l) k=l.getD k 0:=by
 induction l with
 |nil=>intro k;simp[jX,pU]
 |cons c l ih=>
  have z:=h c iO;intro k;cases k with
  |zero=>simp[jX,pU];omega
  |succ k=>
   have :=ih (λx y=>h x (iq _ y)) k;rw[List.getD_cons_succ,<-this];unfold pU;rw[jX,Nat.pow_succ',<-Nat.div_div_eq_div_mul]
   congr 2
   omega
theorem Ab (l:List Nat)(k:Nat)(h:k<l.length):jX (l.take (k+1))=jX (l.take k)+l.getD k 0*256^k:=by
 rw[bz h,rf,Ed,aI,cA (by omega),Nat.mul_comm];simp[h]
theorem Mt (h:∀c∈l,c<256)(k:Nat):∀c∈l.take k,c<256:=λc y=>h c (bQ y)
def lD (c:Nat):Bool:=decide (33<=c)&&(decide (c<=126)&&(c != 47))
def gA (l:List Nat):Bool:=decide (1<=l.length)&&decide (l.length<=7)&&(l != [46])&&(l != [46,46])&&l.all lD
def ot (l:List Nat):Nat:=jX l+72057594037927936*l.length
def wR (l:List Nat):List Nat:=l++List.replicate (7-l.length) 0++[l.length]
theorem mX (h:gA l=true):1<=l.length/\l.length<=7:=by simp[gA] at h;omega
theorem sW (h:l.length<=7):(wR l).length=8:=by simp[wR];omega
theorem Fz (z:l.length<=7)(h:∀c∈l,c<256):∀c∈wR l,c<256:=by
 intro c y;simp only[wR,aR,List.mem_replicate,au] at y;rcases y with(y|⟨-,rfl⟩)|rfl
 ·exact h c y
 ·omega
 ·omega
theorem vH (h:l.length<=7):jX (wR l)=ot l:=by
 rw[wR,rf,rf,Hf,Ed,aD,bj,show l.length+(7-l.length)=7 by omega,ot];rfl
theorem QP (y:l.length<=7)(h:∀c∈l,c<256):ot l<18446744073709551616:=by
 have :=Hg (Fz y h);rw[vH y,sW y] at this;simpa using this
theorem Ki (y:l.length<=7)(h:∀c∈l,c<256):jW (ot l)=wR l:=by
 have J:=Fz y h;apply bW;intro k;by_cases z:k<8
 ·have G:(wR l)[k]? =some ((wR l).getD k 0):=by simp[sW y,z]
  rw[G,<-Ns J,vH y];simp[jW,z]
 ·rw[aP (by rw[kS];omega),aP (by rw[sW y];omega)]
def jk (W:Nat):Option (List Nat):=if pU W 7<=7/\gA ((jW W).take (pU W 7))=true/\ot ((jW W).take (pU W 7))=W then some ((jW W).take (pU W 7)) else none
theorem l9 (G:gA l=true)(h:∀c∈l,c<256):jk (ot l)=some l:=by
 obtain⟨V,y⟩:=mX G;have z:=Ki y h;have U:pU (ot l) 7=l.length:=by
  rw[<-sV _ 7 (by omega),z,wR,aj,aT (by simp;omega)];simp[show 7-(l.length+(7-l.length))=0 by omega]
 have J:(jW (ot l)).take l.length=l:=by
  rw[z,wR,ba,List.take_left]
 unfold jk;rw[U,J,aB ⟨y,G,rfl⟩]
def WT (h c:Nat):Nat:=(h ^^^ c)*16777619%4294967296
def Nt (h W:Nat):Nat:=(jW W).foldl WT h
def Hh (l:List Nat):Nat:=l.foldl Nt 2166136261
theorem X4 (h c:Nat):WT h c<4294967296:=gi _ (by decide)
theorem wT (l:List Nat):∀h,h<4294967296->l.foldl WT h<4294967296:=by
 induction l with
 |nil=>intro h y;exact y
 |cons c l ih=>intro h _;exact ih _ (X4 h c)
theorem Uy (h W:Nat)(y:h<4294967296):Nt h W<4294967296:=wT _ _ y
theorem uU (l:List Nat):∀h,h<4294967296->l.foldl Nt h<4294967296:=by
 induction l with
 |nil=>intro h y;exact y
 |cons c l ih=>intro h y;exact ih _ (Uy h c y)
theorem FA (l:List Nat):Hh l<4294967296:=uU l _ (by decide)
def ja (ps:List (Int×Int)) (j:Nat):Int:=(ps.getD j (0,0)).1
def nY (ps:List (Int×Int)) (j:Nat):Int:=(ps.getD j (0,0)).2
theorem oX (ps:List (Int×Int))(k:Nat)(h:k<ps.length):ps.take (k+1)=ps.take k++[(ja ps k,nY ps k)]:=by
 have e:(ja ps k,nY ps k)=ps[k]:=by simp[ja,nY,h]
 rw[e];exact bz h
theorem Bg (ps:List (Int×Int))(k:Nat)(h:k<ps.length):(ja ps k,nY ps k)∈ps:=by
 have :(ja ps k,nY ps k)=ps[k]:=by simp[ja,nY,h]
 rw[this];exact bA h
def az (xs:List Int) (ps:List (Int×Int)):List Int:=ps.foldl (λa p=>a.set p.1.toNat p.2) xs
theorem vI (xs:List Int):az xs []=xs:=rfl
theorem bJ (xs:List Int)(ps qs:List (Int×Int)):az xs (ps++qs)=az (az xs ps) qs:=by simp[az,List.foldl_append]
theorem oY (xs:List Int)(a x:Int):az xs [(a,x)]=xs.set a.toNat x:=rfl
theorem bY (ps:List (Int×Int)):∀xs,(az xs ps).length=xs.length:=by
 induction ps with
 |nil=>intro xs;rfl
 |cons p ps ih=>intro xs;show(az (xs.set p.1.toNat p.2) ps).length=_;rw[ih];simp
theorem yh (xs:List Int)(ps:List (Int×Int))(k:Nat)(h:k<ps.length):az xs (ps.take (k+1))=(az xs (ps.take k)).set (ja ps k).toNat (nY ps k):=by
 rw[oX ps k h,bJ];rfl
theorem getD_set_ne{l:List Int}(x:Int)(h:i≠j):(l.set i x).getD j 0=l.getD j 0:=by
 simp[List.getElem?_set_ne h]
theorem Hj{l:List Int}(x:Int)(h:i<l.length):(l.set i x).getD i 0=x:=by
 simp[h]
theorem wU{l:List Int}(x:Int):(l.set i x).getD j 0=if i=j/\j<l.length then x else l.getD j 0:=by
 by_cases h:i=j
 ·subst h
  by_cases y:i<l.length
  ·rw[Hj x y,aB ⟨rfl,y⟩]
  ·rw[aA (by omega),List.set_eq_of_length_le (by omega)]
 ·rw[getD_set_ne x h,aA (by omega)]
theorem iy (ps:List (Int×Int))(i:Nat):∀xs,(∀p∈ps,p.1.toNat≠i)->(az xs ps).getD i 0=xs.getD i 0:=by
 induction ps with
 |nil=>intro xs _;rfl
 |cons p ps ih=>
  intro xs h;show(az (xs.set p.1.toNat p.2) ps).getD i 0=_;rw[ih _ λq y=>h q (iq _ y),getD_set_ne _ (h p iO)]
def oZ (a:Int):Bool:=decide (0<=a)&&decide (a<3128)&&(decide (a<8)||decide (816<=a))
theorem kT{a:Int}:oZ a=true↔0<=a/\a<3128/\(a<8\/816<=a):=by
 simp[oZ,and_assoc]
def wV (ps:List (Int×Int)):Bool:=ps.all λp=>oZ p.1
theorem Nu (h:wV ps=true){p:Int×Int}(y:p∈ps):0<=p.1/\p.1<3128/\(p.1<8\/816<=p.1):=kT.1 (fg.1 h _ y)
def eH (ps:List (Int×Int)):List Int:=ps.flatMap λp=>[p.1%18446744073709551616,p.2]
theorem kU (ps:List (Int×Int)):(eH ps).length=2*ps.length:=by
 induction ps with
 |nil=>rfl
 |cons p ps ih=>simp[eH] at ih ⊢;omega
theorem Dk (ps qs:List (Int×Int)):eH (ps++qs)=eH ps++eH qs:=by simp[eH]
theorem yj (ps:List (Int×Int))(k:Nat)(h:k<ps.length):eH (ps.take (k+1))=eH (ps.take k)++[ja ps k%18446744073709551616,nY ps k]:=by
 rw[oX ps k h,Dk];rfl
theorem Kj (ps:List (Int×Int)):∀k,k<ps.length->(eH ps).getD (2*k) 0=ja ps k%18446744073709551616/\(eH ps).getD (2*k+1) 0=nY ps k:=by
 induction ps with
 |nil=>intro k h;simp at h
 |cons p ps ih=>
  intro k h;have y:eH (p::ps)=p.1%18446744073709551616::p.2::eH ps:=rfl;cases k with
  |zero=>rw[y];exact⟨rfl,rfl⟩
  |succ k=>
   have :=ih k (by simpa using h);rw[y];simp only[ja,nY,aj,show 2*(k+1)=2*k+1+1 by omega,cN] at this ⊢;exact this
def WU (ps:List (Int×Int)):Prop:=∀p∈ps,(-9223372036854775808<=p.1/\p.1<=9223372036854775807)/\0<=p.2/\p.2<=18446744073709551615
theorem Mu (h:WU ps){k:Nat}(y:k<ps.length):(-9223372036854775808<=ja ps k/\ja ps k<=9223372036854775807)/\0<=nY ps k/\nY ps k<=18446744073709551615:=h _ (Bg ps k y)
def Bh (xs:List Int):Prop:=∀x∈xs,0<=x/\x<=18446744073709551615
theorem Bi (h:WU ps):Bh (eH ps):=by
 intro x y;simp only[eH,List.mem_flatMap,aQ,aS,bD] at y;obtain⟨p,z,y⟩:=y;have :=h p z;omega
theorem Bj{xs:List Int}(h:Bh xs)(k:Nat):0<=xs.getD k 0/\xs.getD k 0<=18446744073709551615:=by
 rw[aj];cases hk:xs[k]? with
 |none=>simp
 |some x=>exact h x (List.mem_of_getElem? hk)
def j4 (ws:List Int) (m:Nat):Bool:=(List.range m).all λk=>oZ (ws.getD (2*k) 0)
theorem Bk (h:WU ps):j4 (eH ps) ps.length=wV ps:=by
 have G:∀k,k<ps.length->oZ ((eH ps).getD (2*k) 0)=oZ (ja ps k):=by
  intro k y;rw[(Kj ps k y).1,Bool.eq_iff_iff,kT,kT];have :=Mu h y;omega
 rw[Bool.eq_iff_iff];unfold j4 wV;rw[fg,fg];constructor
 ·intro z p J
  obtain⟨k,y,rfl⟩:=bU J;have :=z k (by simpa using y);rw[G k y] at this;simpa[ja,aj,y] using this
 ·intro z k y
  rw[bP] at y;rw[G k y];exact z _ (Bg ps k y)
def kQ (ws:List Int):List (Int×Int):=ws.mapIdx λk w=>((9+k:Int),w)
theorem lM (ws:List Int):(kQ ws).length=ws.length:=by simp[kQ]
theorem Hk{ws:List Int}{p:Int×Int}(h:p∈kQ ws):9<=p.1/\p.1<9+ws.length:=by
 obtain⟨k,y,rfl⟩:=bU h;have z:k<ws.length:=by simpa[kQ] using y
 simp[kQ];omega
def ou (ws:List Int):Int:=(ws.length/2:Nat)*4294967296+(Hh (ws.map Int.toNat):Nat)
def kN (f:List Int):Nat->Nat
 |0=>0
 |k+1=>kN f k+if f.getD k 0∈f.take k then 0 else 1
def gV (ps:List (Int×Int)):List Int:=ps.map λp=>p.1/8
def vJ (ps:List (Int×Int)):Nat:=kN (gV ps) ps.length
theorem Hl (ps:List (Int×Int))(k:Nat)(h:k<ps.length):(gV ps).getD k 0=ja ps k/8:=by
 simp[gV,ja,h]
theorem rh (ps:List (Int×Int))(k:Nat):(gV ps).take k=gV (ps.take k):=by simp[gV,List.map_take]
theorem FB (ps:List (Int×Int))(k:Nat)(h:k<ps.length):(gV ps).take (k+1)=(gV ps).take k++[ja ps k/8]:=by
 rw[rh,rh,oX ps k h];simp[gV]
theorem rp (f:List Int):∀k,kN f k<=k
 |0=>aG _
 |k+1=>by
  have :=rp f k;unfold kN;split<;>omega
def kO (ps:List (Int×Int)):Nat:=ps.length+vJ ps+1
def yl (ps:List (Int×Int)):Nat:=if ps=[] then 0 else kO (kQ (eH ps))+3+kO ps+3
theorem rq (ps:List (Int×Int)):kO ps<=2*ps.length+1:=by
 have :=rp (gV ps) ps.length;unfold kO vJ;omega
theorem Hm (a x:Int):kO [(a,x)]=3:=by simp[kO,vJ,kN]
theorem Nv (ps:List (Int×Int)):yl ps<=6*ps.length+8:=by
 have y:=rq ps;have h:=rq (kQ (eH ps));rw[lM,kU] at h;unfold yl;split<;>omega
def QQ (xs:List Int) (ps:List (Int×Int)):List Int:=az (az xs ps) [(8,0)]
def kZ (xs:List Int) (ps:List (Int×Int)):List Int:=if ps=[] then xs else QQ (az (az xs (kQ (eH ps))) [(8,ou (eH ps))]) ps
end Go.Proofs.YtepbpdipenedhaaGreatDoor
namespace Go.Proofs.YtepbpdipenedhaaGreatDoor
open Go.Proofs.Tryz
open Go.RowKit
variable{α:Type}{T b g gf gl gn i j n sz y:Nat}{l l':List Nat}{a w w':World}{c:Array Value}{row:Option Nat}{v:Value}{xs:List Value}{ps:List (Int×Int)}
def aO (l:List Int):List Value:=l.map (Value.int .u64)
def bools (l:List Bool):List Value:=l.map Value.bool
theorem cG{l:List Int}(h:j<l.length):(aO l)[j]? =some (.int .u64 (l.getD j 0)):=by simp[aO,h]
theorem qu{l:List Bool}(h:j<l.length):(bools l)[j]? =some (.bool (l.getD j false)):=by simp[bools,h]
theorem ku (l:List Int)(j:Nat)(x:Int):(aO l).set j (.int .u64 x)=aO (l.set j x):=by simp[aO,List.map_set]
theorem ym (l:List Bool)(j:Nat)(x:Bool):(bools l).set j (.bool x)=bools (l.set j x):=by simp[bools,List.map_set]
theorem aZ (l:List Int):(aO l).length=l.length:=by simp[aO]
theorem mY (l:List Bool):(bools l).length=l.length:=by simp[bools]
theorem eF (l:List Int):∀u∈aO l,u.oneCell'=true:=by
 intro u h;simp only[aO,bL] at h;obtain⟨x,-,rfl⟩:=h;rfl
theorem Ee (n:Nat):List.replicate n (Value.int .u64 0)=aO (List.replicate n 0):=by simp[aO]
theorem ma (xs h:List Int):aO (xs++h)=aO xs++aO h:=by simp[aO]
theorem gy{xs:List Int}(h:Reads w v g (aO xs)):∃a cap,v= .slice a xs.length cap/\xs.length<=cap/\cap<=maxLen/\
  Hid (∀k,k<xs.length->g<w.heap.size/\∃off,a=some ⟨g,off,none⟩/\w.cell? ⟨g,off+k,none⟩=some (.int .u64 (xs.getD k 0))):=by
 obtain⟨a,cap,U,V,z,G⟩:=h;rw[aZ] at *;refine⟨a,cap,U,V,z,λk y=> ?_⟩;obtain⟨W,off,Z,J⟩:=G (by intro e;have :=b8 List.length e;rw[aZ,b9] at this;omega);exact⟨W,off,Z,(J k y).trans (cG y)⟩
theorem Reads.anyG(h:Reads w v g xs)(z:xs=[])(J:Nat):Reads w v J xs:=by
 obtain⟨a,cap,U,y,G,V⟩:=h;exact⟨a,cap,U,y,G,λh=>absurd z h⟩
def lF (w:World) (v:Value) (g:Nat) (ps:List (Int×Int)):Prop:=
 ∃a cap,v= .slice a ps.length cap/\ps.length<=cap/\cap<=maxLen/\(ps.length≠0->g<w.heap.size/\∃off,a=some ⟨g,off,none⟩/\
  ∀j,j<ps.length->w.cell? ⟨g,off+j*2,none⟩=some (.int .i64 (ja ps j))/\w.cell? ⟨g,off+j*2+1,none⟩=some (.int .u64 (nY ps j)))
theorem lF.keep(h:lF w v g ps){l:List Nat}(V:ay l w w')(hg:ps.length≠0->g∉l):lF w' v g ps:=by
 obtain⟨a,cap,h1,W,Z,h4⟩:=h;refine⟨a,cap,h1,W,Z,λz=> ?_⟩;obtain⟨y,off,h5,U⟩:=h4 z;refine⟨bt y V.size,off,h5,λj J=> ?_⟩;have G:=V.block g y (hg z);exact⟨(aK (w:=w) (w':=w') (a:=⟨g,off+j*2,none⟩) G).trans (U j J).1,(aK (w:=w) (w':=w') (a:=⟨g,off+j*2+1,none⟩) G).trans (U j J).2⟩
theorem lF.val(h:lF w v g ps):∃a cap,v= .slice a ps.length cap/\ps.length<=cap/\cap<=maxLen:=by
 obtain⟨a,cap,G,y,z,J⟩:=h;exact⟨a,cap,G,y,z⟩
theorem lF.get{a:Option Addr}{cap:Nat}(h:lF w (.slice a n cap) g ps){j:Nat}(G:j<ps.length):
  g<w.heap.size/\∃off,a=some ⟨g,off,none⟩/\w.cell? ⟨g,off+j*2,none⟩=some (.int .i64 (ja ps j))/\w.cell? ⟨g,off+j*2+1,none⟩=some (.int .u64 (nY ps j)):=by
 obtain⟨a',y,U,Z,h3,W⟩:=h;cases U;obtain⟨z,off,J,V⟩:=W (by omega);exact⟨z,off,J,V j G⟩
def iz (ps:List (Int×Int)):List Value:=ps.flatMap λp=>[.int .i64 p.1,.int .u64 p.2]
theorem o5 (ps:List (Int×Int)):(iz ps).length=ps.length*2:=by
 induction ps with
 |nil=>rfl
 |cons p ps ih=>simp[iz] at ih ⊢;omega
theorem qf (ps qs:List (Int×Int)):iz (ps++qs)=iz ps++iz qs:=by simp[iz]
theorem mZ (ps:List (Int×Int)):∀k,k<ps.length->(iz ps)[k*2]? =some (.int .i64 (ja ps k))/\(iz ps)[k*2+1]? =some (.int .u64 (nY ps k)):=by
 induction ps with
 |nil=>intro k h;simp at h
 |cons p ps ih=>
  intro k h;have y:iz (p::ps)= .int .i64 p.1:: .int .u64 p.2::iz ps:=rfl;cases k with
  |zero=>rw[y];exact⟨rfl,rfl⟩
  |succ k=>
   have :=ih k (by simpa using h);rw[y,show(k+1)*2=k*2+1+1 by omega];simp only[cN];exact this
theorem eQ.preads(h:eQ w v g T 2 ps.length (iz ps)):lF w v g ps:=by
 obtain⟨a,cap,G,Z,U⟩:=h.val;refine⟨a,cap,G,Z,U,λW=> ?_⟩;obtain⟨hg,⟨J,y,-,-⟩,z,-⟩:=h.cell W;rw[G] at y;cases y;refine⟨hg,0,rfl,λj V=> ?_⟩;rw[aV,z (j*2) (by omega),z (j*2+1) (by omega)];exact mZ ps j V
def iK (w:World) (ws:List Int) (e:Ending) (w':World):Prop:=
 ∃v g,e= .returned v/\Reads w' v g (aO ws)/\w.heap.size<=g/\ay [] w w'
theorem iX (w:World)(cs:List Value)(T m:Nat)(h:m=w.heap.size):∀j u,cs[j]? =some u->(w.alloc (.cells cs.toArray T)).cell? ((⟨m,0,none⟩:Addr).add j)=some u:=by
 intro j u y;subst h;rw[add_plain,(bf.new w cs.toArray T).cell,aV];simpa using y
def ky (w:World) (ps:List (Int×Int)) (e:Ending) (w':World):Prop:=
 ∃v g,e= .returned v/\lF w' v g ps/\w.heap.size<=g/\ay [] w w'
theorem zq (n:Nat):(madeCells #[Value.int .i64 0,Value.int .u64 0] (n*2)).toList=iz (List.replicate n (0,0)):=by
 apply bW;intro j;simp only[madeCells,Array.toList_map,Array.toList_range,bC];by_cases z:j<n*2
 ·rw[bV z]
  have y:=mZ (List.replicate n ((0:Int),(0:Int))) (j/2) (by simp;omega);have G:ja (List.replicate n ((0:Int),(0:Int))) (j/2)=0:=by
   simp[ja,bb];split<;>rfl
  have J:nY (List.replicate n ((0:Int),(0:Int))) (j/2)=0:=by
   simp[nY,bb];split<;>rfl
  rw[G,J] at y;rcases (show j%2=0\/j%2=1 by omega) with h|h
  ·rw[show j/2*2=j by omega] at y
   rw[y.1];simp[h]
  ·rw[show j/2*2+1=j by omega] at y
   rw[y.2];simp[h]
 ·rw[aP (by simpa using z),aP (by rw[o5,bj];omega)];rfl
theorem Kk (l:List (Int×Int))(a x:Int):∀k,((iz l).set (k*2) (.int .i64 a)).set (k*2+1) (.int .u64 x)=iz (l.set k (a,x)):=by
 induction l with
 |nil=>intro k;rfl
 |cons p l ih=>
  intro k;have h:∀(p:Int×Int) l,iz (p::l)= .int .i64 p.1:: .int .u64 p.2::iz l:=λ_ _=>rfl
  cases k with
  |zero=>rfl
  |succ k=>rw[h,ai,h,<-ih k,show(k+1)*2=k*2+1+1 by omega];rfl
def dn {α:Type} (z:α) (l:List α) (k:Nat):List α:=l.take k++List.replicate (l.length-k) z
theorem jA (z:α)(l:List α):dn z l 0=List.replicate l.length z:=by simp[dn]
theorem j5 (z:α)(l:List α):dn z l l.length=l:=by simp[dn]
theorem jG (z:α)(l:List α)(k:Nat)(h:k<=l.length):(dn z l k).length=l.length:=by simp[dn];omega
theorem jB (z:α)(l:List α)(k:Nat)(h:k<l.length)(x:α)(y:l[k]=x):(dn z l k).set k x=dn z l (k+1):=by
 subst y;unfold dn;rw[bz h,show l.length-k=(l.length-(k+1))+1 by omega,List.replicate_succ,ba];rw[cQ _ _ (by simp;omega)]
 congr 1
 rw[aI,cA (by omega),Nat.sub_self];rfl
theorem eQ.pair{l:List (Int×Int)}(h:eQ w v g T 2 n (iz l))(k:Nat)(a x:Int):
  eQ ((w.setCell ⟨g,k*2,none⟩ (.int .i64 a)).setCell ⟨g,k*2+1,none⟩ (.int .u64 x)) v g T 2 n (iz (l.set k (a,x))):=by
 have :=(h.set (k*2) (.int .i64 a)).set (k*2+1) (.int .u64 x);rw[Kk] at this;exact this
theorem ky.mk(h:eQ w' v g T 2 n (iz ps))(G:n=ps.length)(y:w.heap.size<=g)(z:ay [] w w'):ky w ps (.returned v) w':=by
 subst G;exact⟨v,g,rfl,h.preads,y,z⟩
def J9 (ps:List (Int×Int)) (n:Nat):Prop:=∀p∈ps,0<=p.1/\p.1<n
theorem wW (h:J9 ps n){k:Nat}(y:k<ps.length):0<=ja ps k/\ja ps k<n:=h _ (Bg ps k y)
theorem cz (h:w.ownsRow y T sz v n xs):∀k,v.ownBlock=some k->y<=k:=by
 obtain⟨h0,J⟩:=h;intro k z;rcases J with ⟨rfl,rfl⟩|⟨g,cap,G,rfl,U,V,W,Z,h4,h5⟩
 ·cases z
 ·cases z;exact U
theorem ay.grown{wr G:World}(h:ay [] w wr)(y:wr.grownBy G row)(U:∀k,row=some k->w.heap.size<=k):ay [] w G:=
 ⟨y.os.trans h.os,y.tape.trans h.tape,y.output.trans h.output,cJ h.size y.size,λk z J=>
  (y.block k (bt z h.size) λe=>by have :=U k e.symm;omega).trans (h.block k z J)⟩
theorem ct (h:w.ownsRow y T sz v n xs){l:List Nat}(Z:ay l w w')(hn:∀k,v.ownBlock=some k->k∉l):w'.ownsRow y T sz v n xs:=by
 obtain⟨W,V⟩:=h;refine⟨W,?_⟩;rcases V with ⟨rfl,rfl⟩|⟨g,cap,z,rfl,hg,G,J,U,h4,h5⟩
 ·exact .inl ⟨rfl,rfl⟩
 ·refine .inr ⟨g,cap,z,rfl,hg,?_,J,U,h4,h5⟩
  rw[<-G];exact Z.block g (Array.getElem?_eq_some_iff.1 G).1 (hn g rfl)
theorem ic (h:w.ownsRow y T sz v n xs):∃a cap,v= .slice a n cap/\n<=cap/\cap<=maxLen:=by
 obtain⟨g,z,-⟩:=eQ.of_row h;exact z.val
theorem Tryz.info_u64:(prog.info? 56).map (λi=>(i.zero,i.size,i.bytes))=some (some (.int .u64 0),1,8):=by kernel_rfl
theorem wX (n:Nat)(W:n<=100000)(m:Int)(J:m=(n:Int))(k:Nat)(V:k=0\/k=n)(w:World):(Instr.makeSlice 71 (.int .i64 (k:Int)) (.int .i64 m)).run prog w=
  .ok (.slice (some ⟨w.heap.size,0,none⟩) k n) (w.alloc (.cells (madeCells #[.int .u64 0] n) 56)):=by
 subst J;obtain⟨U,G,h,y,z⟩:=cr Tryz.info_u64;have :=run_make (P:= prog) w 71 56 U _ underlying71 G h .i64 .i64 (k:Int) (n:Int) (by omega) (by omega) (by rw[z];omega) (by omega);rw[y,aJ,aJ,Nat.mul_one] at this;exact this
structure iN where
 now:List Int
 last:List Int
 fl:List Bool
 deeds:Int
 fused:Bool
 left:Int
structure dQ (w:World) (b gn gl gf:Nat) (s:iN):Prop where
 n9:s.now.length<=10000
 ll:s.last.length=s.now.length
 fll:s.fl.length=(s.now.length+7)/8*8
 apart:s.now.length≠0->(gn≠b/\gl≠b/\gf≠b)/\gn≠gl/\gn≠gf/\gl≠gf
 at_:∃vn vl vf,bf w b #[vn,vl,vf,.int .i64 s.deeds,.bool s.fused,.int .i64 s.left] 95/\
  eQ w vn gn 56 1 s.now.length (aO s.now)/\eQ w vl gl 56 1 s.now.length (aO s.last)/\
  eQ w vf gf 97 8 ((s.now.length+7)/8) (bools s.fl)
theorem dQ.keep{s:iN}(h:dQ w b gn gl gf s){l:List Nat}(y:ay l w w')(J:b∉l)(z:s.now.length≠0->gn∉l/\gl∉l/\gf∉l):dQ w' b gn gl gf s:=by
 obtain⟨n9,ll,fll,G,V,W,U,a,c,d,e⟩:=h;exact⟨n9,ll,fll,G,V,W,U,a.keep y J,c.keepIf y λh=>(z h).1,d.keepIf y λh=>(z h).2.1,e.keepIf y λh=>(z (by omega)).2.2⟩
def iN.gone (s:iN):Bool:=s.fused&&s.left==0
def iN.refusal (s:iN) (i:Int):Int:=if s.gone=true then 9 else if i<0\/(s.now.length:Int)<=i then 1 else 0
def iN.count (s:iN):iN:={ s with deeds:=s.deeds+1,left:=if s.fused=true then s.left-1 else s.left }
def iN.fit (s:iN):Prop:=0<=s.deeds/\s.deeds<4611686018427387904/\0<=s.left/\s.left<=9223372036854775807
theorem QR (b:Nat)(fused:Bool)(left:Int)(w:World)
  (h:w.cell? ⟨b,4,none⟩=some (.bool fused)) (y:w.cell? ⟨b,5,none⟩=some (.int .i64 left)):
  Calls prog 88 #[.pointer (some ⟨b,0,none⟩)] w λe w'=>e= .returned (.bool (fused&&left==0))/\w=w':=by
 cases fused
 ·go_enter func88,ntmps88
  go_wp2;go_ret;exact⟨rfl,rfl⟩
 ·go_enter func88,ntmps88
  go_wp2;go_ret;exact⟨rfl,rfl⟩
theorem FC{s:iN}(h:dQ w b gn gl gf s):
  Calls prog 88 #[.pointer (some ⟨b,0,none⟩)] w λe w'=>e= .returned (.bool s.gone)/\w=w':=by
 obtain⟨G,z,y,a,c,d,e⟩:=h.at_;exact QR b s.fused s.left w (by rw[a.cell];rfl) (by rw[a.cell];rfl)
theorem vK{s:iN}(h:dQ w b gn gl gf s)(i:Int):
  Calls prog 39 #[.pointer (some ⟨b,0,none⟩),.int .i64 i] w λe w'=>e= .returned (.int .i64 (s.refusal i))/\w=w':=by
 have G:=FC h;have J:=h.n9;obtain⟨vn,vl,vf,a,c,d,e⟩:=h.at_;obtain⟨Z,U,rfl,_,_⟩:=c.val;have h0:w.cell? ⟨b,0,none⟩=some (.slice Z s.now.length U):=by rw[a.cell];rfl
 clear a c d e h;unfold iN.refusal;generalize s.gone=g at *;generalize s.now.length=n at *;have y:=ar G;clear G;cases g
 ·by_cases z:i<0
  ·rw[aA (by simp),aB (.inl z)]
   go_enter func39,ntmps39;go_wp2_with(go_at_call 88;refine y.out.mono ?_;rintro e w' ⟨rfl,rfl⟩);go_ret;exact⟨rfl,rfl⟩
  ·by_cases W:(n:Int)<=i
   ·rw[aA (by simp),aB (.inr W)]
    have V:decide (i<0)=false:=by simpa using z
    go_enter func39,ntmps39;go_wp2_with(go_at_call 88;refine y.out.mono ?_;rintro e w' ⟨rfl,rfl⟩);go_ret;exact⟨rfl,rfl⟩
   ·rw[aA (by simp),aA (by omega)]
    have V:decide (i<0)=false:=by simpa using z
    go_enter func39,ntmps39;go_wp2_with(go_at_call 88;refine y.out.mono ?_;rintro e w' ⟨rfl,rfl⟩);go_ret;exact⟨rfl,rfl⟩
 ·rw[aB rfl]
  go_enter func39,ntmps39;go_wp2_with(go_at_call 88;refine y.out.mono ?_;rintro e w' ⟨rfl,rfl⟩);go_ret;exact⟨rfl,rfl⟩
theorem Kl{s:iN}(h:dQ w b gn gl gf s):
  Calls prog 46 #[.pointer (some ⟨b,0,none⟩)] w λe w'=>e= .returned (.int .i64 (s.now.length:Int))/\w=w':=by
 obtain⟨U,V,J,a,c,d,e⟩:=h.at_;obtain⟨z,y,rfl,_,_⟩:=c.val;have G:w.cell? ⟨b,0,none⟩=some (.slice z s.now.length y):=by rw[a.cell];rfl
 clear a c d e h;generalize s.now.length=n at *;go_enter func46,ntmps46;go_wp2;go_ret;exact⟨rfl,rfl⟩
theorem dQ.six{s z:iN}(h:dQ w b gn gl gf s)(W:ay [b] w w')
  (hs:z.now=s.now/\z.last=s.last/\z.fl=s.fl)
  (hb:∀U V J,bf w b #[U,V,J,.int .i64 s.deeds,.bool s.fused,.int .i64 s.left] 95->bf w' b #[U,V,J,.int .i64 z.deeds,.bool z.fused,.int .i64 z.left] 95):dQ w' b gn gl gf z:=by
 obtain⟨n9,ll,fll,G,U,V,J,a,c,d,e⟩:=h;obtain⟨y,e2,Z⟩:=hs;refine⟨by rw[y];exact n9,by rw[y,e2];exact ll,by rw[y,Z];exact fll,by rw[y];exact G,U,V,J,hb _ _ _ a,?_,?_,?_⟩
 ·rw[y];exact c.keepIf W λh=>by simpa using (G h).1.1
 ·rw[y,e2];exact d.keepIf W λh=>by simpa using (G h).1.2.1
 ·rw[y,Z];exact e.keepIf W λh=>by simpa using (G (by omega)).1.2.2
theorem Bl{s:iN}(h:dQ w b gn gl gf s)(Z:s.fit)(V:s.gone=false):
  Calls prog 40 #[.pointer (some ⟨b,0,none⟩)] w λe w'=>e= .returned (.tuple #[])/\dQ w' b gn gl gf s.count/\ay [b] w w':=by
 obtain⟨f1,f2,f3,f4⟩:=Z;obtain⟨J,U,G,a,-,-,-⟩:=h.at_;have h3:w.cell? ⟨b,3,none⟩=some (.int .i64 s.deeds):=by rw[a.cell];rfl
 have W:w.cell? ⟨b,4,none⟩=some (.bool s.fused):=by rw[a.cell];rfl
 have h5:w.cell? ⟨b,5,none⟩=some (.int .i64 s.left):=by rw[a.cell];rfl
 have g3:w.frozen? ⟨b,3,none⟩=false:=a.frozen 3;have g5:w.frozen? ⟨b,5,none⟩=false:=a.frozen 5;clear a J U G;have H:=ar h;clear h;have HG:=ar V;clear V;cases Uc:s.fused
 ·rw[Uc] at W
  have z:=ar Uc;clear Uc;go_enter func40,ntmps40;go_wp2;go_end0;have y:ay [b] w (w.setCell ⟨b,3,none⟩ (.int .i64 (s.deeds+1))):=(ay.refl _ _).setCell (by simp) _;refine⟨rfl,H.out.six y ⟨rfl,rfl,rfl⟩ λJ U G a=> ?_,y⟩;simpa[iN.count,z.out] using a.set 3 (.int .i64 (s.deeds+1))
 ·rw[Uc] at W
  have hl:s.left≠0:=by
   intro e;have :=HG.out;simp[iN.gone,Uc,e] at this
  have z:=ar Uc;clear Uc;go_enter func40,ntmps40;go_wp2;go_end0;have y:ay [b] w ((w.setCell ⟨b,3,none⟩ (.int .i64 (s.deeds+1))).setCell ⟨b,5,none⟩ (.int .i64 (s.left-1))):=((ay.refl _ _).setCell (by simp) _).setCell (by simp) _;refine⟨rfl,H.out.six y ⟨rfl,rfl,rfl⟩ λJ U G a=> ?_,y⟩;simpa[iN.count,z.out] using (a.set 3 (.int .i64 (s.deeds+1))).set 5 (.int .i64 (s.left-1))
def iN.load (s:iN) (i:Int):Int:=if s.refusal i=0 then s.now.getD i.toNat 0 else 0
def iN.store (s:iN) (i x:Int):iN:=if s.refusal i=0 then { s.count with now:=s.now.set i.toNat x,fl:=s.fl.set i.toNat false } else s
theorem iN.refusal_ok{s:iN}{i:Int}(h:s.refusal i=0):s.gone=false/\0<=i/\i<s.now.length:=by
 unfold iN.refusal at h;cases hg:s.gone<;>simp[hg] at h
 exact⟨rfl,by omega,by omega⟩
theorem Mv{s:iN}(h:dQ w b gn gl gf s)(i:Int):
  Calls prog 52 #[.pointer (some ⟨b,0,none⟩),.int .i64 i] w λe w'=>e= .returned (.tuple #[.int .u64 (s.load i),.int .i64 (s.refusal i)])/\w=w':=by
 have z:=ar (vK h i);by_cases y:s.refusal i=0
 ·obtain⟨-,V,W⟩:=iN.refusal_ok y
  obtain⟨i,rfl⟩:=b7 V;have J:=h.n9;obtain⟨vn,vl,vf,a,c,-,-⟩:=h.at_;obtain⟨-,⟨U,rfl,q1,q2⟩,q3,-⟩:=c.cell (by omega);have k0:w.cell? ⟨b,0,none⟩=some (.slice (some ⟨gn,0,none⟩) s.now.length U):=by rw[a.cell];rfl
  have Z:w.cell? ⟨gn,i,none⟩=some (.int .u64 (s.load (i:Int))):=by rw[q3 i (by omega),cG (by omega),iN.load,aB y];rfl
  clear a c q3 h;rw[y] at z ⊢;clear y;generalize s.load i=x at *;generalize s.now.length=n at *;go_enter func52,ntmps52;go_wp2_with(go_at_call 39;refine z.out.mono ?_;rintro e w' ⟨rfl,rfl⟩);go_ret2;exact⟨rfl,rfl⟩
 ·have G:s.load i=0:=by rw[iN.load,aA y]
  rw[G];have h1:(s.refusal i != 0)=true:=by simpa using y
  generalize s.refusal i=r at *;clear h G y;go_enter func52,ntmps52;go_wp2_with(go_at_call 39;refine z.out.mono ?_;rintro e w' ⟨rfl,rfl⟩);go_ret2;exact⟨rfl,rfl⟩
theorem dQ.store{s:iN}(h:dQ w b gn gl gf s)(W:s.now.length≠0)(i:Nat)(x:Int):
  dQ ((w.setCell ⟨gn,i,none⟩ (.int .u64 x)).setCell ⟨gf,i,none⟩ (.bool false)) b gn gl gf { s with now:=s.now.set i x,fl:=s.fl.set i false }:=by
 obtain⟨n9,ll,fll,y,V,vl,U,a,c,d,e⟩:=h;obtain⟨⟨Z,p2,G⟩,p4,z,J⟩:=y W;refine⟨by simpa using n9,by simpa using ll,by simpa using fll,by simpa using y,V,vl,U,?_,?_,?_,?_⟩
 ·exact(a.other (a:=⟨gn,i,none⟩) (eu Z) _).other (a:=⟨gf,i,none⟩) (eu G) _
 ·have :=(c.set i (.int .u64 x)).keep (((ay.refl [gf] _).setCell (p:=⟨gf,i,none⟩) (by simp) (.bool false))) (by simpa using z)
  simpa[ku] using this
 ·have :=(d.keep ((ay.refl [gn] _).setCell (p:=⟨gn,i,none⟩) (by simp) (.int .u64 x)) (by simpa using eu p4)).keep (((ay.refl [gf] _).setCell (p:=⟨gf,i,none⟩) (by simp) (.bool false))) (by simpa using J)
  simpa using this
 ·have :=(e.keep ((ay.refl [gn] _).setCell (p:=⟨gn,i,none⟩) (by simp) (.int .u64 x)) (by simpa using eu z)).set i (.bool false)
  simpa[ym] using this
theorem Hn{s:iN}(h:dQ w b gn gl gf s)(U:s.fit)(i x:Int):
  Calls prog 18 #[.pointer (some ⟨b,0,none⟩),.int .i64 i,.int .u64 x] w λe w'=>e= .returned (.int .i64 (s.refusal i))/\dQ w' b gn gl gf (s.store i x)/\ay [b,gn,gl,gf] w w':=by
 have G:=ar (vK h i);by_cases y:s.refusal i=0
 ·obtain⟨hg,i0,i1⟩:=iN.refusal_ok y
  rw[iN.store,aB y];obtain⟨i,rfl⟩:=b7 i0;rw[y] at G ⊢;have aa:=h.n9;have hc:=ar (Bl h U hg);clear y h U;go_enter func18,ntmps18;go_wp2_with fail;refine G.out.mono ?_;rintro e w' ⟨rfl,rfl⟩;go_wp2_with fail;refine hc.out.mono ?_;rintro e z ⟨rfl,h,hk⟩;obtain⟨vn,vl,vf,a,c,d,e⟩:=h.at_;have ec:s.count.now.length=s.now.length:=rfl;obtain⟨-,⟨cn,rfl,q1,q2⟩,q3,Z⟩:=c.cell (by omega);obtain⟨-,⟨cf,rfl,r1,r2⟩,V,r4⟩:=e.cell (by omega);have ap:=(h.apart (by omega)).2.2.1;have k0:z.cell? ⟨b,0,none⟩=some (.slice (some ⟨gn,0,none⟩) s.now.length cn):=by rw[a.cell];rfl
  have k1:z.cell? ⟨gn,i,none⟩=some (.int .u64 (s.now.getD i 0)):=by rw[q3 i (by omega),cG (by omega)];rfl
  have k2:z.frozen? ⟨gn,i,none⟩=false:=Z i;have k3:(z.setCell ⟨gn,i,none⟩ (.int .u64 x)).cell? ⟨b,2,none⟩=some (.slice (some ⟨gf,0,none⟩) ((s.now.length+7)/8) cf):=by
   rw[(a.other (a:=⟨gn,i,none⟩) (eu (h.apart (by omega)).1.1) _).cell];rfl
  have J:i/8*8+i%8=i:=by omega
  have k4:z.cell? ⟨gf,i/8*8+i%8,none⟩=some (.bool (s.fl.getD i false)):=by
   have :=h.fll;rw[J,V i (by omega),qu (by omega)];rfl
  have k5:z.frozen? ⟨gf,i/8*8+i%8,none⟩=false:=r4 _;have W:=h.store (by omega) i x;have HE:=ar J;have HS:=ar W;clear a c d e q3 V Z r4 J W;go_wp2_with fail;go_ret;refine⟨rfl,?_,((hk.mono (by simp)).setCell (by simp) _).setCell (by simp) _⟩;rw[HE.out];exact HS.out
 ·rw[iN.store,aA y]
  have h1:(s.refusal i != 0)=true:=by simpa using y
  have H:=ar h;generalize s.refusal i=r at *;clear h y;go_enter func18,ntmps18;go_wp2_with(go_at_call 39;refine G.out.mono ?_;rintro e w' ⟨rfl,rfl⟩);go_ret;exact⟨rfl,H.out,ay.refl _ _⟩
def QS (l:List Int):List Value:=l.map (Value.int .u8)
theorem Uz (l:List Int):(QS l).length=l.length:=by simp[QS]
end Go.Proofs.YtepbpdipenedhaaGreatDoor
