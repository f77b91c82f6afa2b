/- Lemmas. -/
import Derived.WalkKit
import Derived.WalkSpells
import Derived.Deep.QuietTactic
import Derived.Lib.Hide
import Derived.ProofKit
import Derived.OpenShut
import Derived.Deep.Slices
import Derived.Laws.BitsAllLaws
import Derived.WalkLawsBesides
import Derived.Laws.AppendOwn
import Derived.Test.YtcecbdeamjigiaaGreatDoorRows
import Derived.BigQuiet
set_option maxHeartbeats 1000000
namespace Go.Proofs.YtcecbdeamjigiaaGreatDoor
open Go.RowKit
variable{α:Type}{G J T b g gf gl gn i j n y z:Nat}{l l':List Nat}{a w w':World}{c:Array Value}{row:Option Nat}{v:Value}{xs:List Value}{ps:List (Int×Int)}
theorem ag{α:Type _}(l:List α)(i:Nat)(a:α):l.toArray.setIfInBounds i a=(l.set i a).toArray:=List.setIfInBounds_toArray l i a
theorem ah{α:Type _}(x:α)(l:List α)(a:α):(x::l).set 0 a=a::l:=rfl
theorem ai{α:Type _}(x:α)(l:List α)(n:Nat)(a:α):(x::l).set (n+1) a=x::l.set n a:=rfl
theorem aj{α:Type _}{l:List α}{a:α}:l.getD i a=l[i]?.getD a:=List.getD_eq_getElem?_getD
theorem ar{p:Prop}(h:p):Hid p:=Lib.hid h
theorem aG:type_of% @Nat.le_refl:=@Nat.le_refl
theorem cu:type_of% @Nat.le_trans:=@Nat.le_trans
theorem bC:type_of% @Nat.lt_of_lt_of_le:=@Nat.lt_of_lt_of_le
theorem au.{u}:type_of% @List.mem_singleton.{u}:=@List.mem_singleton.{u}
theorem aL:type_of% @Go.World.cell?_of_block:=@Go.World.cell?_of_block
theorem bN.{u}:type_of% @List.getElem?_take.{u}:=@List.getElem?_take.{u}
theorem aB.{u}:type_of% @if_pos.{u}:=@if_pos.{u}
theorem bg.{u}:type_of% @List.eq_nil_of_length_eq_zero.{u}:=@List.eq_nil_of_length_eq_zero.{u}
theorem dz.{u}:type_of% @Array.getElem?_toList.{u}:=@Array.getElem?_toList.{u}
theorem cY:type_of% @Go.run_underlying:=@Go.run_underlying
theorem df.{u}:type_of% @Array.length_toList.{u}:=@Array.length_toList.{u}
theorem dH:type_of% @Nat.add_zero:=@Nat.add_zero
theorem eX.{u}:type_of% @List.take_zero.{u}:=@List.take_zero.{u}
theorem bW.{u}:type_of% @List.nil_append.{u}:=@List.nil_append.{u}
theorem aX:type_of% @Nat.zero_add:=@Nat.zero_add
theorem bU.{u}:type_of% @List.size_toArray.{u}:=@List.size_toArray.{u}
theorem aF.{u}:type_of% @List.length_append.{u}:=@List.length_append.{u}
theorem bu.{u}:type_of% @List.length_drop.{u}:=@List.length_drop.{u}
theorem b8.{u}:type_of% @List.ext_getElem?.{u}:=@List.ext_getElem?.{u}
theorem er.{u}:type_of% @List.getElem?_set.{u}:=@List.getElem?_set.{u}
theorem fJ:type_of% @Nat.mod_lt:=@Nat.mod_lt
theorem bB.{u,v}:type_of% @List.mem_map.{u,v}:=@List.mem_map.{u,v}
theorem bH.{u}:type_of% @List.length_cons.{u}:=@List.length_cons.{u}
theorem gJ.{u}:type_of% @List.mem_cons_of_mem.{u}:=@List.mem_cons_of_mem.{u}
theorem iv.{u}:type_of% @List.mem_cons_self.{u}:=@List.mem_cons_self.{u}
theorem bt.{u}:type_of% @List.take_succ_eq_append_getElem.{u}:=@List.take_succ_eq_append_getElem.{u}
theorem aI.{u}:type_of% @List.length_take.{u}:=@List.length_take.{u}
theorem cy:type_of% @Nat.min_eq_left:=@Nat.min_eq_left
theorem bA.{u}:type_of% @List.mem_of_mem_take.{u}:=@List.mem_of_mem_take.{u}
theorem aP.{u}:type_of% @List.mem_append.{u}:=@List.mem_append.{u}
theorem bh.{u}:type_of% @List.length_replicate.{u}:=@List.length_replicate.{u}
theorem aO.{u}:type_of% @List.getElem?_eq_none.{u}:=@List.getElem?_eq_none.{u}
theorem aM.{u}:type_of% @List.getElem?_append_right.{u}:=@List.getElem?_append_right.{u}
theorem bf.{u}:type_of% @List.append_assoc.{u}:=@List.append_assoc.{u}
theorem bp.{u}:type_of% @List.getElem_mem.{u}:=@List.getElem_mem.{u}
theorem aA.{u}:type_of% @if_neg.{u}:=@if_neg.{u}
theorem gK.{u}:type_of% @List.set_eq_of_length_le.{u}:=@List.set_eq_of_length_le.{u}
theorem eP.{u}:type_of% @List.all_eq_true.{u}:=@List.all_eq_true.{u}
theorem dS.{u}:type_of% @List.getElem?_cons_succ.{u}:=@List.getElem?_cons_succ.{u}
theorem aS.{u}:type_of% @List.mem_cons.{u}:=@List.mem_cons.{u}
theorem aV.{u}:type_of% @List.not_mem_nil.{u}:=@List.not_mem_nil.{u}
theorem bL:type_of% @or_false:=@or_false
theorem bR.{u}:type_of% @List.getElem_of_mem.{u}:=@List.getElem_of_mem.{u}
theorem bS:type_of% @List.mem_range:=@List.mem_range
theorem jR.{u,v}:type_of% @List.map_take.{u,v}:=@List.map_take.{u,v}
theorem ck.{u,v}:type_of% @congrArg.{u,v}:=@congrArg.{u,v}
theorem cp.{u}:type_of% @List.length_nil.{u}:=@List.length_nil.{u}
theorem bD.{u,v}:type_of% @List.getElem?_map.{u,v}:=@List.getElem?_map.{u,v}
theorem b7:type_of% @List.getElem?_range:=@List.getElem?_range
theorem aY.{u}:type_of% @List.getElem?_replicate.{u}:=@List.getElem?_replicate.{u}
theorem cZ.{u}:type_of% @List.set_append_right.{u}:=@List.set_append_right.{u}
theorem iT:type_of% @Nat.sub_self:=@Nat.sub_self
theorem cJ:type_of% @Go.info_parts:=@Go.info_parts
theorem aH:type_of% @Int.toNat_natCast:=@Int.toNat_natCast
theorem jT:type_of% @Nat.mul_one:=@Nat.mul_one
theorem cj:type_of% @Int.eq_ofNat_of_zero_le:=@Int.eq_ofNat_of_zero_le
theorem dx.{u}:type_of% @Ne.symm.{u}:=@Ne.symm.{u}
theorem et:type_of% @Nat.zero_le:=@Nat.zero_le
theorem aQ.{u}:type_of% @List.take_of_length_le.{u}:=@List.take_of_length_le.{u}
theorem eQ.{u,v}:type_of% @List.getElem?_mapIdx.{u,v}:=@List.getElem?_mapIdx.{u,v}
theorem e9.{u,v}:type_of% @Option.map_some.{u,v}:=@Option.map_some.{u,v}
theorem dm.{u}:type_of% @List.drop_of_length_le.{u}:=@List.drop_of_length_le.{u}
theorem fK.{u}:type_of% @List.getElem?_append.{u}:=@List.getElem?_append.{u}
theorem bX.{u}:type_of% @List.getElem?_drop.{u}:=@List.getElem?_drop.{u}
theorem je.{u,v}:type_of% @List.map_replicate.{u,v}:=@List.map_replicate.{u,v}
theorem bV:type_of% @Go.Sem.run_bind:=@Go.Sem.run_bind
theorem eM:type_of% @Go.Sem.run_pure:=@Go.Sem.run_pure
theorem b9:type_of% @Go.Result.andThen_ok:=@Go.Result.andThen_ok
theorem aD.{u}:type_of% @List.getElem?_eq_getElem.{u}:=@List.getElem?_eq_getElem.{u}
theorem dE:type_of% @Go.wpList_append_own:=@Go.wpList_append_own
theorem dL:type_of% @List.range_succ:=@List.range_succ
theorem dZ.{u,v}:type_of% @List.map_append.{u,v}:=@List.map_append.{u,v}
theorem dQ.{u,v}:type_of% @List.map_congr_left.{u,v}:=@List.map_congr_left.{u,v}
theorem fp.{u}:type_of% @List.take_append_of_le_length.{u}:=@List.take_append_of_le_length.{u}
theorem dV.{u}:type_of% @List.filter_append.{u}:=@List.filter_append.{u}
theorem ft.{u}:type_of% @List.filter_cons.{u}:=@List.filter_cons.{u}
theorem bJ.{u,v}:type_of% @List.length_map.{u,v}:=@List.length_map.{u,v}
theorem eN.{u}:type_of% @List.length_filter_le.{u}:=@List.length_filter_le.{u}
theorem aC.{u}:type_of% @List.getElem?_toArray.{u}:=@List.getElem?_toArray.{u}
theorem aW.{u}:type_of% @List.getElem?_append_left.{u}:=@List.getElem?_append_left.{u}
theorem cX:type_of% @Nat.add_sub_cancel_left:=@Nat.add_sub_cancel_left
theorem cG.{u}:type_of% @List.length_set.{u}:=@List.length_set.{u}
theorem dM.{u}:type_of% @List.take_append_drop.{u}:=@List.take_append_drop.{u}
theorem iw:type_of% @Nat.lt_of_le_of_lt:=@Nat.lt_of_le_of_lt
theorem fR.{u}:type_of% @List.filter_congr.{u}:=@List.filter_congr.{u}
theorem dp:type_of% @Nat.and_two_pow_sub_one_eq_mod:=@Nat.and_two_pow_sub_one_eq_mod
theorem eJ:type_of% @List.length_range:=@List.length_range
theorem gM:type_of% @Nat.pow_le_pow_right:=@Nat.pow_le_pow_right
theorem bq.{u}:type_of% @List.append_nil.{u}:=@List.append_nil.{u}
theorem fu:type_of% @Go.IntKind.wrap_u64:=@Go.IntKind.wrap_u64
theorem dY:type_of% @Go.IntWalk.i64_in:=@Go.IntWalk.i64_in
theorem fI:type_of% @Go.u64_and_nat:=@Go.u64_and_nat
theorem cr.{u}:type_of% @List.ext_getElem.{u}:=@List.ext_getElem.{u}
theorem fw:type_of% @Nat.add_sub_cancel:=@Nat.add_sub_cancel
theorem eH.{u}:type_of% @List.drop_eq_getElem_cons.{u}:=@List.drop_eq_getElem_cons.{u}
theorem aK:type_of% @Go.bodyPost_ret:=@Go.bodyPost_ret
theorem gX:type_of% @Go.ByteArray.toList_eq:=@Go.ByteArray.toList_eq
theorem cg.{u}:type_of% @beq_eq_false_iff_ne.{u}:=@beq_eq_false_iff_ne.{u}
theorem gY.{u}:type_of% @List.drop_replicate.{u}:=@List.drop_replicate.{u}
theorem fx.{u,v}:type_of% @List.getElem_map.{u,v}:=@List.getElem_map.{u,v}
theorem aT:type_of% @decide_eq_false:=@decide_eq_false
theorem bj:type_of% @decide_eq_true:=@decide_eq_true
theorem fU.{u}:type_of% @Array.getD_eq_getD_getElem?.{u}:=@Array.getD_eq_getD_getElem?.{u}
theorem dr:type_of% @Nat.lt_or_ge:=@Nat.lt_or_ge
theorem fy:type_of% @Bool.and_eq_true:=@Bool.and_eq_true
theorem fz.{u}:type_of% @List.take_length.{u}:=@List.take_length.{u}
theorem eC:type_of% @Nat.eq_zero_or_pos:=@Nat.eq_zero_or_pos
theorem dF:type_of% @Go.wpAny_ready:=@Go.wpAny_ready
theorem cd:type_of% @Go.AllReady.cons:=@Go.AllReady.cons
theorem dt:type_of% @Go.AllReady.nil:=@Go.AllReady.nil
theorem fA.{u}:type_of% @List.getElem?_take_of_lt.{u}:=@List.getElem?_take_of_lt.{u}
theorem eY.{u,v}:type_of% @List.filterMap_cons.{u,v}:=@List.filterMap_cons.{u,v}
theorem eG.{u}:type_of% @Option.getD_some.{u}:=@Option.getD_some.{u}
theorem cz.{u}:type_of% @List.pairwise_iff_getElem.{u}:=@List.pairwise_iff_getElem.{u}
theorem fo:type_of% @UInt8.lt_iff_toNat_lt:=@UInt8.lt_iff_toNat_lt
theorem fW:type_of% @Int.toNat_of_nonneg:=@Int.toNat_of_nonneg
theorem gN.{u}:type_of% @List.eq_of_mem_replicate.{u}:=@List.eq_of_mem_replicate.{u}
theorem fL.{u}:type_of% @List.mem_of_mem_drop.{u}:=@List.mem_of_mem_drop.{u}
theorem eK.{u}:type_of% @List.count_append.{u}:=@List.count_append.{u}
theorem bF.{u}:type_of% @List.mem_append_left.{u}:=@List.mem_append_left.{u}
theorem bG.{u}:type_of% @List.mem_append_right.{u}:=@List.mem_append_right.{u}
theorem gO.{u}:type_of% @List.length_dropLast.{u}:=@List.length_dropLast.{u}
theorem cm:type_of% @Go.World.size_alloc:=@Go.World.size_alloc
structure ay (l:List Nat) (w w':World):Prop where
 os:w'.os=w.os
 tape:w'.tape=w.tape
 output:w'.output=w.output
 size:w.heap.size<=w'.heap.size
 block:∀k,k<w.heap.size->k∉l->w'.heap[k]? =w.heap[k]?
theorem ay.refl(l:List Nat)(w:World):ay l w w:=⟨rfl,rfl,rfl,aG _,λ_ _ _=>rfl⟩
theorem ay.mono(h:ay l w w')(G:∀k,k∈l->k<w.heap.size->k∈l'):ay l' w w':=
 ⟨h.os,h.tape,h.output,h.size,λk y z=>h.block k y λJ=>z (G k J y)⟩
theorem ay.trans{b c:World}(h:ay l a b)(k:ay l' b c)(G:∀x,x∈l'->x∈l\/a.heap.size<=x):ay l a c:=
 ⟨k.os.trans h.os,k.tape.trans h.tape,k.output.trans h.output,cu h.size k.size,λx z y=>
  (k.block x (bC z h.size) λJ=>(G x J).elim y λU=>by omega).trans (h.block x z y)⟩
theorem ay.trans'{b c:World}(h:ay l a b)(k:ay l b c):ay l a c:=h.trans k λ_ y=> .inl y
theorem ay.drew(h:ay l a w):ay l a w.drew:=⟨h.os,h.tape,h.output,h.size,h.block⟩
theorem ay.drewN(h:ay l a w)(n:Nat):ay l a (w.drewN n):=⟨h.os,h.tape,h.output,h.size,h.block⟩
theorem ay.alloc(h:ay l a w)(o:Obj):ay l a (w.alloc o):=
 h.trans (l':=[]) ⟨rfl,rfl,rfl,by simp,λk y _=>Below.heap_alloc _ _ _ y⟩ (by simp)
theorem ay.setCell(h:ay l a w){p:Addr}(z:p.block∈l\/a.heap.size<=p.block)(u:Value):ay l a (w.setCell p u):=
 h.trans (l':=[p.block]) ⟨rfl,rfl,rfl,by simp[World.setCell],λk _ G=>Below.heap_setCell _ _ _ _ (by simpa using G)⟩ (by
  intro x y;rw[au] at y;subst y;exact z)
theorem ay.below(h:ay l w w'){B:Nat}(G:B<=w.heap.size)(y:∀k,k∈l->B<=k):Below B w w':=
 ⟨h.os,h.tape,h.output,h.size,λk J=>h.block k (by omega) λz=>by have :=y k z;omega⟩
theorem ay.of_grown(h:w.grownBy w' row)(z:∀k,row=some k->k∈l\/w.heap.size<=k):ay l w w':=
 ⟨h.os,h.tape,h.output,h.size,λk G y=>h.block k G λe=>(z k e.symm).elim y λJ=>by omega⟩
def bm (w:World) (b:Nat) (c:Array Value) (T:Nat):Prop:=w.heap[b]? =some (.cells c T (0,0))
theorem bm.lt(h:bm w b c T):b<w.heap.size:=(Array.getElem?_eq_some_iff.1 h).1
theorem bm.keep(h:bm w b c T){l:List Nat}(z:ay l w w')(y:b∉l):bm w' b c T:=
 (z.block b h.lt y).trans h
theorem bm.cell(h:bm w b c T)(o:Nat):w.cell? ⟨b,o,none⟩=c[o]? :=by
 unfold bm at h;simp[World.cell?,h]
theorem bm.frozen(h:bm w b c T)(o:Nat):w.frozen? ⟨b,o,none⟩=false:=by
 unfold bm at h;simp[World.frozen?,h]
theorem bm.set(h:bm w b c T)(o:Nat)(v:Value):bm (w.setCell ⟨b,o,none⟩ v) b (c.setIfInBounds o v) T:=by
 unfold bm at *;simp[World.setCell,Array.getElem?_modify,h]
theorem bm.other(h:bm w b c T){a:Addr}(y:b≠a.block)(v:Value):bm (w.setCell a v) b c T:=by
 unfold bm at *;rw[Below.heap_setCell _ _ _ _ y];exact h
theorem bm.alloc(h:bm w b c T)(o:Obj):bm (w.alloc o) b c T:=
 h.keep ((ay.refl [] w).alloc o) (by simp)
theorem bm.new(w:World)(c:Array Value)(T:Nat):bm (w.alloc (.cells c T)) w.heap.size c T:=by
 unfold bm;exact heap_alloc_new w _
theorem bm.drew(h:bm w b c T):bm w.drew b c T:=h
theorem bm.drewN(h:bm w b c T)(n:Nat):bm (w.drewN n) b c T:=h
def Reads (w:World) (v:Value) (g:Nat) (xs:List Value):Prop:=
 ∃a cap,v= .slice a xs.length cap/\xs.length<=cap/\cap<=maxLen/\(xs≠[]->g<w.heap.size/\∃off,a=some ⟨g,off,none⟩/\∀j,j<xs.length->w.cell? ⟨g,off+j,none⟩=xs[j]?)
theorem Reads.keep(h:Reads w v g xs){l:List Nat}(z:ay l w w')(hg:g∉l):Reads w' v g xs:=by
 obtain⟨a,cap,U,J,Z,W⟩:=h;refine⟨a,cap,U,J,Z,λhx=> ?_⟩;obtain⟨y,off,G,V⟩:=W hx;refine⟨bC y z.size,off,G,λj hj=> ?_⟩;rw[aL (w:=w) (z.block g y hg)];exact V j hj
def eE (w:World) (v:Value) (g:Nat) (T h n:Nat) (xs:List Value):Prop:=
 xs.length=n*h/\∃a cap,v= .slice a n cap/\n<=cap/\cap<=maxLen/\(n≠0->a=some ⟨g,0,none⟩/\∃c:Array Value,bm w g c T/\c.size=cap*h/\c.toList.take (n*h)=xs)
theorem eE.keep(h:eE w v g T y n xs){l:List Nat}(Z:ay l w w')(hg:g∉l):eE w' v g T y n xs:=by
 obtain⟨J,a,cap,V,U,h3,h4⟩:=h;refine⟨J,a,cap,V,U,h3,λhx=> ?_⟩;obtain⟨z,c,W,G⟩:=h4 hx;exact⟨z,c,W.keep Z hg,G⟩
theorem eE.keepIf(h:eE w v g T z n xs){l:List Nat}(hk:ay l w w')(hg:n≠0->g∉l):eE w' v g T z n xs:=by
 obtain⟨U,a,cap,W,V,h3,h4⟩:=h;refine⟨U,a,cap,W,V,h3,λy=> ?_⟩;obtain⟨G,c,Z,J⟩:=h4 y;exact⟨G,c,Z.keep hk (hg y),J⟩
theorem eE.len(h:eE w v g T y n xs):xs.length=n*y:=h.1
theorem pN{c:List α}{m:Nat}{xs:List α}(h:c.take m=xs){j:Nat}(y:j<m):c[j]? =xs[j]? :=by
 rw[<-h,bN,aB y]
theorem eE.reads(h:eE w v g T 1 n xs):Reads w v g xs:=by
 obtain⟨h0,a,cap,J,h2,V,U⟩:=h;have G:xs.length=n:=by omega
 refine⟨a,cap,by rw[G];exact J,by omega,V,λW=> ?_⟩;have :n≠0:=λe=>W (bg (by omega))
 obtain⟨z,c,y,h7,Z⟩:=U this;refine⟨y.lt,0,z,λj hj=> ?_⟩;rw[y.cell,<-dz];simpa using pN Z (j:=j) (by omega)
theorem eE.set(h:eE w v g T y n xs)(j:Nat)(u:Value):eE (w.setCell ⟨g,j,none⟩ u) v g T y n (xs.set j u):=by
 obtain⟨J,a,cap,V,U,h3,Z⟩:=h;refine⟨by simpa using J,a,cap,V,U,h3,λhx=> ?_⟩;obtain⟨z,c,W,G,h8⟩:=Z hx;refine⟨z,_,W.set j u,by simpa using G,?_⟩;rw[Array.toList_setIfInBounds,List.take_set,h8]
theorem eE.drew(h:eE w v g T y n xs):eE w.drew v g T y n xs:=h
theorem eE.alloc(h:eE w v g T y n xs)(o:Obj):eE (w.alloc o) v g T y n xs:=
 h.keep ((ay.refl [] w).alloc o) (by simp)
theorem eE.cell(h:eE w v g T z n xs)(U:n≠0):g<w.heap.size/\(∃cap,v= .slice (some ⟨g,0,none⟩) n cap/\n<=cap/\cap<=maxLen)/\(∀j,j<n*z->w.cell? ⟨g,j,none⟩=xs[j]?)/\∀j,w.frozen? ⟨g,j,none⟩=false:=by
 obtain⟨h0,a,cap,W,V,h3,Z⟩:=h;obtain⟨G,c,y,h7,h8⟩:=Z U;subst G;refine⟨y.lt,⟨cap,W,V,h3⟩,λj J=> ?_,λj=>y.frozen j⟩;rw[y.cell,<-dz];exact pN h8 J
theorem eE.val(h:eE w v g T J n xs):∃a cap,v= .slice a n cap/\n<=cap/\cap<=maxLen:=by
 obtain⟨U,a,cap,z,y,G,V⟩:=h;exact⟨a,cap,z,y,G⟩
theorem eE.nil(w:World)(g T y:Nat):eE w (.slice none 0 0) g T y 0 []:=⟨by simp,none,0,rfl,by simp,by simp[maxLen],λh=>absurd rfl h⟩
theorem eE.anyG(h:eE w v g T y n xs)(G:n=0)(V:Nat):eE w v V T y n xs:=by
 obtain⟨z,a,cap,U,J,W,Z⟩:=h;exact⟨z,a,cap,U,J,W,λh=>absurd G h⟩
theorem eE.of_row(h:w.ownsRow y T G v n xs):∃g,eE w v g T G n xs/\(n≠0->y<=g/\v.ownBlock=some g):=by
 obtain⟨U,W⟩:=h;rcases W with ⟨rfl,rfl⟩|⟨g,cap,z,rfl,hg,Z,V,h3,h4,J⟩
 ·obtain rfl:xs=[]:=bg (by omega)
  exact⟨0,eE.nil w 0 T G,λh=>absurd rfl h⟩
 ·exact⟨g,⟨U,_,cap,rfl,V,h3,λ_=>⟨rfl,z,Z,h4,J⟩⟩,λ_=>⟨hg,rfl⟩⟩
theorem ay.setRow(h:ay l a w){g:Nat}(z:g∈l\/a.heap.size<=g)(c:Array Value):ay l a (w.setRow g c):=
 h.trans (l':=[g]) ⟨rfl,rfl,rfl,by simp[World.setRow],λk _ G=>setRow_other w g k _ (by simpa using G)⟩ (by
  intro x y;rw[au] at y;subst y;exact z)
theorem kZ (z:Array Value)(n:Nat):(Builtin.zeroCells z n).size=n*z.size:=by simp[Builtin.zeroCells]
theorem A1{P:Program}{t e ty:Nat}{z:Value}(Z:P.underlying t=some (.slice e))(hz:∀w,(zeroValue e).run P w= .ok z w)
  (V:z.cells.size=y) (h1:∀u∈(Builtin.zeroCells z.cells n).toList,u.oneCell'=true) (h:eE w v g T y n xs):
  ∃w',(Builtin.clear_ #[t] ty #[v]).run P w= .ok (.tuple #[]) w'/\eE w' v g T y n (Builtin.zeroCells z.cells n).toList/\ay [g] w w':=by
 obtain⟨h0,a,cap,rfl,U,h3,h4⟩:=h;by_cases J:n=0
 ·subst J
  refine⟨w,?_,⟨by simp[kZ],a,cap,rfl,U,h3,λh=>absurd rfl h⟩,ay.refl _ _⟩;cases a<;>simp[Builtin.clear_,cY Z]
 ·obtain⟨rfl,c,hc,hs,hk⟩:=h4 J
  have G:(Builtin.zeroCells z.cells n).toList.length=n*y:=by rw[df,kZ,V]
  have aa:n*y<=c.size:=by rw[hs];exact Nat.mul_le_mul_right _ U
  have W:=run_storeCells_at P g 0 T (Builtin.zeroCells z.cells n).toList 0 c w hc (by rw[G];omega) h1;simp only[dH,eX,bW,aX] at W;generalize hC:((Builtin.zeroCells z.cells n).toList++List.drop (Builtin.zeroCells z.cells n).toList.length c.toList).toArray=C at W;refine⟨w.setRow g C,?_,⟨G,_,cap,rfl,U,h3,λ_=>⟨rfl,C,setRow_heap w g c _ T _ hc,?_,?_⟩⟩,(ay.refl _ _).setRow (by simp) _⟩
  ·cases n with
   |zero=>exact absurd rfl J
   |succ n=>simp[Builtin.clear_,cY Z,hz,W]
  ·rw[<-hC,bU,aF,bu,G,df];omega
  ·rw[<-G,<-hC];exact List.take_left
theorem Db (l:List α)(i:Nat)(d:α):l.set i (l.getD i d)=l:=by
 apply b8;intro j;rw[er];split
 ·rename_i hj
  subst hj;split
  ·rename_i hi;simp[hi]
  ·rename_i hi;simp at hi;simp[hi]
 ·rfl
end Go.Proofs.YtcecbdeamjigiaaGreatDoor
namespace Go.Proofs.YtcecbdeamjigiaaGreatDoor
open Go.ChangeShapes Go.WideShapes Go.ChangeAt Go.RowKit
variable{α:Type}{G J T b g gf gl gn i j n y z:Nat}{l l':List Nat}{a w w':World}{c:Array Value}{row:Option Nat}{v:Value}{xs:List Value}{ps:List (Int×Int)}
section
variable {H:Type} {enc:TypeId×Value->H} {P:Program} {W:World} {base:Nat} {spare:Nat->Bool} {held:Bool}
theorem add_plain(g off n:Nat):(⟨g,off,none⟩:Addr).add n=⟨g,off+n,none⟩:=by unfold Addr.add;split<;>simp_all
theorem Kf {a:Addr}{v:Value}(h:W.cell? a=some v):a.block<W.heap.size:=World.block_lt_of_cell? W a h
end
end Go.Proofs.YtcecbdeamjigiaaGreatDoor
namespace Go.Proofs.YtcecbdeamjigiaaGreatDoor
variable{α:Type}{G J T b g gf gl gn i j n y z:Nat}{l l':List Nat}{a w w':World}{c:Array Value}{row:Option Nat}{v:Value}{xs:List Value}{ps:List (Int×Int)}
def nO (W k:Nat):Nat:=W/256^k%256
def jH (W:Nat):List Nat:=(List.range 8).map (nO W)
def jv:List Nat->Nat
 | []=>0
 |c::l=>c+256*jv l
theorem xN (W k:Nat):nO W k<256:=fJ _ (by decide)
theorem kh (W:Nat):(jH W).length=8:=by simp[jH]
theorem sJ (W k:Nat)(h:k<8):(jH W).getD k 0=nO W k:=by simp[jH,h]
theorem Mo (W:Nat):∀c∈jH W,c<256:=by
 intro c h;simp only[jH,bB] at h;obtain⟨k,-,rfl⟩:=h;exact xN W k
theorem qT (l m:List Nat):jv (l++m)=jv l+256^l.length*jv m:=by
 induction l with
 |nil=>simp[jv]
 |cons c l ih=>rw[List.cons_append,jv,ih,jv,bH,Nat.pow_succ',Nat.mul_add,Nat.mul_assoc,Nat.add_assoc]
theorem D3 (c:Nat):jv [c]=c:=by simp[jv]
theorem G0 (n:Nat):jv (List.replicate n 0)=0:=by
 induction n with
 |zero=>rfl
 |succ n ih=>simp[List.replicate_succ,jv,ih]
theorem A5 (h:∀c∈l,c<256):jv l<256^l.length:=by
 induction l with
 |nil=>simp[jv]
 |cons c l ih=>
  have G:=ih λx y=>h x (gJ _ y)
  have z:=h c iv;rw[jv,bH,Nat.pow_succ'];omega
theorem D4 (h:∀c∈l,c<256):∀k,nO (jv l) k=l.getD k 0:=by
 induction l with
 |nil=>intro k;simp[jv,nO]
 |cons c l ih=>
  have z:=h c iv;intro k;cases k with
  |zero=>simp[jv,nO];omega
  |succ k=>
   have :=ih (λx y=>h x (gJ _ y)) k;rw[List.getD_cons_succ,<-this];unfold nO;rw[jv,Nat.pow_succ',<-Nat.div_div_eq_div_mul]
   congr 2
   omega
theorem zU (l:List Nat)(k:Nat)(h:k<l.length):jv (l.take (k+1))=jv (l.take k)+l.getD k 0*256^k:=by
 rw[bt h,qT,D3,aI,cy (by omega),Nat.mul_comm];simp[h]
theorem Mp (h:∀c∈l,c<256)(k:Nat):∀c∈l.take k,c<256:=λc y=>h c (bA y)
def kM (c:Nat):Bool:=decide (33<=c)&&(decide (c<=126)&&(c != 47))
def fN (l:List Nat):Bool:=decide (1<=l.length)&&decide (l.length<=7)&&(l != [46])&&(l != [46,46])&&l.all kM
def nH (l:List Nat):Nat:=jv l+72057594037927936*l.length
def wm (l:List Nat):List Nat:=l++List.replicate (7-l.length) 0++[l.length]
theorem ml (h:fN l=true):1<=l.length/\l.length<=7:=by simp[fN] at h;omega
theorem sK (h:l.length<=7):(wm l).length=8:=by simp[wm];omega
theorem Fl (z:l.length<=7)(h:∀c∈l,c<256):∀c∈wm l,c<256:=by
 intro c y;simp only[wm,aP,List.mem_replicate,au] at y;rcases y with(y|⟨-,rfl⟩)|rfl
 ·exact h c y
 ·omega
 ·omega
theorem uW (h:l.length<=7):jv (wm l)=nH l:=by
 rw[wm,qT,qT,G0,D3,aF,bh,show l.length+(7-l.length)=7 by omega,nH];rfl
theorem QW (y:l.length<=7)(h:∀c∈l,c<256):nH l<18446744073709551616:=by
 have :=A5 (Fl y h);rw[uW y,sK y] at this;simpa using this
theorem Kg (y:l.length<=7)(h:∀c∈l,c<256):jH (nH l)=wm l:=by
 have J:=Fl y h;apply b8;intro k;by_cases z:k<8
 ·have G:(wm l)[k]? =some ((wm l).getD k 0):=by simp[sK y,z]
  rw[G,<-D4 J,uW y];simp[jH,z]
 ·rw[aO (by rw[kh];omega),aO (by rw[sK y];omega)]
def iL (W:Nat):Option (List Nat):=if nO W 7<=7/\fN ((jH W).take (nO W 7))=true/\nH ((jH W).take (nO W 7))=W then some ((jH W).take (nO W 7)) else none
theorem lq (G:fN l=true)(h:∀c∈l,c<256):iL (nH l)=some l:=by
 obtain⟨V,z⟩:=ml G;have y:=Kg z h;have J:nO (nH l) 7=l.length:=by
  rw[<-sJ _ 7 (by omega),y,wm,aj,aM (by simp;omega)];simp[show 7-(l.length+(7-l.length))=0 by omega]
 have U:(jH (nH l)).take l.length=l:=by
  rw[y,wm,bf,List.take_left]
 unfold iL;rw[J,U,aB ⟨z,G,rfl⟩]
def Xm (h c:Nat):Nat:=(h ^^^ c)*16777619%4294967296
def Nu (h W:Nat):Nat:=(jH W).foldl Xm h
def G1 (l:List Nat):Nat:=l.foldl Nu 2166136261
theorem Yv (h c:Nat):Xm h c<4294967296:=fJ _ (by decide)
theorem wq (l:List Nat):∀h,h<4294967296->l.foldl Xm h<4294967296:=by
 induction l with
 |nil=>intro h y;exact y
 |cons c l ih=>intro h _;exact ih _ (Yv h c)
theorem UR (h W:Nat)(y:h<4294967296):Nu h W<4294967296:=wq _ _ y
theorem uE (l:List Nat):∀h,h<4294967296->l.foldl Nu h<4294967296:=by
 induction l with
 |nil=>intro h y;exact y
 |cons c l ih=>intro h y;exact ih _ (UR h c y)
theorem Fm (l:List Nat):G1 l<4294967296:=uE l _ (by decide)
def iD (ps:List (Int×Int)) (j:Nat):Int:=(ps.getD j (0,0)).1
def nw (ps:List (Int×Int)) (j:Nat):Int:=(ps.getD j (0,0)).2
theorem ou (ps:List (Int×Int))(k:Nat)(h:k<ps.length):ps.take (k+1)=ps.take k++[(iD ps k,nw ps k)]:=by
 have e:(iD ps k,nw ps k)=ps[k]:=by simp[iD,nw,h]
 rw[e];exact bt h
theorem A7 (ps:List (Int×Int))(k:Nat)(h:k<ps.length):(iD ps k,nw ps k)∈ps:=by
 have :(iD ps k,nw ps k)=ps[k]:=by simp[iD,nw,h]
 rw[this];exact bp h
def az (xs:List Int) (ps:List (Int×Int)):List Int:=ps.foldl (λa p=>a.set p.1.toNat p.2) xs
theorem uX (xs:List Int):az xs []=xs:=rfl
theorem bo (xs:List Int)(ps qs:List (Int×Int)):az xs (ps++qs)=az (az xs ps) qs:=by simp[az,List.foldl_append]
theorem k9 (xs:List Int)(a x:Int):az xs [(a,x)]=xs.set a.toNat x:=rfl
theorem bO (ps:List (Int×Int)):∀xs,(az xs ps).length=xs.length:=by
 induction ps with
 |nil=>intro xs;rfl
 |cons p ps ih=>intro xs;show(az (xs.set p.1.toNat p.2) ps).length=_;rw[ih];simp
theorem xO (xs:List Int)(ps:List (Int×Int))(k:Nat)(h:k<ps.length):az xs (ps.take (k+1))=(az xs (ps.take k)).set (iD ps k).toNat (nw ps k):=by
 rw[ou ps k h,bo];rfl
theorem getD_set_ne{l:List Int}(x:Int)(h:i≠j):(l.set i x).getD j 0=l.getD j 0:=by
 simp[List.getElem?_set_ne h]
theorem G2{l:List Int}(x:Int)(h:i<l.length):(l.set i x).getD i 0=x:=by
 simp[h]
theorem wu{l:List Int}(x:Int):(l.set i x).getD j 0=if i=j/\j<l.length then x else l.getD j 0:=by
 by_cases h:i=j
 ·subst h
  by_cases y:i<l.length
  ·rw[G2 x y,aB ⟨rfl,y⟩]
  ·rw[aA (by omega),gK (by omega)]
 ·rw[getD_set_ne x h,aA (by omega)]
theorem eo (ps:List (Int×Int))(i:Nat):∀xs,(∀p∈ps,p.1.toNat≠i)->(az xs ps).getD i 0=xs.getD i 0:=by
 induction ps with
 |nil=>intro xs _;rfl
 |cons p ps ih=>
  intro xs h;show(az (xs.set p.1.toNat p.2) ps).getD i 0=_;rw[ih _ λq y=>h q (gJ _ y),getD_set_ne _ (h p iv)]
def ov (a:Int):Bool:=decide (0<=a)&&decide (a<3128)&&(decide (a<8)||decide (816<=a))
theorem kj{a:Int}:ov a=true↔0<=a/\a<3128/\(a<8\/816<=a):=by
 simp[ov,and_assoc]
def wC (ps:List (Int×Int)):Bool:=ps.all λp=>ov p.1
theorem Nv (h:wC ps=true){p:Int×Int}(y:p∈ps):0<=p.1/\p.1<3128/\(p.1<8\/816<=p.1):=kj.1 (eP.1 h _ y)
def ey (ps:List (Int×Int)):List Int:=ps.flatMap λp=>[p.1%18446744073709551616,p.2]
theorem km (ps:List (Int×Int)):(ey ps).length=2*ps.length:=by
 induction ps with
 |nil=>rfl
 |cons p ps ih=>simp[ey] at ih ⊢;omega
theorem Dc (ps qs:List (Int×Int)):ey (ps++qs)=ey ps++ey qs:=by simp[ey]
theorem xP (ps:List (Int×Int))(k:Nat)(h:k<ps.length):ey (ps.take (k+1))=ey (ps.take k)++[iD ps k%18446744073709551616,nw ps k]:=by
 rw[ou ps k h,Dc];rfl
theorem Kh (ps:List (Int×Int)):∀k,k<ps.length->(ey ps).getD (2*k) 0=iD ps k%18446744073709551616/\(ey ps).getD (2*k+1) 0=nw ps k:=by
 induction ps with
 |nil=>intro k h;simp at h
 |cons p ps ih=>
  intro k h;have y:ey (p::ps)=p.1%18446744073709551616::p.2::ey ps:=rfl;cases k with
  |zero=>rw[y];exact⟨rfl,rfl⟩
  |succ k=>
   have :=ih k (by simpa using h);rw[y];simp only[iD,nw,aj,show 2*(k+1)=2*k+1+1 by omega,dS] at this ⊢;exact this
def Xn (ps:List (Int×Int)):Prop:=∀p∈ps,(-9223372036854775808<=p.1/\p.1<=9223372036854775807)/\0<=p.2/\p.2<=18446744073709551615
theorem Mq (h:Xn ps){k:Nat}(y:k<ps.length):(-9223372036854775808<=iD ps k/\iD ps k<=9223372036854775807)/\0<=nw ps k/\nw ps k<=18446744073709551615:=h _ (A7 ps k y)
def A8 (xs:List Int):Prop:=∀x∈xs,0<=x/\x<=18446744073709551615
theorem A9 (h:Xn ps):A8 (ey ps):=by
 intro x y;simp only[ey,List.mem_flatMap,aS,aV,bL] at y;obtain⟨p,z,y⟩:=y;have :=h p z;omega
theorem Ba{xs:List Int}(h:A8 xs)(k:Nat):0<=xs.getD k 0/\xs.getD k 0<=18446744073709551615:=by
 rw[aj];cases hk:xs[k]? with
 |none=>simp
 |some x=>exact h x (List.mem_of_getElem? hk)
def jJ (ws:List Int) (m:Nat):Bool:=(List.range m).all λk=>ov (ws.getD (2*k) 0)
theorem Bb (h:Xn ps):jJ (ey ps) ps.length=wC ps:=by
 have G:∀k,k<ps.length->ov ((ey ps).getD (2*k) 0)=ov (iD ps k):=by
  intro k y;rw[(Kh ps k y).1,Bool.eq_iff_iff,kj,kj];have :=Mq h y;omega
 rw[Bool.eq_iff_iff];unfold jJ wC;rw[eP,eP];constructor
 ·intro z p J
  obtain⟨k,y,rfl⟩:=bR J;have :=z k (by simpa using y);rw[G k y] at this;simpa[iD,aj,y] using this
 ·intro z k y
  rw[bS] at y;rw[G k y];exact z _ (A7 ps k y)
def kf (ws:List Int):List (Int×Int):=ws.mapIdx λk w=>((9+k:Int),w)
theorem kT (ws:List Int):(kf ws).length=ws.length:=by simp[kf]
theorem G3{ws:List Int}{p:Int×Int}(h:p∈kf ws):9<=p.1/\p.1<9+ws.length:=by
 obtain⟨k,y,rfl⟩:=bR h;have z:k<ws.length:=by simpa[kf] using y
 simp[kf];omega
def nI (ws:List Int):Int:=(ws.length/2:Nat)*4294967296+(G1 (ws.map Int.toNat):Nat)
def j7 (f:List Int):Nat->Nat
 |0=>0
 |k+1=>j7 f k+if f.getD k 0∈f.take k then 0 else 1
def gi (ps:List (Int×Int)):List Int:=ps.map λp=>p.1/8
def uY (ps:List (Int×Int)):Nat:=j7 (gi ps) ps.length
theorem G4 (ps:List (Int×Int))(k:Nat)(h:k<ps.length):(gi ps).getD k 0=iD ps k/8:=by
 simp[gi,iD,h]
theorem qU (ps:List (Int×Int))(k:Nat):(gi ps).take k=gi (ps.take k):=by simp[gi]
theorem Fo (ps:List (Int×Int))(k:Nat)(h:k<ps.length):(gi ps).take (k+1)=(gi ps).take k++[iD ps k/8]:=by
 rw[qU,qU,ou ps k h];simp[gi]
theorem qV (f:List Int):∀k,j7 f k<=k
 |0=>aG _
 |k+1=>by
  have :=qV f k;unfold j7;split<;>omega
def j9 (ps:List (Int×Int)):Nat:=ps.length+uY ps+1
def xQ (ps:List (Int×Int)):Nat:=if ps=[] then 0 else j9 (kf (ey ps))+3+j9 ps+3
theorem qW (ps:List (Int×Int)):j9 ps<=2*ps.length+1:=by
 have :=qV (gi ps) ps.length;unfold j9 uY;omega
theorem G5 (a x:Int):j9 [(a,x)]=3:=by simp[j9,uY,j7]
theorem Nw (ps:List (Int×Int)):xQ ps<=6*ps.length+8:=by
 have y:=qW ps;have h:=qW (kf (ey ps));rw[kT,km] at h;unfold xQ;split<;>omega
def QX (xs:List Int) (ps:List (Int×Int)):List Int:=az (az xs ps) [(8,0)]
def kz (xs:List Int) (ps:List (Int×Int)):List Int:=if ps=[] then xs else QX (az (az xs (kf (ey ps))) [(8,nI (ey ps))]) ps
end Go.Proofs.YtcecbdeamjigiaaGreatDoor
namespace Go.Proofs.YtcecbdeamjigiaaGreatDoor
open Go.RowKit
variable{α:Type}{G J T b g gf gl gn i j n y z:Nat}{l l':List Nat}{a w w':World}{c:Array Value}{row:Option Nat}{v:Value}{xs:List Value}{ps:List (Int×Int)}
def aR (l:List Int):List Value:=l.map (Value.int .u64)
def bools (l:List Bool):List Value:=l.map Value.bool
theorem cC{l:List Int}(h:j<l.length):(aR l)[j]? =some (.int .u64 (l.getD j 0)):=by simp[aR,h]
theorem pO{l:List Bool}(h:j<l.length):(bools l)[j]? =some (.bool (l.getD j false)):=by simp[bools,h]
theorem jw (l:List Int)(j:Nat)(x:Int):(aR l).set j (.int .u64 x)=aR (l.set j x):=by simp[aR,List.map_set]
theorem xR (l:List Bool)(j:Nat)(x:Bool):(bools l).set j (.bool x)=bools (l.set j x):=by simp[bools,List.map_set]
theorem bc (l:List Int):(aR l).length=l.length:=by simp[aR]
theorem mm (l:List Bool):(bools l).length=l.length:=by simp[bools]
theorem eu (l:List Int):∀u∈aR l,u.oneCell'=true:=by
 intro u h;simp only[aR,bB] at h;obtain⟨x,-,rfl⟩:=h;rfl
theorem D5 (n:Nat):List.replicate n (Value.int .u64 0)=aR (List.replicate n 0):=by simp[aR]
theorem lr (xs h:List Int):aR (xs++h)=aR xs++aR h:=by simp[aR]
theorem fM{xs:List Int}(h:Reads w v g (aR xs)):∃a cap,v= .slice a xs.length cap/\xs.length<=cap/\cap<=maxLen/\
  Hid (∀k,k<xs.length->g<w.heap.size/\∃off,a=some ⟨g,off,none⟩/\w.cell? ⟨g,off+k,none⟩=some (.int .u64 (xs.getD k 0))):=by
 obtain⟨a,cap,z,J,G,V⟩:=h;rw[bc] at *;refine⟨a,cap,z,J,G,λk y=> ?_⟩;obtain⟨Z,off,W,U⟩:=V (by intro e;have :=ck List.length e;rw[bc,cp] at this;omega);exact⟨Z,off,W,(U k y).trans (cC y)⟩
theorem Reads.anyG(h:Reads w v g xs)(U:xs=[])(G:Nat):Reads w v G xs:=by
 obtain⟨a,cap,z,y,J,V⟩:=h;exact⟨a,cap,z,y,J,λh=>absurd U h⟩
def kN (w:World) (v:Value) (g:Nat) (ps:List (Int×Int)):Prop:=
 ∃a cap,v= .slice a ps.length cap/\ps.length<=cap/\cap<=maxLen/\(ps.length≠0->g<w.heap.size/\∃off,a=some ⟨g,off,none⟩/\
  ∀j,j<ps.length->w.cell? ⟨g,off+j*2,none⟩=some (.int .i64 (iD ps j))/\w.cell? ⟨g,off+j*2+1,none⟩=some (.int .u64 (nw ps j)))
theorem kN.keep(h:kN w v g ps){l:List Nat}(J:ay l w w')(hg:ps.length≠0->g∉l):kN w' v g ps:=by
 obtain⟨a,cap,h1,Z,h3,h4⟩:=h;refine⟨a,cap,h1,Z,h3,λU=> ?_⟩;obtain⟨y,off,W,G⟩:=h4 U;refine⟨bC y J.size,off,W,λj V=> ?_⟩;have z:=J.block g y (hg U);exact⟨(aL (w:=w) (w':=w') (a:=⟨g,off+j*2,none⟩) z).trans (G j V).1,(aL (w:=w) (w':=w') (a:=⟨g,off+j*2+1,none⟩) z).trans (G j V).2⟩
theorem kN.val(h:kN w v g ps):∃a cap,v= .slice a ps.length cap/\ps.length<=cap/\cap<=maxLen:=by
 obtain⟨a,cap,z,y,G,J⟩:=h;exact⟨a,cap,z,y,G⟩
theorem kN.get{a:Option Addr}{cap:Nat}(h:kN w (.slice a n cap) g ps){j:Nat}(W:j<ps.length):
  g<w.heap.size/\∃off,a=some ⟨g,off,none⟩/\w.cell? ⟨g,off+j*2,none⟩=some (.int .i64 (iD ps j))/\w.cell? ⟨g,off+j*2+1,none⟩=some (.int .u64 (nw ps j)):=by
 obtain⟨a',y,J,Z,h3,V⟩:=h;cases J;obtain⟨z,off,U,G⟩:=V (by omega);exact⟨z,off,U,G j W⟩
def gQ (ps:List (Int×Int)):List Value:=ps.flatMap λp=>[.int .i64 p.1,.int .u64 p.2]
theorem ox (ps:List (Int×Int)):(gQ ps).length=ps.length*2:=by
 induction ps with
 |nil=>rfl
 |cons p ps ih=>simp[gQ] at ih ⊢;omega
theorem pD (ps qs:List (Int×Int)):gQ (ps++qs)=gQ ps++gQ qs:=by simp[gQ]
theorem mn (ps:List (Int×Int)):∀k,k<ps.length->(gQ ps)[k*2]? =some (.int .i64 (iD ps k))/\(gQ ps)[k*2+1]? =some (.int .u64 (nw ps k)):=by
 induction ps with
 |nil=>intro k h;simp at h
 |cons p ps ih=>
  intro k h;have y:gQ (p::ps)= .int .i64 p.1:: .int .u64 p.2::gQ ps:=rfl;cases k with
  |zero=>rw[y];exact⟨rfl,rfl⟩
  |succ k=>
   have :=ih k (by simpa using h);rw[y,show(k+1)*2=k*2+1+1 by omega];simp only[dS];exact this
theorem eE.preads(h:eE w v g T 2 ps.length (gQ ps)):kN w v g ps:=by
 obtain⟨a,cap,J,W,V⟩:=h.val;refine⟨a,cap,J,W,V,λU=> ?_⟩;obtain⟨hg,⟨G,y,-,-⟩,z,-⟩:=h.cell U;rw[J] at y;cases y;refine⟨hg,0,rfl,λj Z=> ?_⟩;rw[aX,z (j*2) (by omega),z (j*2+1) (by omega)];exact mn ps j Z
def gC (w:World) (ws:List Int) (e:Ending) (w':World):Prop:=
 ∃v g,e= .returned v/\Reads w' v g (aR ws)/\w.heap.size<=g/\ay [] w w'
theorem iP (w:World)(cs:List Value)(T m:Nat)(h:m=w.heap.size):∀j u,cs[j]? =some u->(w.alloc (.cells cs.toArray T)).cell? ((⟨m,0,none⟩:Addr).add j)=some u:=by
 intro j u y;subst h;rw[add_plain,(bm.new w cs.toArray T).cell,aX];simpa using y
def jU (w:World) (ps:List (Int×Int)) (e:Ending) (w':World):Prop:=
 ∃v g,e= .returned v/\kN w' v g ps/\w.heap.size<=g/\ay [] w w'
theorem y8 (n:Nat):(madeCells #[Value.int .i64 0,Value.int .u64 0] (n*2)).toList=gQ (List.replicate n (0,0)):=by
 apply b8;intro j;simp only[madeCells,Array.toList_map,Array.toList_range,bD];by_cases z:j<n*2
 ·rw[b7 z]
  have y:=mn (List.replicate n ((0:Int),(0:Int))) (j/2) (by simp;omega);have G:iD (List.replicate n ((0:Int),(0:Int))) (j/2)=0:=by
   simp[iD,aY];split<;>rfl
  have J:nw (List.replicate n ((0:Int),(0:Int))) (j/2)=0:=by
   simp[nw,aY];split<;>rfl
  rw[G,J] at y;rcases (show j%2=0\/j%2=1 by omega) with h|h
  ·rw[show j/2*2=j by omega] at y
   rw[y.1];simp[h]
  ·rw[show j/2*2+1=j by omega] at y
   rw[y.2];simp[h]
 ·rw[aO (by simpa using z),aO (by rw[ox,bh];omega)];rfl
theorem Ki (l:List (Int×Int))(a x:Int):∀k,((gQ l).set (k*2) (.int .i64 a)).set (k*2+1) (.int .u64 x)=gQ (l.set k (a,x)):=by
 induction l with
 |nil=>intro k;rfl
 |cons p l ih=>
  intro k;have h:∀(p:Int×Int) l,gQ (p::l)= .int .i64 p.1:: .int .u64 p.2::gQ l:=λ_ _=>rfl
  cases k with
  |zero=>rfl
  |succ k=>rw[h,ai,h,<-ih k,show(k+1)*2=k*2+1+1 by omega];rfl
def cU {α:Type} (z:α) (l:List α) (k:Nat):List α:=l.take k++List.replicate (l.length-k) z
theorem iM (z:α)(l:List α):cU z l 0=List.replicate l.length z:=by simp[cU]
theorem jl (z:α)(l:List α):cU z l l.length=l:=by simp[cU]
theorem iU (z:α)(l:List α)(k:Nat)(h:k<=l.length):(cU z l k).length=l.length:=by simp[cU];omega
theorem iN (z:α)(l:List α)(k:Nat)(h:k<l.length)(x:α)(y:l[k]=x):(cU z l k).set k x=cU z l (k+1):=by
 subst y;unfold cU;rw[bt h,show l.length-k=(l.length-(k+1))+1 by omega,List.replicate_succ,bf];rw[cZ _ _ (by simp;omega)]
 congr 1
 rw[aI,cy (by omega),iT];rfl
theorem eE.pair{l:List (Int×Int)}(h:eE w v g T 2 n (gQ l))(k:Nat)(a x:Int):
  eE ((w.setCell ⟨g,k*2,none⟩ (.int .i64 a)).setCell ⟨g,k*2+1,none⟩ (.int .u64 x)) v g T 2 n (gQ (l.set k (a,x))):=by
 have :=(h.set (k*2) (.int .i64 a)).set (k*2+1) (.int .u64 x);rw[Ki] at this;exact this
theorem jU.mk(h:eE w' v g T 2 n (gQ ps))(y:n=ps.length)(z:w.heap.size<=g)(G:ay [] w w'):jU w ps (.returned v) w':=by
 subst y;exact⟨v,g,rfl,h.preads,z,G⟩
def J4 (ps:List (Int×Int)) (n:Nat):Prop:=∀p∈ps,0<=p.1/\p.1<n
theorem wD (h:J4 ps n){k:Nat}(y:k<ps.length):0<=iD ps k/\iD ps k<n:=h _ (A7 ps k y)
theorem cE{V:Nat}(h:w.ownsRow y T V v n xs):∀k,v.ownBlock=some k->y<=k:=by
 obtain⟨Z,G⟩:=h;intro k z;rcases G with ⟨rfl,rfl⟩|⟨g,cap,J,rfl,U,hh,h2,h3,h4,W⟩
 ·cases z
 ·cases z;exact U
theorem ay.grown{wr G:World}(h:ay [] w wr)(y:wr.grownBy G row)(U:∀k,row=some k->w.heap.size<=k):ay [] w G:=
 ⟨y.os.trans h.os,y.tape.trans h.tape,y.output.trans h.output,cu h.size y.size,λk z J=>
  (y.block k (bC z h.size) λe=>by have :=U k e.symm;omega).trans (h.block k z J)⟩
theorem cO (h:w.ownsRow y T J v n xs){l:List Nat}(hk:ay l w w')(W:∀k,v.ownBlock=some k->k∉l):w'.ownsRow y T J v n xs:=by
 obtain⟨V,h1⟩:=h;refine⟨V,?_⟩;rcases h1 with ⟨rfl,rfl⟩|⟨g,cap,z,rfl,hg,G,Z,h3,h4,U⟩
 ·exact .inl ⟨rfl,rfl⟩
 ·refine .inr ⟨g,cap,z,rfl,hg,?_,Z,h3,h4,U⟩
  rw[<-G];exact hk.block g (Array.getElem?_eq_some_iff.1 G).1 (W g rfl)
theorem gD (h:w.ownsRow y T G v n xs):∃a cap,v= .slice a n cap/\n<=cap/\cap<=maxLen:=by
 obtain⟨g,z,-⟩:=eE.of_row h;exact z.val
theorem Tryz.info_u64:(Tryz.prog.info? 55).map (λi=>(i.zero,i.size,i.bytes))=some (some (.int .u64 0),1,8):=by kernel_rfl
theorem sM (n:Nat)(V:n<=100000)(m:Int)(J:m=(n:Int))(k:Nat)(W:k=0\/k=n)(w:World):(Instr.makeSlice 69 (.int .i64 (k:Int)) (.int .i64 m)).run Tryz.prog w=
  .ok (.slice (some ⟨w.heap.size,0,none⟩) k n) (w.alloc (.cells (madeCells #[.int .u64 0] n) 55)):=by
 subst J;obtain⟨U,G,z,y,h⟩:=cJ Tryz.info_u64;have :=run_make (P:= Tryz.prog) w 69 55 U _ Tryz.underlying69 G z .i64 .i64 (k:Int) (n:Int) (by omega) (by omega) (by rw[h];omega) (by omega);rw[y,aH,aH,jT] at this;exact this
structure ic where
 now:List Int
 last:List Int
 fl:List Bool
 deeds:Int
 fused:Bool
 left:Int
structure dO (w:World) (b gn gl gf:Nat) (s:ic):Prop where
 n9:s.now.length<=10000
 ll:s.last.length=s.now.length
 fll:s.fl.length=(s.now.length+7)/8*8
 apart:s.now.length≠0->(gn≠b/\gl≠b/\gf≠b)/\gn≠gl/\gn≠gf/\gl≠gf
 at_:∃vn vl vf,bm w b #[vn,vl,vf,.int .i64 s.deeds,.bool s.fused,.int .i64 s.left] 100/\
  eE w vn gn 55 1 s.now.length (aR s.now)/\eE w vl gl 55 1 s.now.length (aR s.last)/\
  eE w vf gf 102 8 ((s.now.length+7)/8) (bools s.fl)
theorem dO.keep{s:ic}(h:dO w b gn gl gf s){l:List Nat}(y:ay l w w')(G:b∉l)(z:s.now.length≠0->gn∉l/\gl∉l/\gf∉l):dO w' b gn gl gf s:=by
 obtain⟨n9,ll,fll,U,V,J,W,a,c,d,e⟩:=h;exact⟨n9,ll,fll,U,V,J,W,a.keep y G,c.keepIf y λh=>(z h).1,d.keepIf y λh=>(z h).2.1,e.keepIf y λh=>(z (by omega)).2.2⟩
def ic.gone (s:ic):Bool:=s.fused&&s.left==0
def ic.refusal (s:ic) (i:Int):Int:=if s.gone=true then 9 else if i<0\/(s.now.length:Int)<=i then 1 else 0
def ic.count (s:ic):ic:={ s with deeds:=s.deeds+1,left:=if s.fused=true then s.left-1 else s.left }
def ic.fit (s:ic):Prop:=0<=s.deeds/\s.deeds<4611686018427387904/\0<=s.left/\s.left<=9223372036854775807
theorem QY (b:Nat)(fused:Bool)(left:Int)(w:World)
  (h:w.cell? ⟨b,4,none⟩=some (.bool fused)) (y:w.cell? ⟨b,5,none⟩=some (.int .i64 left)):
  Calls Tryz.prog 89 #[.pointer (some ⟨b,0,none⟩)] w λe w'=>e= .returned (.bool (fused&&left==0))/\w=w':=by
 cases fused
 ·go_enter Tryz.func89,Tryz.ntmps89
  go_wp2;go_ret;exact⟨rfl,rfl⟩
 ·go_enter Tryz.func89,Tryz.ntmps89
  go_wp2;go_ret;exact⟨rfl,rfl⟩
theorem Mr{s:ic}(h:dO w b gn gl gf s):
  Calls Tryz.prog 89 #[.pointer (some ⟨b,0,none⟩)] w λe w'=>e= .returned (.bool s.gone)/\w=w':=by
 obtain⟨y,G,z,a,c,d,e⟩:=h.at_;exact QY b s.fused s.left w (by rw[a.cell];rfl) (by rw[a.cell];rfl)
theorem uZ{s:ic}(h:dO w b gn gl gf s)(i:Int):
  Calls Tryz.prog 42 #[.pointer (some ⟨b,0,none⟩),.int .i64 i] w λe w'=>e= .returned (.int .i64 (s.refusal i))/\w=w':=by
 have G:=Mr h;have U:=h.n9;obtain⟨vn,vl,vf,a,c,d,e⟩:=h.at_;obtain⟨V,Z,rfl,_,_⟩:=c.val;have h0:w.cell? ⟨b,0,none⟩=some (.slice V s.now.length Z):=by rw[a.cell];rfl
 clear a c d e h;unfold ic.refusal;generalize s.gone=g at *;generalize s.now.length=n at *;have y:=ar G;clear G;cases g
 ·by_cases z:i<0
  ·rw[aA (by simp),aB (.inl z)]
   go_enter Tryz.func42,Tryz.ntmps42;go_wp2_with(go_at_call 89;refine y.out.mono ?_;rintro e w' ⟨rfl,rfl⟩);go_ret;exact⟨rfl,rfl⟩
  ·by_cases W:(n:Int)<=i
   ·rw[aA (by simp),aB (.inr W)]
    have J:decide (i<0)=false:=by simpa using z
    go_enter Tryz.func42,Tryz.ntmps42;go_wp2_with(go_at_call 89;refine y.out.mono ?_;rintro e w' ⟨rfl,rfl⟩);go_ret;exact⟨rfl,rfl⟩
   ·rw[aA (by simp),aA (by omega)]
    have J:decide (i<0)=false:=by simpa using z
    go_enter Tryz.func42,Tryz.ntmps42;go_wp2_with(go_at_call 89;refine y.out.mono ?_;rintro e w' ⟨rfl,rfl⟩);go_ret;exact⟨rfl,rfl⟩
 ·rw[aB rfl]
  go_enter Tryz.func42,Tryz.ntmps42;go_wp2_with(go_at_call 89;refine y.out.mono ?_;rintro e w' ⟨rfl,rfl⟩);go_ret;exact⟨rfl,rfl⟩
theorem Bc{s:ic}(h:dO w b gn gl gf s):
  Calls Tryz.prog 46 #[.pointer (some ⟨b,0,none⟩)] w λe w'=>e= .returned (.int .i64 (s.now.length:Int))/\w=w':=by
 obtain⟨U,J,V,a,c,d,e⟩:=h.at_;obtain⟨z,y,rfl,_,_⟩:=c.val;have G:w.cell? ⟨b,0,none⟩=some (.slice z s.now.length y):=by rw[a.cell];rfl
 clear a c d e h;generalize s.now.length=n at *;go_enter Tryz.func46,Tryz.ntmps46;go_wp2;go_ret;exact⟨rfl,rfl⟩
theorem dO.six{s z:ic}(h:dO w b gn gl gf s)(W:ay [b] w w')
  (hs:z.now=s.now/\z.last=s.last/\z.fl=s.fl)
  (hb:∀U G V,bm w b #[U,G,V,.int .i64 s.deeds,.bool s.fused,.int .i64 s.left] 100->bm w' b #[U,G,V,.int .i64 z.deeds,.bool z.fused,.int .i64 z.left] 100):dO w' b gn gl gf z:=by
 obtain⟨n9,ll,fll,J,U,G,V,a,c,d,e⟩:=h;obtain⟨y,Z,e3⟩:=hs;refine⟨by rw[y];exact n9,by rw[y,Z];exact ll,by rw[y,e3];exact fll,by rw[y];exact J,U,G,V,hb _ _ _ a,?_,?_,?_⟩
 ·rw[y];exact c.keepIf W λh=>by simpa using (J h).1.1
 ·rw[y,Z];exact d.keepIf W λh=>by simpa using (J h).1.2.1
 ·rw[y,e3];exact e.keepIf W λh=>by simpa using (J (by omega)).1.2.2
theorem Bd{s:ic}(h:dO w b gn gl gf s)(Z:s.fit)(W:s.gone=false):
  Calls Tryz.prog 43 #[.pointer (some ⟨b,0,none⟩)] w λe w'=>e= .returned (.tuple #[])/\dO w' b gn gl gf s.count/\ay [b] w w':=by
 obtain⟨f1,f2,f3,f4⟩:=Z;obtain⟨J,G,U,a,-,-,-⟩:=h.at_;have h3:w.cell? ⟨b,3,none⟩=some (.int .i64 s.deeds):=by rw[a.cell];rfl
 have V:w.cell? ⟨b,4,none⟩=some (.bool s.fused):=by rw[a.cell];rfl
 have h5:w.cell? ⟨b,5,none⟩=some (.int .i64 s.left):=by rw[a.cell];rfl
 have g3:w.frozen? ⟨b,3,none⟩=false:=a.frozen 3;have g5:w.frozen? ⟨b,5,none⟩=false:=a.frozen 5;clear a J G U;have H:=ar h;clear h;have HG:=ar W;clear W;cases Yw:s.fused
 ·rw[Yw] at V
  have z:=ar Yw;clear Yw;go_enter Tryz.func43,Tryz.ntmps43;go_wp2;go_end0;have y:ay [b] w (w.setCell ⟨b,3,none⟩ (.int .i64 (s.deeds+1))):=(ay.refl _ _).setCell (by simp) _;refine⟨rfl,H.out.six y ⟨rfl,rfl,rfl⟩ λJ G U a=> ?_,y⟩;simpa[ic.count,z.out] using a.set 3 (.int .i64 (s.deeds+1))
 ·rw[Yw] at V
  have hl:s.left≠0:=by
   intro e;have :=HG.out;simp[ic.gone,Yw,e] at this
  have z:=ar Yw;clear Yw;go_enter Tryz.func43,Tryz.ntmps43;go_wp2;go_end0;have y:ay [b] w ((w.setCell ⟨b,3,none⟩ (.int .i64 (s.deeds+1))).setCell ⟨b,5,none⟩ (.int .i64 (s.left-1))):=((ay.refl _ _).setCell (by simp) _).setCell (by simp) _;refine⟨rfl,H.out.six y ⟨rfl,rfl,rfl⟩ λJ G U a=> ?_,y⟩;simpa[ic.count,z.out] using (a.set 3 (.int .i64 (s.deeds+1))).set 5 (.int .i64 (s.left-1))
theorem QZ{s:ic}(h:dO w b gn gl gf s)(i:Nat)(U:i<s.now.length):
  Calls Tryz.prog 53 #[.pointer (some ⟨b,0,none⟩),.int .i64 (i:Int)] w λe w'=>e= .returned (.bool (s.now.getD i 0 != s.last.getD i 0))/\∃n,w'=w.drewN n:=by
 have G:=h.n9;have V:=h.ll;obtain⟨vn,vl,vf,a,c,d,-⟩:=h.at_;obtain⟨-,⟨J,rfl,q1,q2⟩,q3,-⟩:=c.cell (by omega);obtain⟨-,⟨W,rfl,q4,q5⟩,z,-⟩:=d.cell (by omega);have h0:w.cell? ⟨b,0,none⟩=some (.slice (some ⟨gn,0,none⟩) s.now.length J):=by rw[a.cell];rfl
 have h1:w.cell? ⟨b,1,none⟩=some (.slice (some ⟨gl,0,none⟩) s.now.length W):=by rw[a.cell];rfl
 have k0:w.cell? ⟨gn,i,none⟩=some (.int .u64 (s.now.getD i 0)):=by rw[q3 i (by omega),cC U]
 have k1:w.cell? ⟨gl,i,none⟩=some (.int .u64 (s.last.getD i 0)):=by rw[z i (by omega),cC (by omega)]
 clear a c d q3 z h V;generalize s.now.getD i 0=x at *;generalize s.last.getD i 0=y at *;generalize s.now.length=n at *;have b1:(0:Int)<=(i:Int):=by omega
 have Z:(i:Int)<(n:Int):=by omega
 go_enter Tryz.func53,Tryz.ntmps53;go_wp2
 go_quiet (fail)
 go_wp2;go_ret;exact⟨rfl,_,rfl⟩
def ic.load (s:ic) (i:Int):Int:=if s.refusal i=0 then s.now.getD i.toNat 0 else 0
def ic.store (s:ic) (i x:Int):ic:=if s.refusal i=0 then { s.count with now:=s.now.set i.toNat x,fl:=s.fl.set i.toNat false } else s
theorem ic.refusal_ok{s:ic}{i:Int}(h:s.refusal i=0):s.gone=false/\0<=i/\i<s.now.length:=by
 unfold ic.refusal at h;cases hg:s.gone<;>simp[hg] at h
 exact⟨rfl,by omega,by omega⟩
theorem Fp{s:ic}(h:dO w b gn gl gf s)(i:Int):
  Calls Tryz.prog 52 #[.pointer (some ⟨b,0,none⟩),.int .i64 i] w λe w'=>e= .returned (.tuple #[.int .u64 (s.load i),.int .i64 (s.refusal i)])/\w=w':=by
 have z:=ar (uZ h i);by_cases y:s.refusal i=0
 ·obtain⟨-,V,W⟩:=ic.refusal_ok y
  obtain⟨i,rfl⟩:=cj V;have J:=h.n9;obtain⟨vn,vl,vf,a,c,-,-⟩:=h.at_;obtain⟨-,⟨U,rfl,q1,q2⟩,q3,-⟩:=c.cell (by omega);have k0:w.cell? ⟨b,0,none⟩=some (.slice (some ⟨gn,0,none⟩) s.now.length U):=by rw[a.cell];rfl
  have k1:w.cell? ⟨gn,i,none⟩=some (.int .u64 (s.load (i:Int))):=by rw[q3 i (by omega),cC (by omega),ic.load,aB y];rfl
  clear a c q3 h;rw[y] at z ⊢;clear y;generalize s.load i=x at *;generalize s.now.length=n at *;go_enter Tryz.func52,Tryz.ntmps52;go_wp2_with(go_at_call 42;refine z.out.mono ?_;rintro e w' ⟨rfl,rfl⟩);go_ret2;exact⟨rfl,rfl⟩
 ·have G:s.load i=0:=by rw[ic.load,aA y]
  rw[G];have Z:(s.refusal i != 0)=true:=by simpa using y
  generalize s.refusal i=r at *;clear h G y;go_enter Tryz.func52,Tryz.ntmps52;go_wp2_with(go_at_call 42;refine z.out.mono ?_;rintro e w' ⟨rfl,rfl⟩);go_ret2;exact⟨rfl,rfl⟩
theorem dO.store{s:ic}(h:dO w b gn gl gf s)(G:s.now.length≠0)(i:Nat)(x:Int):
  dO ((w.setCell ⟨gn,i,none⟩ (.int .u64 x)).setCell ⟨gf,i,none⟩ (.bool false)) b gn gl gf { s with now:=s.now.set i x,fl:=s.fl.set i false }:=by
 obtain⟨n9,ll,fll,z,vn,U,vf,a,c,d,e⟩:=h;obtain⟨⟨V,p2,W⟩,Z,y,J⟩:=z G;refine⟨by simpa using n9,by simpa using ll,by simpa using fll,by simpa using z,vn,U,vf,?_,?_,?_,?_⟩
 ·exact(a.other (a:=⟨gn,i,none⟩) (dx V) _).other (a:=⟨gf,i,none⟩) (dx W) _
 ·have :=(c.set i (.int .u64 x)).keep (((ay.refl [gf] _).setCell (p:=⟨gf,i,none⟩) (by simp) (.bool false))) (by simpa using y)
  simpa[jw] using this
 ·have :=(d.keep ((ay.refl [gn] _).setCell (p:=⟨gn,i,none⟩) (by simp) (.int .u64 x)) (by simpa using dx Z)).keep (((ay.refl [gf] _).setCell (p:=⟨gf,i,none⟩) (by simp) (.bool false))) (by simpa using J)
  simpa using this
 ·have :=(e.keep ((ay.refl [gn] _).setCell (p:=⟨gn,i,none⟩) (by simp) (.int .u64 x)) (by simpa using dx y)).set i (.bool false)
  simpa[xR] using this
theorem G7{s:ic}(h:dO w b gn gl gf s)(hf:s.fit)(i x:Int):
  Calls Tryz.prog 21 #[.pointer (some ⟨b,0,none⟩),.int .i64 i,.int .u64 x] w λe w'=>e= .returned (.int .i64 (s.refusal i))/\dO w' b gn gl gf (s.store i x)/\ay [b,gn,gl,gf] w w':=by
 have J:=ar (uZ h i);by_cases y:s.refusal i=0
 ·obtain⟨hg,i0,i1⟩:=ic.refusal_ok y
  rw[ic.store,aB y];obtain⟨i,rfl⟩:=cj i0;rw[y] at J ⊢;have aa:=h.n9;have hc:=ar (Bd h hf hg);clear y h hf;go_enter Tryz.func21,Tryz.ntmps21;go_wp2_with fail;refine J.out.mono ?_;rintro e w' ⟨rfl,rfl⟩;go_wp2_with fail;refine hc.out.mono ?_;rintro e z ⟨rfl,h,hk⟩;obtain⟨vn,vl,vf,a,c,d,e⟩:=h.at_;have ec:s.count.now.length=s.now.length:=rfl;obtain⟨-,⟨cn,rfl,q1,q2⟩,q3,U⟩:=c.cell (by omega);obtain⟨-,⟨cf,rfl,r1,r2⟩,W,Z⟩:=e.cell (by omega);have ap:=(h.apart (by omega)).2.2.1;have k0:z.cell? ⟨b,0,none⟩=some (.slice (some ⟨gn,0,none⟩) s.now.length cn):=by rw[a.cell];rfl
  have k1:z.cell? ⟨gn,i,none⟩=some (.int .u64 (s.now.getD i 0)):=by rw[q3 i (by omega),cC (by omega)];rfl
  have k2:z.frozen? ⟨gn,i,none⟩=false:=U i;have k3:(z.setCell ⟨gn,i,none⟩ (.int .u64 x)).cell? ⟨b,2,none⟩=some (.slice (some ⟨gf,0,none⟩) ((s.now.length+7)/8) cf):=by
   rw[(a.other (a:=⟨gn,i,none⟩) (dx (h.apart (by omega)).1.1) _).cell];rfl
  have G:i/8*8+i%8=i:=by omega
  have k4:z.cell? ⟨gf,i/8*8+i%8,none⟩=some (.bool (s.fl.getD i false)):=by
   have :=h.fll;rw[G,W i (by omega),pO (by omega)];rfl
  have k5:z.frozen? ⟨gf,i/8*8+i%8,none⟩=false:=Z _;have V:=h.store (by omega) i x;have HE:=ar G;have HS:=ar V;clear a c d e q3 W U Z G V;go_wp2_with fail;go_ret;refine⟨rfl,?_,((hk.mono (by simp)).setCell (by simp) _).setCell (by simp) _⟩;rw[HE.out];exact HS.out
 ·rw[ic.store,aA y]
  have h1:(s.refusal i != 0)=true:=by simpa using y
  have H:=ar h;generalize s.refusal i=r at *;clear h y;go_enter Tryz.func21,Tryz.ntmps21;go_wp2_with(go_at_call 42;refine J.out.mono ?_;rintro e w' ⟨rfl,rfl⟩);go_ret;exact⟨rfl,H.out,ay.refl _ _⟩
def d8s (l:List Int):List Value:=l.map (Value.int .u8)
def dirtyN:List Int->List Int->Nat
 |a::l,b::m=>(if a=b then 0 else 1)+dirtyN l m
 |_,_=>0
theorem D7:∀(l m:List Int),dirtyN l m<=l.length
 | [],_=>by simp[dirtyN]
 |_::_,[]=>by simp[dirtyN]
 |a::l,b::m=>by
  have :=D7 l m;simp only[dirtyN,bH];split<;>omega
theorem y9:∀(l m:List Int) (k:Nat),k<l.length->l.length=m.length->dirtyN (l.take (k+1)) (m.take (k+1))=dirtyN (l.take k) (m.take k)+if l.getD k 0=m.getD k 0 then 0 else 1
 | [],_,k,h,_=>by simp at h
 |a::l,[],k,_,h=>by simp at h
 |a::l,b::m,0,_,_=>by simp[dirtyN]
 |a::l,b::m,k+1,h,e=>by
  have :=y9 l m k (by simpa using h) (by simpa using e);simp only[List.take_succ_cons,dirtyN] at *;simp only[List.getD_cons_succ];omega
theorem dO.drewN{s:ic}(h:dO w b gn gl gf s)(n:Nat):dO (w.drewN n) b gn gl gf s:=
 h.keep ((ay.refl [] w).drewN n) (by simp) (by simp)
def ic.dirtyN (s:ic):Nat:=Go.Proofs.YtcecbdeamjigiaaGreatDoor.dirtyN s.now s.last
theorem Q0{s:ic}(h:dO w b gn gl gf s):
  Calls Tryz.prog 27 #[.pointer (some ⟨b,0,none⟩)] w λe w'=>e= .returned (.int .i64 (s.dirtyN:Int))/\∃n,w'=w.drewN n:=by
 have aa:=h.n9;have Z:=ar h.ll;obtain⟨vn,vl,vf,a,c,-,-⟩:=h.at_;obtain⟨an,cn,rfl,_,_⟩:=c.val;have h0:w.cell? ⟨b,0,none⟩=some (.slice an s.now.length cn):=by rw[a.cell];rfl
 have H:=ar h;clear a c h;go_enter Tryz.func27,Tryz.ntmps27;go_wp2
 go_loopw [3,10] (λc i wr=>∃k m:Nat,k<=s.now.length/\i= .int .i64 (k:Int)/\c= .int .i64 (dirtyN (s.now.take k) (s.last.take k):Int)/\wr=w.drewN m) (λ_ i _=>s.now.length-(intOf i).toNat)
 case atStart=>exact⟨0,0,et _,rfl,by simp[dirtyN],rfl⟩
 case round=>
  obtain⟨k,m,hk,rfl,rfl,rfl⟩:=hrel;have hd:=D7 (s.now.take k) (s.last.take k);have hl:(s.now.take k).length<=k:=List.length_take_le _ _;by_cases z:k<s.now.length
  ·have J:=ar (QZ (H.out.drewN m) k z)
   have U:=ar (y9 s.now s.last k z Z.out.symm);by_cases y:s.now.getD k 0=s.last.getD k 0
   ·have G:(s.now.getD k 0 != s.last.getD k 0)=false:=by simpa using y
    rw[G] at J;rw[aB y] at U;clear y G;go_wp2_with(go_at_call 53;refine J.out.mono ?_;rintro e w' ⟨rfl,W,rfl⟩)
    go_roundw
    case rel=>exact⟨k+1,m+W,by omega,by go_num,by rw[U.out];go_num,rfl⟩
    case measure=>simp[intOf];omega
   ·have G:(s.now.getD k 0 != s.last.getD k 0)=true:=by simpa using y
    rw[G] at J;rw[aA y] at U;clear y G;go_wp2_with(go_at_call 53;refine J.out.mono ?_;rintro e w' ⟨rfl,W,rfl⟩)
    go_roundw
    case rel=>exact⟨k+1,m+W,by omega,by go_num,by rw[U.out];go_num,rfl⟩
    case measure=>simp[intOf];omega
  ·have V:k=s.now.length:=by omega
   have HL:=ar (show dirtyN (s.now.take k) (s.last.take k)=s.dirtyN by rw[ic.dirtyN,aQ (by omega),aQ (by rw[Z.out];omega)]);clear V;go_wp2;go_ret;exact⟨by rw[HL.out];rfl,m,rfl⟩
end Go.Proofs.YtcecbdeamjigiaaGreatDoor
