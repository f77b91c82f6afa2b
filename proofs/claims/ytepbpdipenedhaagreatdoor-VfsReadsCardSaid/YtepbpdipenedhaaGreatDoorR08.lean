/- Lemmas. -/
import Derived.Test.YtepbpdipenedhaaGreatDoorR07
import Derived.Deep.RegionHeld3
set_option maxHeartbeats 8000000
set_option maxRecDepth 100000
namespace Go.Proofs.YtepbpdipenedhaaGreatDoor
open Go.Proofs.Tryz
variable{W w w5:World}{n:bP}{own z:List Nat}{T U V b cap g wB:Nat}{a:Option Addr}{E:List (ByteArray×Int)}{v:Value}{B l:List Int}{ps:List (Int×Int)}
section
variable {P:Program} {ops:Array Oper} {Q:Exit->Act->World->Prop} {md:Region.Mode}
def oO (h:Array Bool):List Nat->Array Bool
 | []=>h
 |i::is=>oO (h.setIfInBounds i true) is
def Q7 (md:Region.Mode) (ops:Array Oper) (F L:Nat) (h:Array Bool):List Nat->Bool
 | []=>true
 |i::is=>Region.free md ops h i&&(Region.ready md ops h).contains i&&(i != F)&&(i != L)&&leads md ops ops.size i L&&Q7 md ops F L (h.setIfInBounds i true) is
theorem aeU {S:Bool->World->Prop}{F L:Nat}(ae:Region.noSelect ops=true)(hQ:∀d v c a w,Q (.panic c) (Act.put a d v) w->Q (.panic c) a w){E:Act->Prop}(m:Nat)(done:Array Bool)
  (U:∀a,E a->sV P md ops Q S F L m done a):∀(J:List Nat) (l:List Oper) (z:Array Bool) (a:Act),xf md ops z->Q7 md ops F L z J=true->oO z J=done->
   l=J.filterMap (λi=>ops[i]?)->l.length=J.length->fG P ops S E l a->sV P md ops Q S F L (m+J.length) z a:=by
 intro J;induction J with
 |nil=>
  intro l z a _ _ hd W _ h;have aa:l=[]:=by rw[W];rfl
  subst aa;have ac:z=done:=hd;subst ac;exact U a h
 |cons i J ih=>
  intro l z a hc hp hd W G h;unfold Q7 at hp;simp only[fD,bne_iff_ne,ne_eq] at hp;obtain⟨⟨⟨⟨⟨c1,c2⟩,c3⟩,c4⟩,c5⟩,c6⟩:=hp;cases ho:ops[i]? with
  |none=>
   exfalso
   rw[W,fe,ho] at G;have :=List.length_filterMap_le (λi=>ops[i]?) J;simp only[bQ] at G;omega
  |some o=>
   rw[fe,ho] at W;subst W;obtain⟨v,hv,hr⟩:=h;have wP:i∈Region.ready md ops z:=by simpa using c2
   have V:=ih _ (z.setIfInBounds i true) (a.put o.dst v) (zo hc wP) c6 hd rfl (by simpa using G) hr;rw[bQ,<-Nat.add_assoc];exact Aq ho c4 c3 (Region.noSelect_spec ae) (hQ o.dst v) (.inr c5) _ _ a hc (Region.free_spec ho c1) wP hv V
end
end Go.Proofs.YtepbpdipenedhaaGreatDoor
namespace Go.Proofs.YtepbpdipenedhaaGreatDoor
open Go.Proofs.Tryz
open Go.RowKit
variable{W w w5:World}{n:bP}{own z:List Nat}{T U V b cap g wB:Nat}{a:Option Addr}{E:List (ByteArray×Int)}{v:Value}{B l:List Int}{ps:List (Int×Int)}
section
variable {P:Program} {ops:Array Oper} {Q:Exit->Act->World->Prop} {md:Region.Mode} {S:World->Prop}
def aaF (S:World->Prop) (K:Act->World->Prop) (Q:Exit->Act->World->Prop):Exit->Act->World->Prop
 | .normal,a,w=>S w/\K a w
 |e,a,w=>Q e a w
def gI (P:Program) (ops:Array Oper) (Q:Exit->Act->World->Prop) (S:World->Prop):List Oper->Act->World->Prop
 | [],a,w=>Q .normal a w
 |o::rest,a,w=>wpList P ops (aaF S (gI P ops Q S rest) Q) [o] a w
def cN (P:Program) (ops:Array Oper) (S:World->Prop) (E:Act->Prop):List Oper->Act->Prop
 | [],a=>E a
 |o::rest,a=>∃v,YieldsIf P ops S o v a/\cN P ops S E rest (a.put o.dst v)
theorem AA {i:Nat}{o:Oper}{K:Act->World->Prop}{a:Act}{w:World}(V:ops[i]? =some o)(h:wpList P ops (aaF S K Q) [o] a w):wpOp P ops Q i (λa w=>S w/\K a w) a w:=by
 unfold Go.wpOp;simp only[V];unfold wpList at h;split
 ·rename_i hw
  rw[aC hw] at h;rcases h with h|⟨J,U⟩
  ·refine .inl ?_
   unfold Oper.wp at *;generalize (execOp a.eval o).run P w=r at *;cases r with
   |ok n w'=>
    cases n<;>simp only[Oper.upon] at h ⊢
    case value u=>exact h
    case skip=>exact h
    case defer d=>exact h
    case enter f args=>
     refine Calls.mono h λe G z=> ?_
     cases e with
     |returned u=>exact z
     |panicked c=>exact z
     |outgrown=>exact z
    case row row args=>exact Rows.mono h λu G z=>z
   |halt x w'=>
    cases x<;>simp only[Oper.upon] at h ⊢
    case panic u=>exact h
  ·exact .inr ⟨J,U⟩
 ·rename_i hw
  rw[aB hw] at h;exact h
def C4 (md:Region.Mode) (ops:Array Oper) (h:Array Bool):List Nat->Bool
 | []=>true
 |i::is=>Region.free md ops h i&&(Region.ready md ops h).contains i&&C4 md ops (h.setIfInBounds i true) is
def yQ (md:Region.Mode) (ops:Array Oper) (h:Array Bool):List Nat->Bool
 | []=>Region.ready md ops h == []
 |i::is=>(Region.ready md ops h == [i])&&yQ md ops (h.setIfInBounds i true) is
theorem C5:∀(G:List Nat) (tl:List Oper) (z:Array Bool) (a:Act) (w:World),yQ md ops z G=true->tl=G.filterMap (λi=>ops[i]?)->tl.length=G.length->gI P ops Q S tl a w->
  wpAnyH P md ops Q S G.length z a w
 | [],tl,z,a,w,hb,hl,_,h=>by
  have :tl=[]:=by rw[hl];rfl
  subst this;exact wpAnyH_done (by simpa[yQ] using hb) h 0
 |i::is,tl,z,a,w,hb,hl,hlen,h=>by
  unfold yQ at hb;simp only[fD] at hb;have V:Region.ready md ops z=[i]:=by simpa using hb.1
  cases ho:ops[i]? with
  |none=>
   exfalso
   rw[hl,fe,ho] at hlen;have :=List.length_filterMap_le (λi=>ops[i]?) is;simp only[bQ] at hlen;omega
  |some o=>
   rw[fe,ho] at hl;subst hl;refine wpAnyH_all V (by simp) λj U=> ?_
   rw[ay] at U;subst U;exact wpOp_mono (λW w' J=>⟨J.1,C5 is _ _ W w' hb.2 rfl (by simpa using hlen) J.2⟩) (AA ho h)
theorem AB (J:Region.noSelect ops=true)(V:∀d v c a w,Q (.panic c) (Act.put a d v) w->Q (.panic c) a w)(G:List Nat)(tl:List Oper)(w:World)(W:S w)(U:tl=G.filterMap (λi=>ops[i]?))(S5:tl.length=G.length):
  ∀(path:List Nat) (l:List Oper) (z:Array Bool) (a:Act),C4 md ops z path=true->yQ md ops (oO z path) G=true->l=path.filterMap (λi=>ops[i]?)->l.length=path.length->
   cN P ops S (λa=>gI P ops Q S tl a w) l a->wpAnyH P md ops Q S (G.length+path.length) z a w
 | [],l,z,a,_,hb,hl,_,h=>by
  have :l=[]:=by rw[hl];rfl
  subst this;exact C5 G tl z a w hb U S5 h
 |i::is,l,z,a,ht,hb,hl,hlen,h=>by
  unfold C4 at ht;simp only[fD] at ht;cases ho:ops[i]? with
  |none=>
   exfalso
   rw[hl,fe,ho] at hlen;have :=List.length_filterMap_le (λi=>ops[i]?) is;simp only[bQ] at hlen;omega
  |some o=>
   rw[fe,ho] at hl;subst hl;obtain⟨v,hv,hr⟩:=h;rw[bQ,<-Nat.add_assoc];exact wpAnyH_take ho J ht.1.1 ht.1.2 (V o.dst v) hv W (AB J V G tl w W U S5 is _ _ _ ht.2 hb rfl (by simpa using hlen) hr)
theorem C7 {a:Act}{w:World}(path z:List Nat){l tl:List Oper}(J:Region.noSelect ops=true)(ht:C4 .any ops (Array.replicate ops.size false) path=true)(hb:yQ .any ops (oO (Array.replicate ops.size false) path) z=true)
  (hl:l=path.filterMap (λi=>ops[i]?)) (U:l.length=path.length) (V:tl=z.filterMap (λi=>ops[i]?)) (S5:tl.length=z.length) (G:z.length+path.length=ops.size)
  (W:∀d v c a w,Q (.panic c) (Act.put a d v) w->Q (.panic c) a w) (hS:S w) (h:cN P ops S (λa=>gI P ops Q S tl a w) l a):wpAny P .any ops Q ops.size (Array.replicate ops.size false) a w:=by
 rw[<-G];refine wpAny_of_held _ _ _ _ (AB J W z tl w hS V S5 path l _ a ?_ ?_ hl U h)
 ·rw[G];exact ht
 ·rw[G];exact hb
theorem jX {id:Nat}{a:Act}{w:World}(path z:List Nat){l tl:List Oper}(hm:P.follows .mixedOrders=true)(J:Region.noSelect ops=true)(ht:C4 .any ops (Array.replicate ops.size false) path=true)(hb:yQ .any ops (oO (Array.replicate ops.size false) path) z=true)
  (hl:l=path.filterMap (λi=>ops[i]?)) (U:l.length=path.length) (V:tl=z.filterMap (λi=>ops[i]?)) (S5:tl.length=z.length) (G:z.length+path.length=ops.size)
  (W:∀d v c a w,Q (.panic c) (Act.put a d v) w->Q (.panic c) a w) (hS:S w.drew) (h:cN P ops S (λa=>gI P ops Q S tl a w.drew) l a):(Code.region id ops true).wp P Q a w:=
 jn hm (C7 path z J ht hb hl U V S5 G W hS h)
def AE (ops:Array Oper):Bool:=ops.all λo=>match o.op with | .defer _=>false|_=>true
theorem AF (h:AE ops=true):∀(i:Nat) (o:Oper),ops[i]? =some o->∀c,o.op≠.defer c:=λi o G c e=>by
 unfold AE at h;rw[Array.all_eq_true] at h;obtain⟨z,J⟩:=Array.getElem?_eq_some_iff.1 G;have :=h i z;rw[J] at this;simp only[e] at this;cases this
theorem qI:∀(l:List Oper),(List.range l.length).filterMap (λi=>l[i]?)=l
 | []=>rfl
 |o::l=>by
  rw[bQ,List.range_succ_eq_map,fe];simp only[List.getElem?_cons_zero];rw[List.filterMap_map]
  congr 1
  exact qI l
theorem rL {f g:Nat->Option Oper}:∀{l:List Nat},(∀i,i∈l->f i=g i)->l.filterMap f=l.filterMap g
 | [],_=>rfl
 |i::l,h=>by
  rw[fe,fe,h i (by simp),rL λj z=>h j (by simp[z])]
theorem xp {l tl:List Oper}(h:ops.toList=l++tl):l=(List.range l.length).filterMap (λi=>ops[i]?)/\tl=((List.range tl.length).map (l.length+·)).filterMap (λi=>ops[i]?):=by
 have z:∀i,ops[i]? =(l++tl)[i]? :=λi=>by rw[<-h,dw]
 constructor
 ·refine(qI l).symm.trans (rL λi G=> ?_)
  rw[z,aY (by simpa using G)]
 ·rw[List.filterMap_map]
  refine(qI tl).symm.trans (rL λi G=> ?_);show _=ops[l.length+i]?;rw[z,aQ (by omega),cY]
theorem Fs {a:Act}{w:World}{l tl:List Oper}(z:ops.toList=l++tl)(G:Region.noSelect ops=true)(U:C4 .any ops (Array.replicate ops.size false) (List.range l.length)=true)(V:yQ .any ops (oO (Array.replicate ops.size false) (List.range l.length)) ((List.range tl.length).map (l.length+·))=true)
  (J:∀d v c a w,Q (.panic c) (Act.put a d v) w->Q (.panic c) a w) (W:S w) (h:cN P ops S (λa=>gI P ops Q S tl a w) l a):wpAny P .any ops Q ops.size (Array.replicate ops.size false) a w:=
 C7 (List.range l.length) ((List.range tl.length).map (l.length+·)) G U V (xp z).1 (by simp) (xp z).2 (by simp) (by rw[<-dm,z];simp;omega) J W h
theorem xq {id:Nat}{a:Act}{w:World}{l tl:List Oper}(V:P.follows .mixedOrders=true)(J:ops.toList=l++tl)(z:Region.noSelect ops=true)(U:C4 .any ops (Array.replicate ops.size false) (List.range l.length)=true)(W:yQ .any ops (oO (Array.replicate ops.size false) (List.range l.length)) ((List.range tl.length).map (l.length+·))=true)
  (G:∀d v c a w,Q (.panic c) (Act.put a d v) w->Q (.panic c) a w) (hS:S w.drew) (h:cN P ops S (λa=>gI P ops Q S tl a w.drew) l a):(Code.region id ops true).wp P Q a w:=
 jn V (Fs J z U W G hS h)
theorem tU {n:Nat}{r:Option Nat}{id:Nat}{a:Act}{w:World}{l tl:List Oper}(W:P.follows .mixedOrders=true)(V:ops.toList=l++tl)(z:Region.noSelect ops=true)(hq:¬LetsOut Q)(J:AE ops=true)(U:C4 .any ops (Array.replicate ops.size false) (List.range l.length)=true)(hb:yQ .any ops (oO (Array.replicate ops.size false) (List.range l.length)) ((List.range tl.length).map (l.length+·))=true)
  (G:∀d v c a w,Q (.panic c) (Act.put a d v) w->Q (.panic c) a w) (hS:S w.drew) (h:cN P ops S (λa=>gI P ops Q S tl a w.drew) l a):(Code.region id ops true).wpIn { Fence.wide with round:=r } n P Q a w:=
 xc W hq (AF J) (Fs V z U hb G hS h)
theorem cN.cons{E:Act->Prop}{o:Oper}{rest:List Oper}{a:Act}(v:Value)(h:YieldsIf P ops S o v a)(z:cN P ops S E rest (a.put o.dst v)):cN P ops S E (o::rest) a:=⟨v,h,z⟩
theorem cN.done{E:Act->Prop}{a:Act}(h:E a):cN P ops S E [] a:=h
theorem YieldsIf.val{o:Oper}{v:Value}{a:Act}(z:Region.wanted o (yielded ops a.tmps)=true)(h:∀w,S w->(execOp a.eval o).run P w= .ok (.value v) w):YieldsIf P ops S o v a:= .inl ⟨z,h⟩
theorem YieldsIf.load{o:Oper}{v:Value}{a:Act}(V:Region.wanted o (yielded ops a.tmps)=true)(ty:TypeId)(x:Operand)(J:o.op= .load ty x)(z:Addr)(G:a.eval x= .pointer (some z))(h:∀w,S w->(loadVar ty z).run P w= .ok v w):YieldsIf P ops S o v a:=
 YieldsIf.val V λw U=>by
  unfold execOp;simp only[J,G,Instr.loadAt,Instr.sureAddr,cg,fO,cm,h w U]
end
end Go.Proofs.YtepbpdipenedhaaGreatDoor
namespace Go.Proofs.YtepbpdipenedhaaGreatDoor
open Go.Proofs.Tryz
open Go.RowKit Go.Shelf
variable{W w w5:World}{n:bP}{own z:List Nat}{T U V b cap g wB:Nat}{a:Option Addr}{E:List (ByteArray×Int)}{v:Value}{B l:List Int}{ps:List (Int×Int)}
attribute [local go_sem] jO
theorem Tryz.info_r8:(prog.info? 195).map (λi=>(i.zero,i.size,i.bytes))=some (some (.agg #[.int .u64 0,.int .u64 0,.int .u64 0,.int .u64 0,.int .u64 0,.int .u64 0,.int .u64 0,.int .u64 0]),8,64):=by kernel_rfl
theorem S6 (n:Nat)(W:n<=100000)(m:Int)(U:m=(n:Int))(w:World):(Instr.makeSlice 244 (.int .i64 m) (.int .i64 m)).run prog w=
  .ok (.slice (some ⟨w.heap.size,0,none⟩) n n) (w.alloc (.cells (madeCells #[.int .u64 0,.int .u64 0,.int .u64 0,.int .u64 0,.int .u64 0,.int .u64 0,.int .u64 0,.int .u64 0] (n*8)) 195)):=by
 subst U;obtain⟨V,J,h,z,G⟩:=cP Tryz.info_r8;have :=run_make (P:= prog) w 244 195 V _ underlying244 J h .i64 .i64 (n:Int) (n:Int) (by omega) (by omega) (by rw[G];omega) (by omega);rw[z,aH] at this;exact this
theorem S7 (n:Nat):madeCells #[Value.int .u64 0,.int .u64 0,.int .u64 0,.int .u64 0,.int .u64 0,.int .u64 0,.int .u64 0,.int .u64 0] (n*8)=(aW (List.replicate (8*n) 0)).toArray:=by
 apply Array.toList_inj.1;apply ck;intro j;simp only[madeCells,Array.toList_map,Array.toList_range,bF,aW,List.map_replicate,bo];by_cases h:j<n*8
 ·rw[cA h,aC (by omega)]
  have z:j%8<8:=iw _ (by omega);show some ((#[Value.int .u64 0,.int .u64 0,.int .u64 0,.int .u64 0,.int .u64 0,.int .u64 0,.int .u64 0,.int .u64 0]:Array Value)[j%8]!)=_;generalize j%8=q at *;rcases (show q=0\/q=1\/q=2\/q=3\/q=4\/q=5\/q=6\/q=7 by omega) with rfl|rfl|rfl|rfl|rfl|rfl|rfl|rfl<;>rfl
 ·rw[aT (by simpa using h),aB (by omega)]
  rfl
structure Fu (w5 wx:World) (n:bP) (own:List Nat) (gB wB fB:Nat) (b:Nat) (pre:List Nat):Prop where
 keep:az [gB,wB,fB] w5 wx
 rows:∃C,BU n.E own b pre C/\bh wx gB (aW C).toArray 195
 row:bh wx wB (aW (qH n own b pre.length)).toArray 195
 fill:bh wx fB #[.int .i64 ((fN n.E b+pre.length:Nat):Int)] 3
def ab7 (D:Nat):Deferred:={ target:= .collected D,args:= #[] }
theorem lQ {P:Program}{n:Nat}{fn:Func}{tmps:Array Value}{R:Ending->World->Prop}:∀(z:List Nat) (W:World),z.Nodup->(∀D∈z,W.heap[D]? =some (.deferred (some [])))->
  (∀G,az z W G->∃v,(results fn tmps).run P G= .ok v G/\R (.returned v) G)->LeavesInM Fence.wide n P fn tmps R (z.map ab7) .returning W
 | [],W,_,_,h=>h W (az.refl _ _)
 |D::z,W,hn,hm,h=>by
  have h1:=hm D (by simp);have aa:=(Array.getElem?_eq_some_iff.1 h1).1;have J:az [D] W (W.putObj D (.deferred none)):=az.of_grown (grownBy_putObj' W D _) λk J=> .inl (by cases J;simp)
  refine⟨by simp,.inl ⟨D,_,rfl,run_takeDeferred h1,?_⟩⟩;rw[List.nodup_cons] at hn;refine lQ z _ hn.2 (λD' U=> ?_) λG V=>h G ?_
  ·have h2:=hm D' (by simp[U])
   refine(World.putObj_heap_other (λe=>hn.1 (by rw[<-e];exact U))).trans h2
  ·exact(J.mono (by simp)).trans' (V.mono λk J _=>eQ _ J)
theorem Fu.turn{A:World}(h:Fu w5 A n own V wB U b z){row:Option Nat}{B:Nat}(J:A.grownBy W row)(G:∀r,row=some r->B<=r/\∃o:Obj,A.heap[r]? =some o/\o.isCells=false)(hB:w5.heap.size<=B):Fu w5 W n own V wB U b z:=by
 obtain⟨h1,⟨C,h2,h3⟩,h4,h5⟩:=h;exact⟨h1.turn J (λr e=>(G r e).1) hB,⟨C,h2,h3.turn J λr e=>(G r e).2⟩,h4.turn J λr e=>(G r e).2,h5.turn J λr e=>(G r e).2⟩
def S8 (E:List (ByteArray×Int)) (h z b p:Nat):Addr:=if p=0 then ⟨z,2+b,none⟩ else ⟨h,8*(fN E b+p-1),none⟩
theorem Fu.link{fB f:Nat}(h:Fu w5 W n own U wB fB b z)(hb:b<4)(V:f=fN n.E b+z.length)(ac:f<own.length)(aa:U≠wB):
  ∃G lo C1 ae,S8 n.E U wB b z.length=⟨G,lo,none⟩/\(G=U\/G=wB)/\W.cell? ⟨G,lo,none⟩=some (.int .u64 ae)/\W.frozen? ⟨G,lo,none⟩=false/\8*f+7<C1.length/\
   (∀x,BU n.E own b (z++[x]) (Fq C1 (8*f+1) (eK (xU (ez n.E b) x))))/\
   bh (W.drew.setCell ⟨G,lo,none⟩ (.int .u64 ((own.getD f 0:Nat):Int))) U (aW C1).toArray 195/\bh (W.drew.setCell ⟨G,lo,none⟩ (.int .u64 ((own.getD f 0:Nat):Int))) wB (aW (qH n own b (z.length+1))).toArray 195 :=by
 obtain⟨C,hC,KX⟩:=h.rows;by_cases J:z.length=0
 ·refine⟨wB,2+b,C,(qH n own b z.length).getD (2+b) 0,by rw[S8,aC J],.inr rfl,by rw[h.row.cell,aF,dA (by rw[xo];omega)],h.row.frozen _,by rw[hC.len];omega,λx=>hC.step x f V ac (by rw[aC J]),KX.drew.other aa _,?_⟩
  have :=h.row.drew.set (2+b) (.int .u64 ((own.getD f 0:Nat):Int));rw[ag,lT] at this;have e:(qH n own b z.length).set (2+b) ((own.getD f 0:Nat):Int)=qH n own b (z.length+1):=by
   rw[J] at V ⊢;rw[V];exact WL n own b hb
  rw[e] at this;exact this
 ·have hl:8*(fN n.E b+z.length-1)<C.length:=by rw[hC.len];omega
  refine⟨U,8*(fN n.E b+z.length-1),C.set (8*(f-1)) ((own.getD f 0:Nat):Int),C.getD (8*(fN n.E b+z.length-1)) 0,by rw[S8,aB J],.inl rfl,by rw[KX.cell,aF,dA hl],KX.frozen _,by rw[cT,hC.len];omega,λx=>hC.step x f V ac (by rw[aB J]),?_,?_⟩
  ·have :=KX.drew.set (8*(fN n.E b+z.length-1)) (.int .u64 ((own.getD f 0:Nat):Int))
   rw[ag,lT] at this;rw[V];rw[V] at this;exact this
  ·rw[<-SZ n own b z.length J]
   exact h.row.drew.other (λe=>aa e.symm) _
theorem S9{len:Nat}{l:List (ByteArray×Int)}(h:bC w (.slice a len cap) g l)(x:Nat):bC w (chV a len x) g (xU l x):=by
 obtain⟨a',c',U,h2,h3,h4⟩:=h;cases U;by_cases G:l.length=0
 ·have J:(xU l x).length=0:=by rw[mO,G];omega
  refine⟨?_,?_,?_,?_,?_,λh=>absurd J h⟩
  ·exact match a with | some ⟨g,off,_⟩=>some ⟨g,off+x*3*2,none⟩|none=>none
  ·exact 0
  ·rw[J]
   cases a with
   |none=>rfl
   |some a=>simp[chV,G]
  ·rw[J];exact aI _
  ·unfold maxLen;omega
 ·obtain⟨W,off,rfl,z⟩:=h4 G
  refine⟨some ⟨g,off+x*3*2,none⟩,min 3 (l.length-3*x),by rw[mO];rfl,by rw[mO];exact aI _,by unfold maxLen;omega,λ_=>⟨W,_,rfl,λj hj=> ?_⟩⟩;rw[mO] at hj;have h5:=z (3*x+j) (by omega);have e:l[3*x+j]? =(xU l x)[j]? :=by
   unfold xU;rw[ij (by omega),bT]
  have e1:eU (xU l x) j=eU l (3*x+j):=by simp only[eU,aj];rw[e]
  have V:jl (xU l x) j=jl l (3*x+j):=by simp only[jl,aj];rw[e]
  rw[e1,V,show off+x*3*2+j*2=off+(3*x+j)*2 by omega];exact h5
theorem D9 (l:List (ByteArray×Int))(x j:Nat)(h:j<(xU l x).length):3*x+j<l.length/\eU (xU l x) j=eU l (3*x+j)/\jl (xU l x) j=jl l (3*x+j):=by
 rw[mO] at h;have e:l[3*x+j]? =(xU l x)[j]? :=by
  unfold xU;rw[ij (by omega),bT]
 exact⟨by omega,by simp only[eU,aj];rw[e],by simp only[jl,aj];rw[e]⟩
theorem Ea{k:Nat}(h:k<(ez E b).length):∃j,j<E.length/\eU (ez E b) k=eU E j/\jl (ez E b) k=jl E j:=by
 have G:(eU (ez E b) k,jl (ez E b) k)∈E:=(List.mem_filter.1 (V6 h)).1;obtain⟨j,z,e⟩:=cj G;have :E.getD j (ByteArray.empty,0)=E[j]:=by simp[z]
 exact⟨j,z,by rw[eU,eU,this,e];rfl,by rw[jl,jl,this,e];rfl⟩
theorem acW (h:vZ E)(b x:Nat):vZ (xU (ez E b) x):=by
 refine⟨by rw[mO];omega,λk z=> ?_,λk z=> ?_⟩
 ·obtain⟨G,V,h3⟩:=D9 _ _ _ z
  obtain⟨j,J,W,U⟩:=Ea G;rw[V,W];exact h.size j J
 ·obtain⟨G,V,h3⟩:=D9 _ _ _ z
  obtain⟨j,J,W,U⟩:=Ea G;rw[h3,U];exact h.ino j J
theorem O7 (n:bP)(v:Value)(g:Nat)(hB:n.B.length=13)(ht:yK n)(hE:bC w v g n.E)(cd:vZ n.E)(dn:n.E.length<=1000)(vo:Value)(go:Nat)(own:List Nat)(hO:Reads w vo go (dE own))(tV:fN n.E 4=own.length)(vv:∀c∈own,c<256):
  Calls prog 217 #[.agg (aR n v),vo] w (oN w (Fp n own) (xm n.E own 4)):=by
 have dA:own.length<=4000:=by
  have U:=j4 n.E 0;have V:=j4 n.E 1;have h3:=j4 n.E 2;have h4:=j4 n.E 3;simp only[fN,dN] at tV;omega
 obtain⟨ao,co,rfl,L9,dQ,VA⟩:=rK hO;have HH:=au (D5 n v hB ht);obtain⟨W0,aA⟩:∃W0,W0=((w.alloc (.cells (aR n v) 111)).alloc (.cells #[.slice ao own.length co] 141)).alloc (.cells (aW (List.replicate 8 0)).toArray 195):=⟨_,rfl⟩;have aT:bh W0 w.heap.size (aR n v) 111 :=by
  rw[aA];exact((bh.new w _ _).alloc _).alloc _
 have bc:bh W0 (w.heap.size+1) #[.slice ao own.length co] 141 :=by
  have :=bh.new (w.alloc (.cells (aR n v) 111)) #[.slice ao own.length co] 141;have e:(w.alloc (.cells (aR n v) 111)).heap.size=w.heap.size+1:=by simp
  rw[e] at this;rw[aA];exact this.alloc _
 have KW:Hid (bh W0 (w.heap.size+2) (aW (List.replicate 8 0)).toArray 195):=by
  have :=bh.new ((w.alloc (.cells (aR n v) 111)).alloc (.cells #[.slice ao own.length co] 141)) (aW (List.replicate 8 0)).toArray 195;have e:((w.alloc (.cells (aR n v) 111)).alloc (.cells #[.slice ao own.length co] 141)).heap.size=w.heap.size+2:=by simp
  rw[e,<-aA] at this;exact this
 have fW:Hid (az [] w W0):=by
  rw[aA];exact(((az.refl [] w).alloc _).alloc _).alloc _
 have vY:=au (ct aT hB);have JT:Hid (∀G,az [] W0 G->G.cell? ⟨w.heap.size,17,none⟩=some v):=λG J=>by rw[(aT.keep J (by simp)).cell];exact zk _ hB
 have Ta:Hid (∀G,az [] W0 G->G.cell? ⟨w.heap.size+1,0,none⟩=some (.slice ao own.length co)):=λG J=>by rw[(bc.keep J (by simp)).cell];rfl
 have KT:Hid (∀G,az [] w G->Calls prog 216 #[v] G (vg G n.E)):=λG J=>ID (hE.keep J (by simp)) (by omega) cd.size
 have dm:=kC;have qC:=au aA;have oK:=au aT;have tM:=au bc;have LR:Hid (tN n=qH n own 0 0):=(SX n own).symm;have WH:=BM n;generalize tN n=H at *;generalize aR n v=Z at *;clear aT bc aA hB hE hO ht;generalize wK:(aW (List.replicate 8 0)).toArray=Z8 at *;have xR:=au wK;clear wK;refine(callsIn_wide (n:=3)).1 (callsIn_of_wp_marks func217 rfl trivial (wpIn_wide.2 ?_) rfl);simp only[ntmps217,bN,bQ,b8,Nat.reduceAdd,Nat.reduceSub,gj,gy,iF,gM,bY,ib];go_wp2_with((with_reducible show wpList _ _ _ (⟨_,.load 111 (.tmp 2),_,_,_,_⟩::_) _ _);rw[<-qC.out];refine gH rfl 111 (.tmp 2) rfl _ rfl _ vY.out ?_);refine(HH.out _).mono ?_;rintro e w1 ⟨rfl,aN⟩;obtain⟨w2,bJ,yP,ax⟩:=bB (P:= prog) (ty:= 195) (cs:=aW H) (by rw[bp,WH];exact ja) (bh.new w1 Z8 195) (by rw[<-xR.out];simp[bp,WH]) (fh _);have sW:az [] W0 w2:=(aN.alloc (.cells Z8 195)).trans ax (by intro x hx;rw[ay] at hx;have :=aN.size;omega);have br:=au bJ;have Q6:=au yP;have fL:=au sW;have c3:=Ta.out w2 sW;have dP:w.heap.size+2<w1.heap.size:=bL KW.out.lt aN.size;have dw:w1.heap.size<w2.heap.size:=yP.lt;have ac:=S6 own.length (by omega) (own.length:Int) rfl w2;rw[S7] at ac;obtain⟨W3,av⟩:∃W3,W3=((w2.alloc (.cells (aW (List.replicate (8*own.length) 0)).toArray 195)).alloc (.cells #[.slice (some ⟨w2.heap.size,0,none⟩) own.length own.length] 244)).alloc (.cells #[.int .i64 0] 3):=⟨_,rfl⟩;have mH:az [] w2 W3:=by
  rw[av];exact(((az.refl [] w2).alloc _).alloc _).alloc _
 have J1:az [] W0 W3:=sW.trans' mH;have cy:=JT.out W3 J1;rw[av] at cy;have cK:=au (Ta.out W3 J1);have mV:=au (fW.out.trans' J1);have aV:Hid (bh W3 w2.heap.size (aW (List.replicate (8*own.length) 0)).toArray 195):=by
  rw[av];exact((bh.new w2 _ _).alloc _).alloc _
 have cv:Hid (bh W3 (w2.heap.size+1) #[.slice (some ⟨w2.heap.size,0,none⟩) own.length own.length] 244):=by
  have :=bh.new (w2.alloc (.cells (aW (List.replicate (8*own.length) 0)).toArray 195)) #[.slice (some ⟨w2.heap.size,0,none⟩) own.length own.length] 244;have e:(w2.alloc (.cells (aW (List.replicate (8*own.length) 0)).toArray 195)).heap.size=w2.heap.size+1:=by simp
  rw[e] at this;rw[av];exact this.alloc _
 have bS:Hid (bh W3 (w2.heap.size+1+1) #[.int .i64 0] 3):=by
  have :=bh.new ((w2.alloc (.cells (aW (List.replicate (8*own.length) 0)).toArray 195)).alloc (.cells #[.slice (some ⟨w2.heap.size,0,none⟩) own.length own.length] 244)) #[.int .i64 0] 3;have e:((w2.alloc (.cells (aW (List.replicate (8*own.length) 0)).toArray 195)).alloc (.cells #[.slice (some ⟨w2.heap.size,0,none⟩) own.length own.length] 244)).heap.size=w2.heap.size+1+1:=by simp
  rw[e] at this;rw[av];exact this
 have bM:=au (yP.keep mH (by simp));have bD:=au (KW.out.keep J1 (by simp));have bR:=au (tM.out.keep J1 (by simp));have aJ:=au av;clear bJ yP ax sW aN mH J1 HH KW tM oK vY JT Ta av;generalize dh:w1.heap.size=g6 at *;go_wp2_with(first|(with_reducible refine gS 195 br.out ?_));clear cy c3 ac br Q6 fL dm dh;refine((KT.out _ (aJ.out▸mV.out)).mono ?_);rintro e w5 ⟨S,rfl,j6,hS⟩;rw[<-aJ.out] at j6;have qG:=au (mV.out.trans' j6);have zz:Hid (∀b,b<4->∃a cap g,S b= .slice a (ez n.E b).length cap/\(ez n.E b).length<=cap/\cap<=maxLen/\((ez n.E b).length≠0->∃g off,a=some ⟨g,off,none⟩)/\bC w5 (.slice a (ez n.E b).length cap) g (ez n.E b)/\W3.heap.size<=g):=λb hb=>by
  obtain⟨g,U,V⟩:=hS b hb;obtain⟨a,cap,h3,h4,h5,h6⟩:=U;refine⟨a,cap,g,h3,h4,h5,λh0=> ?_,h3▸⟨a,cap,h3,h4,h5,h6⟩,by rw[aJ.out];exact V⟩;obtain⟨-,off,h7,-⟩:=h6 h0;exact⟨g,off,h7⟩
 have cn:=au (aV.out.keep j6 (by simp));have cA:=au (cv.out.keep j6 (by simp));have bu:=au (bS.out.keep j6 (by simp));have bw:=au (bM.out.keep j6 (by simp));have cW:=au (bD.out.keep j6 (by simp));have cU:=au (bR.out.keep j6 (by simp));have dx:W3.heap.size<=w5.heap.size:=j6.size;have dO:w2.heap.size+3<=W3.heap.size:=by rw[aJ.out];simp
 clear j6 hS KT aV cv bS bM bD bR cK fW qC aJ;generalize w2.heap.size=z at *;have Ay:Hid (Fu w5 w5 n own z g6 (z+1+1) 0 []):=⟨az.refl _ _,⟨_,BU.start n.E own,cn.out⟩,by have :=bw.out;rw[LR.out] at this;exact this,bu.out⟩;have bT:∀b,b<4->fN n.E b+dN n.E b<=own.length:=λb hb=>by
  have :=tQ n.E (show b+1<=4 by omega);rw[fN,tV] at this;exact this
 have cR:=au bT;clear bT;have Fv:z≠g6:=by omega
 go_wp2_with fail;refine wp_loop (λa G=>∃(k:Nat) (Ds:List Nat) (u9 u10 u11 u22 u23 u24 u25 u26 u27 u28 u29 u51:Value),k<=4/\a={ tmps:= #[.agg Z,.slice ao own.length co,.pointer (some ⟨w.heap.size,0,none⟩),.pointer (some ⟨w.heap.size+1,0,none⟩),.pointer (some ⟨w.heap.size+1+1,0,none⟩),.slice none 0 0,.pointer (some ⟨g6,0,none⟩),.pointer (some ⟨z+1,0,none⟩),.pointer (some ⟨z+1+1,0,none⟩),u9,u10,u11,undef,.agg Z,.agg (aW H).toArray,.slice ao own.length co,.int .i64 (own.length:Int),.slice (some ⟨z,0,none⟩) own.length own.length,.pointer (some ⟨w.heap.size,17,none⟩),v,.agg (nV S),.int .i64 (k:Int),u22,u23,u24,u25,u26,u27,u28,u29,undef,undef,undef,undef,undef,undef,undef,undef,undef,undef,undef,undef,undef,undef,undef,undef,undef,undef,undef,undef,undef,u51,undef,undef],defers:=Ds.map ab7 }/\
   Hid (Fu w5 G n own z g6 (z+1+1) k []/\Ds.Nodup/\∀D∈Ds,w5.heap.size<=D/\G.heap[D]? =some (.deferred (some [])))) (λa _=>4-(intOf (a.tmps.getD 21 undef)).toNat) ⟨0,[],_,_,_,_,_,_,_,_,_,_,_,_,by omega,rfl,Ay.out,List.nodup_nil,λD hD=>by cases hD⟩ ?_
 rintro a wr ⟨k,Ds,u9,u10,u11,u22,u23,u24,u25,u26,u27,u28,u29,u51,bl,rfl,HP⟩;clear Ay;by_cases J:k<4
 ·have dB:(k:Int)<4:=by omega
  obtain⟨ak,O8,gk,bF,cr,ac,bZ,bX,bV⟩:=zz.out k J;have Bx:=λw=>zt S J w
  rw[bF] at Bx;obtain⟨ji,hj,dM,BI,dz,dG⟩:∃ji:Int,2+(k:Int)=ji/\wrap64 ji=ji/\0<=ji/\ji<8/\ji.toNat=2+k:=⟨_,rfl,by unfold wrap64;omega,by omega,by omega,by omega⟩;obtain⟨kn,dL,dK,b9⟩:∃kn:Int,(k:Int)+1=kn/\wrap64 kn=kn/\Hid (kn=((k+1:Nat):Int)):=⟨_,rfl,by unfold wrap64;omega,(by show _=_;omega)⟩;have cL:=au bV;have cE:=au bX;have cV:=au bZ;have AG:=au cr;have KY:=au ac;have HK:=au J;have pW:=au bl;clear bF bV bX bZ cr ac J bl;generalize Bp:(k:Int)=ki at *;have cI:=au Bp;clear Bp;go_wp2_with fail;refine(We _ _ _ _).mono ?_;rintro e wL ⟨rfl,aD⟩;have bk:(wr.alloc (.cells #[.pointer (some ⟨g6,2+k,none⟩)] 280)).heap.size=wr.heap.size+1:=by simp
  have uL:Hid (bh wL wr.heap.size #[.pointer (some ⟨g6,2+k,none⟩)] 280):=by
   rw[aD];exact((bh.new wr _ _).alloc _).alloc _
  have G1:Hid (bh wL (wr.heap.size+1) #[.slice ak (ez n.E k).length O8] 32):=by
   rw[aD,<-bk];exact(bh.new _ _ _).alloc _
  have zx:Hid (bh wL (wr.heap.size+1+1) #[.int .i64 3] 3):=by
   have :=bh.new ((wr.alloc (.cells #[.pointer (some ⟨g6,2+k,none⟩)] 280)).alloc (.cells #[.slice ak (ez n.E k).length O8] 32)) #[.int .i64 3] 3;have e:((wr.alloc (.cells #[.pointer (some ⟨g6,2+k,none⟩)] 280)).alloc (.cells #[.slice ak (ez n.E k).length O8] 32)).heap.size=wr.heap.size+1+1:=by simp
   rw[e] at this;rw[aD];exact this
  have aC:az [] wr wL:=by
   rw[aD];exact(((az.refl [] wr).alloc _).alloc _).alloc _
  have dD:wL.heap.size=wr.heap.size+3:=by rw[aD];simp
  rw[bk];clear aD bk;obtain⟨ae,aH,ac⟩:=HP.out;have cj:Fu w5 wL n own z g6 (z+1+1) k []:=⟨ae.keep.trans' (aC.mono (by simp)),by obtain⟨C,U,V⟩:=ae.rows;exact⟨C,U,V.keep aC (by simp)⟩,ae.row.keep aC (by simp),ae.fill.keep aC (by simp)⟩;have dC:w5.heap.size<=wr.heap.size:=ae.keep.size;have bE:Hid (∀D∈Ds,w5.heap.size<=D/\D<wr.heap.size/\wL.heap[D]? =some (.deferred (some []))):=λD hD=>by
   obtain⟨U,V⟩:=ac D hD;have h3:=(Array.getElem?_eq_some_iff.1 V).1;exact⟨U,h3,(aC.block D h3 (by simp)).trans V⟩
  have cM:=au cj;have bg:=au aH;clear ae cj ac aC HP aH;generalize wr.heap.size=lB at *;go_wp2_with fail;refine(wpIn_wide (n:=3)).1 ?_;refine wpIn_rangeFunc_ownG (F:=Fence.wide) rfl (by omega) (gf:= 237) (lb:= #[.pointer (some ⟨lB+1,0,none⟩),.pointer (some ⟨lB+1+1,0,none⟩)]) rfl trivial (enters_of func237 (by kernel_rfl) rfl)
   (LH (3-1) (by omega) ak (ez n.E k).length O8 (cD (j4 _ _) (by omega)) AG.out cV.out (lB+1) (lB+1+1) wL G1.out zx.out)
   (λU V=>⟨V.1.trans U.1,V.2.trans U.2⟩) (λW l o o' U V _ _=>⟨World.putObj_heap_other (by omega),World.putObj_heap_other (by omega)⟩) (Below.refl _ _) (λ_=>rfl)
   (λaf W=>Fu w5 W n own z g6 (z+1+1) k af/\bh W lB #[.pointer (some (S8 n.E z g6 k af.length))] 280/\az [z,g6,z+1+1,lB] wL W)
   (λ_ _ _=>False)
   (λaf A A' row h hg hr=>⟨h.1.turn hg hr (by omega),h.2.1.turn hg (λr e=>(hr r e).2),h.2.2.turn hg (λr e=>(hr r e).1) (aI _)⟩)
   (λ_ _ _ _ _ h _ _=>h)
   ⟨cM.out,by have :=uL.out;exact this,az.refl _ _⟩
   (λx=>{ tmps:= #[.agg Z,.slice ao own.length co,.pointer (some ⟨w.heap.size,0,none⟩),.pointer (some ⟨w.heap.size+1,0,none⟩),.pointer (some ⟨w.heap.size+1+1,0,none⟩),.slice none 0 0,.pointer (some ⟨g6,0,none⟩),.pointer (some ⟨z+1,0,none⟩),.pointer (some ⟨z+1+1,0,none⟩),.int .i64 ki,.slice ak (ez n.E k).length O8,.pointer (some ⟨lB,0,none⟩),chV ak (ez n.E k).length x,.agg Z,.agg (aW H).toArray,.slice ao own.length co,.int .i64 (own.length:Int),.slice (some ⟨z,0,none⟩) own.length own.length,.pointer (some ⟨w.heap.size,17,none⟩),v,.agg (nV S),.int .i64 ki,.bool true,.int .i64 ki,.slice ak (ez n.E k).length O8,.int .i64 ki,.int .i64 ji,.pointer (some ⟨g6,2+k,none⟩),.slice ak (ez n.E k).length O8,.func (.func 237) #[] #[.pointer (some ⟨lB+1,0,none⟩),.pointer (some ⟨lB+1+1,0,none⟩)],chV ak (ez n.E k).length x,undef,undef,undef,undef,undef,undef,undef,undef,undef,undef,undef,undef,undef,undef,undef,undef,undef,undef,undef,undef,u51,undef,undef],defers:=[] }) ?assign ?body ?done ?stop
  case assign=>
   intro l x W K hK
   gi_wp2
   exact hK
  case stop=>
   rintro D c af W _ _ h _;exact h.elim
  case done=>
   rintro D ys W hD rfl ⟨G3,Tb,ou⟩ IJ;have bO:(List.range (((ez n.E k).length+2)/3)).length=dN n.E k:=eN;have Q8:Fu w5 W n own z g6 (z+1+1) (k+1) []:=by
    obtain⟨U,⟨C,V,h3⟩,h4,h5⟩:=G3;rw[bO] at h4 h5;exact⟨U,⟨C,V.next,h3⟩,by rw[SY] at h4;exact h4,h5⟩
   have lU:Hid (Fu w5 W n own z g6 (z+1+1) (k+1) []/\(D::Ds).Nodup/\∀D'∈D::Ds,w5.heap.size<=D'/\W.heap[D']? =some (.deferred (some []))):=by
    refine⟨Q8,List.nodup_cons.2 ⟨λhm=> ?_,bg.out⟩,λD' di=> ?_⟩
    ·have :=(bE.out D hm).2.1
     omega
    ·rcases aP.1 di with rfl|hm
     ·exact⟨by omega,IJ⟩
     ·obtain⟨U,V,h3⟩:=bE.out D' hm
      exact⟨U,(ou.block D' (by omega) (by
       have h4:D'≠z/\D'≠g6/\D'≠z+1+1/\D'≠lB:=by omega
       simp only[aP,aM,bz];omega)).trans h3⟩
   clear G3 Tb ou IJ Q8 bO;go_wp2_with fail;refine⟨⟨k+1,D::Ds,_,_,_,_,_,_,_,_,_,_,_,_,HK.out,by rw[<-b9.out];rfl,lU.out⟩,?_⟩;have U:=b9.out;have V:=cI.out;have h3:=HK.out;simp[intOf];omega
  case body=>
   rintro l af x W ⟨G3,Tb,ou⟩ aK;obtain⟨f,hf⟩:∃f,f=fN n.E k+af.length:=⟨_,rfl⟩;have aY:f<own.length:=by
    have U:=cR.out k HK.out;have V:af.length<dN n.E k:=aK;omega
   obtain⟨lg,lo,C1,cC,GK,cS,bK,bv,ck,cf,aZ,aL⟩:=G3.link HK.out hf aY Fv;obtain⟨bU,O6,rfl,bb⟩:=VA.out f aY;rw[GK] at Tb;have WN:own.getD f 0<256:=vv _ (by rw[aj,aG aY];exact bA aY);have Mb:=G3.fill;rw[<-hf] at Mb;obtain⟨xi,Mc,cG⟩:∃xi:Int,((own.getD f 0:Nat):Int)=xi/\IntKind.u64.wrap xi=xi:=⟨_,rfl,by rw[mD (by omega) (by omega)]⟩;obtain⟨fi,bq,dS,dF,dt,dv⟩:∃fi:Int,((f:Nat):Int)=fi/\0<=fi/\fi<(own.length:Int)/\fi.toNat=f/\wrap64 (fi+1)=fi+1:=⟨_,rfl,by omega,by omega,by omega,by unfold wrap64;omega⟩;rw[Mc] at bb aZ aL;rw[bq] at Mb;have cg:Hid (∀G,az [z,g6] W G->G.cell? ⟨lB,0,none⟩=some (.pointer (some ⟨lg,lo,none⟩))/\G.cell? ⟨w.heap.size+1,0,none⟩=some (.slice (some ⟨go,O6,none⟩) own.length co)/\G.cell? ⟨z+1+1,0,none⟩=some (.int .i64 fi)/\G.cell? ⟨go,O6+f,none⟩=some (.int .i64 xi)):=λG J=>by
    refine⟨by rw[(Tb.keep J (by simp<;>omega)).cell];rfl,by rw[((cU.out.keep G3.keep (by simp<;>omega)).keep J (by simp<;>omega)).cell];rfl,by rw[(Mb.keep J (by simp<;>omega)).cell];rfl,?_⟩;have j6:=qG.out;have U:go<w5.heap.size:=bL bU j6.size;have V:go<W.heap.size:=bL U G3.keep.size;refine(aO (a:=⟨go,O6+f,none⟩) ?_).trans bb;show G.heap[go]? =w.heap[go]?;exact((J.block go V (by simp<;>omega)).trans (G3.keep.block go U (by simp<;>omega))).trans (j6.block go bU (by simp))
   have cZ:W.drew.cell? ⟨lg,lo,none⟩=some (.int .u64 cC):=bK;have cO:W.drew.frozen? ⟨lg,lo,none⟩=false:=bv;have bI:W.drew.setCell ⟨lg,lo,none⟩ (.int .u64 xi)=(W.setCell ⟨lg,lo,none⟩ (.int .u64 xi)).drew:=rfl;obtain⟨W1,aQ⟩:∃W1,W1=(W.setCell ⟨lg,lo,none⟩ (.int .u64 xi)).drew:=⟨_,rfl⟩;rw[bI,<-aQ] at aZ aL;have bt:az [z,g6] W W1:=by
    rw[aQ];exact((az.refl _ _).setCell (.inl (by rcases cS with h|h<;>simp[h])) _).drew
   have cp:=au G3;have cT:=au Tb;have nD:=au ou;have cJ:=au Mb;have cz:=au aZ;have cF:=au aL;have GZ:=au bt;have cm:=au aQ;have cQ:=au cf;have Oa:=au ck;have HF:=au hf;have uN:=au bq;have tG:=au aK;clear G3 Tb ou Mb aZ aL bt aQ bI cf ck hf aK GK bb Mc bq bK bv WN;refine wpIn_block (wpIn_seq_k λK aF=> ?_);refine tU (r:=some l) (S:=λG=>az [z,g6] W G) (l:=[_,_,_,_,_,_]) (tl:=[_,_]) (by kernel_rfl) rfl (by kernel_rfl) (by rintro⟨a,w,h⟩;exact h) (by kernel_rfl) (by kernel_rfl) (by kernel_rfl) (λd _ _ _ _ h=>by cases d<;>exact h) (az.refl _ _).drew ?_;repeat (refine cN.cons ?_ (YieldsIf.val rfl ?h) ?_;(case h=>(intro G hx;obtain⟨U,V,h3,h4⟩:=cg.out G hx;go_simp;rfl));simp only[Act.put,ag,ah,ai])
   refine cN.done ?_;unfold gI;go_wp2_with fail;refine⟨(az.refl _ _).drew,?_⟩;unfold gI;go_wp2_with fail;rw[<-cm.out];refine⟨GZ.out,?_⟩;unfold gI;refine aF _ _ ?_;clear aF K cg cZ cO cG cm cn bw bu
   -- the entries' words
   have bn:=GZ.out;have aU:az [z,g6,z+1+1] w5 W1:=cp.out.keep.trans' (GZ.out.mono (by simp<;>omega));have bj:bh W1 (z+1) #[.slice (some ⟨z,0,none⟩) own.length own.length] 244 :=cA.out.keep aU (by simp<;>omega);have bf:bh W1 (z+1+1) #[.int .i64 fi] 3 :=cJ.out.keep bn (by simp<;>omega);have bH:=cT.out.keep bn (by simp<;>omega);have cX:Hid (∀G,az [z] W1 G->G.cell? ⟨z+1,0,none⟩=some (.slice (some ⟨z,0,none⟩) own.length own.length)/\G.cell? ⟨z+1+1,0,none⟩=some (.int .i64 fi)):=λG J=>by
    exact⟨by rw[(bj.keep J (by simp<;>omega)).cell];rfl,by rw[(bf.keep J (by simp<;>omega)).cell];rfl⟩
   have dI:∀G,(Instr.sliceAt 195 (.pointer (some ⟨z,f*8,none⟩)) (some (.int .i64 1)) none none).run prog G= .ok (.slice (some ⟨z,f*8+1,none⟩) 7 7) G:=λG=>by show Sem.run _ _ _=_;kernel_rfl
   have Fe:Hid (∀G,az [] W1 G->Calls prog 212 #[chV ak (ez n.E k).length x] G (jw G (eK (xU (ez n.E k) x)))):=λG J=>by
    refine yL (E:=xU (ez n.E k) x) (g:=gk) ?_ (acW cd k x);refine(((S9 cE.out x).keep aU ?_).keep J (by simp));intro _;have :=cL.out;simp;omega
   have dJ:=au aU;have dc:=au bj;have cY:=au bf;have cP:=au bH;clear bn aU bj bf bH;refine wpIn_seq_k λK aF=> ?_
   refine tU (r:=some l) (S:=λG=>az [z] W1 G) (l:=[_,_,_,_,_]) (tl:=[_,_]) (by kernel_rfl) rfl (by kernel_rfl) (by rintro⟨a,w,h⟩;exact h) (by kernel_rfl) (by kernel_rfl) (by kernel_rfl) (λd _ _ _ _ h=>by cases d<;>exact h) (az.refl _ _).drew ?_;repeat (refine cN.cons ?_ (YieldsIf.val rfl ?h) ?_;(case h=>(intro G hx;obtain⟨U,V⟩:=cX.out G hx;go_simp;rfl));simp only[Act.put,ag,ah,ai])
   refine cN.done ?_;unfold gI;go_wp2_with fail;refine(Fe.out _ (az.refl _ _).drew).mono ?_;rintro e W2 ⟨va,ga,rfl,KU,tv,b6⟩;have ax:az [] W1 W2:=((az.refl _ _).drew).trans' b6;obtain⟨aa,ca,rfl,-,-,-⟩:=iB KU;have cB:(eK (xU (ez n.E k) x)).length<=6:=by rw[kx,mO];omega
   obtain⟨vc,ar,yO,bW,b7⟩:=pB (o:=f*8+1) (n:=7) (cap:=7) (cz.out.keep ax (by simp)) KU (by omega) (by have :=Oa.out;omega);have Zj:=au yO;have fL:Hid (az [z] W1 W2):=ax.mono (by simp);have Tc:Hid (az [z] W1 ar):=(ax.mono (l':=[z]) (by simp)).trans' b7;have aV:Hid (bh ar z (aW (Fq C1 (8*f+1) (eK (xU (ez n.E k) x)))).toArray 195):=by
    rw[Nat.mul_comm 8 f];exact bW
   generalize cH:eK (xU (ez n.E k) x)=ws at *;clear ax b6 KU tv yO bW b7 cB Fe cz;go_wp2_with fail;refine⟨fL.out,?_⟩;unfold gI;go_wp2_with(first|((with_reducible show wpList _ _ _ (⟨some 44,_,_,_,_,_⟩::_) _ _);refine iQ rfl (.tmp 41) (.tmp 43) 71 71 rfl _ _ rfl rfl (Zj.out _) ?_));refine⟨Tc.out,?_⟩;unfold gI;refine aF _ _ ?_;clear aF K;have aS:=cP.out.keep Tc.out (by simp<;>omega);have bo:=cY.out.keep Tc.out (by simp<;>omega);have bG:=dc.out.keep Tc.out (by simp<;>omega);have e1:ar.cell? ⟨z+1,0,none⟩=some (.slice (some ⟨z,0,none⟩) own.length own.length):=by rw[bG.cell];rfl
   have e2:ar.cell? ⟨z+1+1,0,none⟩=some (.int .i64 fi):=by rw[bo.cell];rfl
   have e3:ar.cell? ⟨lB,0,none⟩=some (.pointer (some ⟨lg,lo,none⟩)):=by rw[aS.cell];rfl
   have e4:ar.frozen? ⟨lB,0,none⟩=false:=aS.frozen 0;have cu:=aS.set 0 (.pointer (some ⟨z,f*8,none⟩));have aX:=bo.other (a:=⟨lB,0,none⟩) (by show z+1+1≠lB;omega) (.pointer (some ⟨z,f*8,none⟩));have e5:(ar.setCell ⟨lB,0,none⟩ (.pointer (some ⟨z,f*8,none⟩))).cell? ⟨z+1+1,0,none⟩=some (.int .i64 fi):=by rw[aX.cell];rfl
   have e6:(ar.setCell ⟨lB,0,none⟩ (.pointer (some ⟨z,f*8,none⟩))).frozen? ⟨z+1+1,0,none⟩=false:=aX.frozen 0;have df:=au cu;have dg:=au aX;clear aS bo bG cu aX
   gi_wp2
   have Ma:az [z,g6,z+1+1,lB] W ((ar.setCell ⟨lB,0,none⟩ (.pointer (some ⟨z,f*8,none⟩))).setCell ⟨z+1+1,0,none⟩ (.int .i64 (fi+1))):=
    (((GZ.out.mono (l':=[z,g6,z+1+1,lB]) (by simp<;>omega)).trans' (Tc.out.mono (by simp<;>omega))).setCell (.inl (by simp)) _).setCell (.inl (by simp)) _
   have dR:wL.heap.size<=W.heap.size:=nD.out.size;have ba:(af++[x]).length=af.length+1:=by simp
   refine⟨KeepsFrom.of_keeps Ma (λj hj QV=> .inl ?_),⟨Ma.block (lB+1) (by omega) (by simp<;>omega),Ma.block (lB+1+1) (by omega) (by simp<;>omega)⟩,⟨?_,?_,?_,?_⟩,?_,nD.out.trans' Ma⟩
   ·simp only[aP,aM,bz] at hj
    rcases hj with rfl|rfl|rfl|rfl<;>omega
   ·refine cp.out.keep.trans Ma λy hy=> ?_
    simp only[aP,aM,bz] at hy ⊢;rcases hy with rfl|rfl|rfl|rfl
    ·exact .inl (.inl rfl)
    ·exact .inl (.inr (.inl rfl))
    ·exact .inl (.inr (.inr rfl))
    ·exact .inr (by omega)
   ·refine⟨_,cQ.out x,?_⟩
    rw[cH];exact(aV.out.other (a:=⟨lB,0,none⟩) (by show z≠lB;omega) _).other (a:=⟨z+1+1,0,none⟩) (by show z≠z+1+1;omega) _
   ·rw[ba]
    exact((cF.out.keep Tc.out (by simp<;>omega)).other (a:=⟨lB,0,none⟩) (by show g6≠lB;omega) _).other (a:=⟨z+1+1,0,none⟩) (by show g6≠z+1+1;omega) _
   ·have :=dg.out.set 0 (.int .i64 (fi+1))
    rw[ba,show((fN n.E k+(af.length+1):Nat):Int)=fi+1 by rw[<-uN.out,HF.out];omega];exact this
   ·have :=df.out.other (a:=⟨z+1+1,0,none⟩) (by show lB≠z+1+1;omega) (.int .i64 (fi+1))
    have e:S8 n.E z g6 k (af++[x]).length=⟨z,f*8,none⟩:=by
     rw[ba,S8,aB (by omega),HF.out,show 8*(fN n.E k+(af.length+1)-1)=(fN n.E k+af.length)*8 by omega]
    rw[e];exact this
 ·obtain rfl:k=4:=by omega
  obtain⟨ae,aH,ac⟩:=HP.out;have mq:bh wr.drew (w.heap.size+2) Z8 195 :=(cW.out.keep ae.keep (by simp<;>omega)).drew;have cw:bh wr g6 (aW (qH n own 4 0)).toArray 195 :=ae.row;have cx:Hid (∀G,az [w.heap.size+2] wr G->(loadVar 195 ⟨g6,0,none⟩).run prog G= .ok (.agg (aW (qH n own 4 0)).toArray) G/\G.cell? ⟨z+1,0,none⟩=some (.slice (some ⟨z,0,none⟩) own.length own.length)):=λG J=>by
   exact⟨eY (cw.keep J (by simp<;>omega)) (xo _ _ _ _),by rw[((cA.out.keep ae.keep (by simp<;>omega)).keep J (by simp<;>omega)).cell];rfl⟩
  obtain⟨wS,hS,uM,II⟩:=bB (P:= prog) (ty:= 195) (cs:=aW (qH n own 4 0)) (by rw[bp,xo];exact ja) mq (by rw[<-xR.out];simp[bp,xo]) (fh _);have HS:=au hS;have tP:Hid (az [w.heap.size+2] wr wS):=((az.refl _ _).drew).trans' II;have lU:Hid (∀W',az Ds wS W'->(loadVar 195 ⟨w.heap.size+2,0,none⟩).run prog W'= .ok (.agg (aW (qH n own 4 0)).toArray) W'/\oN w (Fp n own) (xm n.E own 4) (.returned (.tuple #[.agg (aW (qH n own 4 0)).toArray,.slice (some ⟨z,0,none⟩) own.length own.length])) W'):=λW' J=>by
   have hD:∀q,q<w5.heap.size->q∉Ds:=λq hq hm=>by
    have :=(ac q hm).1;omega
   refine⟨eY (bh.keep uM J (hD _ (by omega))) (xo _ _ _ _),_,z,rfl,?_,by omega,?_⟩
   ·obtain⟨C,U,V⟩:=ae.rows
    exact U.breads tV (aI _) (by unfold maxLen;omega) ((V.keep tP.out (by simp<;>omega)).keep J (hD _ (by omega)))
   ·have U:az [] w wr:=qG.out.trans ae.keep (by intro q hq;simp at hq;omega)
    have V:az [] w wS:=U.trans tP.out (by intro q hq;simp at hq;omega);exact V.trans J λq hq=> .inr (by have :=(ac q hq).1;omega)
  have bg:=au aH;have KY:Hid (∀D∈Ds,wS.heap[D]? =some (.deferred (some []))):=λD hD=>by
   obtain⟨U,V⟩:=ac D hD;exact(tP.out.block D (Array.getElem?_eq_some_iff.1 V).1 (by simp<;>omega)).trans V
  clear ae aH ac mq cw hS uM II HP J bl;go_wp2_with fail;refine wp_region_noPanic ?_;refine xq (S:=λG=>az [w.heap.size+2] wr G) (l:=[_,_]) (tl:=[_,_]) (by kernel_rfl) rfl (by kernel_rfl) (by kernel_rfl) (by kernel_rfl) (λd _ _ _ _ h=>by cases d<;>exact h) (az.refl _ _).drew ?_;refine cN.cons _ (YieldsIf.load rfl 195 (.tmp 6) rfl _ rfl λG hx=>(cx.out G hx).1) ?_;simp only[Act.put,ag,ah,ai];refine cN.cons ?_ (YieldsIf.val rfl ?h) ?_;(case h=>(intro G hx;obtain⟨-,U⟩:=cx.out G hx;go_simp;rfl));simp only[Act.put,ag,ah,ai];refine cN.done ?_;unfold gI;go_wp2_with(first|(with_reducible refine gS 195 HS.out ?_));refine⟨tP.out,?_⟩;unfold gI;go_wp2_with fail;refine⟨tP.out,?_⟩;unfold gI;refine NoPanic.normal ?_;go_wp2_with fail;refine lQ Ds wS bg.out KY.out λW' J=> ?_
  obtain⟨U,V⟩:=lU.out W' J;exact⟨_,dH results217 rfl U rfl,V⟩
end Go.Proofs.YtepbpdipenedhaaGreatDoor
namespace Go.Proofs.YtepbpdipenedhaaGreatDoor
open Go.Proofs.Tryz
open Go.RowKit
variable{W w w5:World}{n:bP}{own z:List Nat}{T U V b cap g wB:Nat}{a:Option Addr}{E:List (ByteArray×Int)}{v:Value}{B l:List Int}{ps:List (Int×Int)}
def iR (w:List Int):bP:=⟨w.getD 0 0%256,w.getD 0 0/256%256,w.getD 0 0/65536%65536,wrap64 (w.getD 1 0),List.replicate 13 0,[]⟩
theorem Td (x:Nat)(h:x<18446744073709551616):bits .and .u64 (x:Int) 255=((x%256:Nat):Int)/\bits .and .u64 ((x:Int)/256) 255=((x/256%256:Nat):Int)/\bits .and .u64 ((x:Int)/65536) 65535=((x/65536%65536:Nat):Int):=by
 have z:=Nat.div_le_self x 256;have G:=Nat.div_le_self x 65536;refine⟨?_,?_,?_⟩
 ·rw[show(255:Int)=((255:Nat):Int) from rfl,iu x 255 h (by omega),show x &&& 255=x%2^8 from dU x 8]
 ·rw[show(x:Int)/256=((x/256:Nat):Int) by omega,show(255:Int)=((255:Nat):Int) from rfl,iu (x/256) 255 (by omega) (by omega),show x/256 &&& 255=x/256%2^8 from dU _ 8]
 ·rw[show(x:Int)/65536=((x/65536:Nat):Int) by omega,show(65535:Int)=((65535:Nat):Int) from rfl,iu (x/65536) 65535 (by omega) (by omega),show x/65536 &&& 65535=x/65536%2^16 from dU _ 16]
theorem BV (l:List Int)(hl:l.length=8)(h0:0<=l.getD 0 0/\l.getD 0 0<18446744073709551616)(h1:0<=l.getD 1 0/\l.getD 1 0<18446744073709551616)(w:World):
  Calls prog 140 #[.agg (aW l).toArray] w λe w'=>e= .returned (.agg (aR (iR l) (.slice none 0 0)))/\az [] w w':=by
 have z:=(bh.new w (aW l).toArray 195).alloc (.cells (aR cr (.slice none 0 0)) 111);have G:bh ((w.alloc (.cells (aW l).toArray 195)).alloc (.cells (aR cr (.slice none 0 0)) 111)) (w.heap.size+1) (aR cr (.slice none 0 0)) 111 :=by
  have :=bh.new (w.alloc (.cells (aW l).toArray 195)) (aR cr (.slice none 0 0)) 111;have e:(w.alloc (.cells (aW l).toArray 195)).heap.size=w.heap.size+1:=by simp
  rw[e] at this;exact this
 have c0:((w.alloc (.cells (aW l).toArray 195)).alloc (.cells (aR cr (.slice none 0 0)) 111)).cell? ⟨w.heap.size,0,none⟩=some (.int .u64 (l.getD 0 0)):=by
  rw[z.cell,aF,dA (by omega)]
 have c1:((w.alloc (.cells (aW l).toArray 195)).alloc (.cells (aR cr (.slice none 0 0)) 111)).cell? ⟨w.heap.size,1,none⟩=some (.int .u64 (l.getD 1 0)):=by
  rw[z.cell,aF,dA (by omega)]
 obtain⟨w2,hS,J,V⟩:=bB (P:= prog) (ty:= 111) (cs:=mo (iR l) (.slice none 0 0)) (by rw[gU];exact iY) G rfl (ku rfl);have U:=ct (n:=iR l) (v:= .slice none 0 0) J rfl;have HK:Hid (az [] w w2):=(((az.refl [] w).alloc _).alloc _).trans V (by simp);have W:=au hS;have qN:=au U;have aa:=eA;clear z G hS U J V;have HT:Hid ((mo (iR l) (.slice none 0 0)).toArray=aR (iR l) (.slice none 0 0)):=rfl;rw[HT.out] at W;obtain⟨x,hx⟩:∃x:Nat,l.getD 0 0=(x:Int):=⟨(l.getD 0 0).toNat,by omega⟩;obtain⟨y,hy⟩:∃y:Nat,l.getD 1 0=(y:Int):=⟨(l.getD 1 0).toNat,by omega⟩;have hI:aR (iR l) (.slice none 0 0)= #[.int .i64 ((x%256:Nat):Int),.int .i64 ((x/256%256:Nat):Int),.int .i64 ((x/65536%65536:Nat):Int),.int .i64 (wrap64 (y:Int)),.int .i64 0,.int .i64 0,.int .i64 0,.int .i64 0,.int .i64 0,.int .i64 0,.int .i64 0,.int .i64 0,.int .i64 0,.int .i64 0,.int .i64 0,.int .i64 0,.int .i64 0,.slice none 0 0]:=by
  unfold iR;rw[hx,hy];rfl
 have h:aR cr (.slice none 0 0)= #[.int .i64 0,.int .i64 0,.int .i64 0,.int .i64 0,.int .i64 0,.int .i64 0,.int .i64 0,.int .i64 0,.int .i64 0,.int .i64 0,.int .i64 0,.int .i64 0,.int .i64 0,.int .i64 0,.int .i64 0,.int .i64 0,.int .i64 0,.slice none 0 0]:=rfl;rw[hI] at W qN HT;rw[hI];rw[h] at W c0 c1;rw[h] at aa;clear HT h;generalize (aW l).toArray=Z at *;rw[hx] at c0 h0;rw[hy] at c1 h1;obtain⟨p1,p2,p3⟩:=Td x (by omega);clear hx hy;have q1:x%256<256:=iw _ (by decide);have q2:x/256%256<256:=iw _ (by decide);have q3:x/65536%65536<65536:=iw _ (by decide);have ac:Hid (0<=y):=fC y;generalize x%256=a at *;generalize x/256%256=b at *;generalize x/65536%65536=c at *;go_enter func140,ntmps140;go_wp2_with(first|(with_reducible refine gS 111 W.out ?_));exact aL (b9 results140 rfl qN.out) rfl ⟨rfl,HK.out⟩
theorem Q9 (G:bh w g (aR n v) T)(z:n.B.length=13)(h:l.length=13):
  ∃w',(storeVar 109 ⟨g,4,none⟩ (.agg (zs l).toArray)).run prog w= .ok () w'/\bh w' g (aR { n with B:=l } v) T/\az [g] w w':=by
 refine⟨_,jy g 4 (zs l) _ (by rw[eF,h];exact kP) G (by rw[aR,bN,gU,eF,z,h];omega) (l9 l),?_,(az.refl _ _).setRow (by simp) _⟩;have e:((aR n v).toList.take 4++zs l++(aR n v).toList.drop (4+(zs l).length)).toArray=aR { n with B:=l } v:=by
  have J:(aR n v).toList.drop (4+(zs l).length)=[v]:=by
   have :(aR n v).toList=[.int .i64 n.F,.int .i64 n.K,.int .i64 n.L,.int .i64 n.S]++(zs n.B++[v]):=rfl;rw[this,<-List.drop_drop,List.drop_left' (by rfl),List.drop_left' (by rw[eF,eF,z,h])]
  rw[J];rfl
 rw[e];exact kr G
theorem J2{u:Value}(G:bh w g (aR n v) T)(h:n.B.length=13):bh (w.setCell ⟨g,17,none⟩ u) g (aR { n with E:=E } u) T:=by
 have :=G.set 17 u;have e:(aR n v).setIfInBounds 17 u=aR { n with E:=E } u:=by
  have z:aR n v=(([.int .i64 n.F,.int .i64 n.K,.int .i64 n.L,.int .i64 n.S]:List Value)++(zs n.B++[v])).toArray:=rfl;rw[z,ag,dx _ _ (by simp),dx _ _ (by rw[eF,h];simp),eF,h];rfl
 rw[e] at this;exact this
theorem ac1 (h:∀k,0<=l.getD k 0):dE (l.map Int.toNat)=zs l:=by
 apply dg (by simp[dE,zs]);intro j J G;have z:j<l.length:=by simpa[zs] using G
 have :=h j;rw[aj,aG z,gD] at this;simp[dE,zs];omega
theorem xt{G:Nat}(h:eO w b G B ps)(z:In64 (aA B ps))(n:Nat)(V:(aZ (aA B ps)).length<n):
  Calls prog 151 #[.pointer (some ⟨b,0,none⟩),.int .i64 (n:Int)] w λe w'=>e= .returned (.tuple #[.slice none 0 0,.int .i64 7])/\w=w':=by
 have J:=au (Ip h z);generalize (aZ (aA B ps)).length=f at *;have W:¬(n:Int)<0:=by omega
 have U:(f:Int)<(n:Int):=by omega
 clear h z;go_enter func151,ntmps151;go_wp2_with fail;refine J.out.mono ?_;rintro e w' ⟨rfl,rfl⟩;go_wp2_with fail;go_ret2;exact⟨rfl,rfl⟩
def AH (w:World) (b z:Nat) (B:List Int) (ps:List (Int×Int)) (l:List Nat) (e:Ending) (w':World):Prop:=
 ∃v g,e= .returned (.tuple #[v,.int .i64 0])/\Reads w' v g (dE l)/\w.heap.size<=g/\g<w'.heap.size/\(∃h,(h=z\/(w.heap.size<=h/\h<w'.heap.size))/\h≠g/\eO w' b h B (ps++cW (aA B ps) l)/\az [b,z] w w')
theorem BX (X:List Int)(l:List Nat)(k:Nat)(h:k<l.length):cW X (l.take (k+1))=cW X (l.take k)++(eJ (aA X (cW X (l.take k))) (l.getD k 0) true++gT (l.getD k 0)):=by
 rw[bJ h,Lt];simp[h]
theorem BZ (h:eO w b V B ps)(U:In64 (aA B ps))(hT:kg w)(Gz:V<w.heap.size)(ae:ps.length<=900000)(n:Nat)(hn:n<=(aZ (aA B ps)).length):
  Calls prog 151 #[.pointer (some ⟨b,0,none⟩),.int .i64 (n:Int)] w (AH w b V B ps ((aZ (aA B ps)).take n)):=by
 have HF:=au (Ip h U);have aO:=BD (aA B ps);have O9:=au (EH h U hT n (by omega));have D3:Hid (∀c∈(aZ (aA B ps)).take n,c≠0/\c<256):=λc J=>by
  have :=jT.1 (bM J);exact⟨this.2.1,this.1⟩
 have z:Hid (((aZ (aA B ps)).take n).length=n):=by show _=_;rw[aJ,cC hn]
 have HS:=au h;have tu:=au U;have ar:Hid ((aA B ps).length=3128):=h.raw.lx;have aK:=h.raw.lt;have yI:=au ae;generalize (aZ (aA B ps)).take n=l at *;generalize (aZ (aA B ps)).length=f at *;clear h U hT ae;have h0:¬(n:Int)<0:=by omega
 have h1:¬(f:Int)<(n:Int):=by omega
 go_enter func151,ntmps151;go_wp2_with fail;refine HF.out.mono ?_;rintro e w' ⟨rfl,rfl⟩;go_wp2_with fail;refine O9.out.mono ?_;rintro e w1 ⟨v,g,rfl,hr,ak,aL,W⟩;clear HF O9 h1 h0;have ai:=hr;obtain⟨a,cap,rfl,q1,q2,-⟩:=ai;rw[fI,z.out] at hr ⊢;rw[fI,z.out] at q1;have HR:=au hr;have iU:=au W;have hz:=W.size;clear hr W;unfold maxLen at q2;go_wp2_with fail;go_loopg [20] n (λgh s20 wx=>∃k:Nat,k+gh=n/\s20= .int .i64 (k:Int)/\Hid (Onto w1 b V B (ps++cW (aA B ps) (l.take k)) wx))
 case atStart=>exact⟨0,by omega,rfl,by show Onto _ _ _ _ _ _;rw[eV,show cW (aA B ps) []=[] from rfl,bu];exact Onto.refl (HS.out.keep iU.out (by simp) (by simp))⟩
 case round=>
  obtain⟨k,hk,rfl,HQ⟩:=hrel;have Fv:∀x,x∈[b,V]->g≠x:=by
   intro x hx;simp only[aP,aM,bz] at hx;omega
  obtain⟨kX,p1,p2,p3⟩:=HQ.out;have Zb:=au (HR.out.keep p3 (λhm=>Fv g hm rfl));have aN:=p3.size;cases gk with
  |zero=>
   obtain rfl:k=n:=by omega
   have HM:Hid (AH w b V B ps l (.returned (.tuple #[.slice a k cap,.int .i64 0])) wr):=by
    rw[aV (by rw[z.out];omega)] at p2;exact⟨_,g,rfl,Zb.out,ak,by omega,kX,by omega,by omega,p2,(iU.out.mono (by simp)).trans p3 λx hx=> .inl hx⟩
   have ax:¬(k:Int)<(k:Int):=by omega
   clear p1 p2 p3 Fv hk;go_wp2_with fail;go_ret2;exact HM.out
  |succ gg=>
   have ay:k<n:=by omega
   have ax:(k:Int)<(n:Int):=by omega
   have dt:(0:Int)<=(k:Int):=by omega
   have G:k<l.length:=by rw[z.out];exact ay
   have J:=D3.out (l.getD k 0) (by rw[aj,aG G];exact bA _);have ac:=mN (l.take k) (aA B ps) tu.out ar.out λc J=>D3.out c (bM J)
   have aa:=po (l.take k) (aA B ps) λc J=>D3.out c (bM J)
   have aC:(l.take k).length<=255:=by rw[aJ];omega
   have az:=au (BX (aA B ps) l k G);obtain⟨a',aF,av,r1,r2,r3⟩:=Zb.out;cases av;obtain⟨aI,off,rfl,r4⟩:=r3 (by intro e;have :=cB List.length e;rw[fI,b8] at this;omega);have ah:=(r4 k (by rw[fI];exact G)).trans (np G);generalize l.getD k 0=c at *;have WO:Hid (Calls prog 142 #[.pointer (some ⟨b,0,none⟩),.int .i64 (c:Int),.bool true] wr (jE wr b kX B ((ps++cW (aA B ps) (l.take k))++eJ (aA (aA B ps) (cW (aA B ps) (l.take k))) c true))):=by
    have :=Lv p2 (by rw[bD];exact ac.1) (by rw[aD,aa];have :=yI.out;omega) (c:Int) true;rw[bD,aH] at this;exact this
   have ag:∀(w':World) (gG:Nat),eO w' b gG B ((ps++cW (aA B ps) (l.take k))++eJ (aA (aA B ps) (cW (aA B ps) (l.take k))) c true)->Hid (Calls prog 177 #[.pointer (some ⟨b,0,none⟩),.int .i64 (c:Int)] w' (jE w' b gG B (ps++cW (aA B ps) (l.take (k+1))))):=by
    intro w' gG aB;have :=OC aB (by rw[aD,aD,aa,Il _ c J.1 J.2];have :=yI.out;omega) c J.2;rw[az.out];show Calls _ _ _ _ _;simpa only[ba] using this
   have P1:=au p1;have P3:=au p3;have af:=au ag;clear p1 p2 p3 Fv J ac aa aC r1 r2 r3 r4 G Zb HQ ag;go_wp2_with fail;refine WO.out.mono ?_;rintro e w2 ⟨rfl,pq,s1,s2,s3⟩;have HE:=(af.out w2 pq s2);have S1:=au s1;have S3:=au s3;clear s1 s2 s3 af WO;go_wp2_with fail;refine HE.out.mono ?_;rintro e w3 ⟨rfl,t1⟩;have HO:Hid (Onto w1 b V B (ps++cW (aA B ps) (l.take (k+1))) w3):=Onto.trans P1.out P3.out (Onto.trans S1.out S3.out t1);clear t1;go_wp2_with fail;go_roundg gg;case measure=>omega
   case rel=>exact⟨k+1,by omega,by go_num,HO⟩
def gF (i:Int):Int:=if i<0\/32<=i then -1 else 824+i*8
theorem jY (i:Int)(w:World):Calls prog 137 #[.int .i64 i] w λe w'=>e= .returned (.int .i64 (gF i))/\w=w':=by
 rcases (show i<0\/32<=i\/(0<=i/\i<32) by omega) with h|h|⟨z,J⟩
 ·rw[gF,aC (.inl h)]
  go_enter func137,ntmps137;go_wp2;go_ret;exact⟨rfl,rfl⟩
 ·rw[gF,aC (.inr h)]
  have G:¬i<0:=by omega
  go_enter func137,ntmps137;go_wp2;go_ret;exact⟨rfl,rfl⟩
 ·rw[gF,aB (by omega)]
  go_enter func137,ntmps137;go_wp2;go_ret;exact⟨rfl,rfl⟩
def dY (n:bP) (own:List Nat):List Int:=(own.take (bj n.E.length)).map (λx:Nat=>(x:Int))++n.B.drop (bj n.E.length)
def fk (n:bP) (own:List Nat):Nat:=if bj n.E.length<own.length then own.getD (bj n.E.length) 0 else 0
def rM (E:List (ByteArray×Int)) (l:List Int) (k:Nat):List (Int×Int):=(List.range k).flatMap λj=>jD (1080+8*(l.getD j 0).toNat) (iG E j) 8
def pE (n:bP) (own:List Nat):List (Int×Int):=if bj n.E.length<own.length then jD (1080+8*fk n own) ((dY n own).drop 5) 8 else []
def vz (i:Nat) (n:bP) (own:List Nat):List (Int×Int):=
 rM n.E (dY n own) (bj n.E.length)++(pE n own++jD (824+8*i) (il n (dY n own) (fk n own)) 8)
def oP (X:List Int) (i:Nat) (n:bP) (own:List Nat):List (Int×Int):=cW X own++vz i n own
theorem zA (E:List (ByteArray×Int))(l:List Int)(k:Nat):rM E l (k+1)=rM E l k++jD (1080+8*(l.getD k 0).toNat) (iG E k) 8:=by
 unfold rM;rw[dS,List.flatMap_append];simp
theorem xW (E:List (ByteArray×Int))(l:List Int)(k:Nat):(rM E l k).length=8*k:=by
 induction k with
 |zero=>rfl
 |succ k ih=>rw[zA,aD,ih,nW];omega
theorem Ra (l:List Nat):zs (l.map λx:Nat=>(x:Int))=dE l:=by simp[zs,dE,Function.comp_def]
theorem jz (h:bZ n):n.E.length<=24/\bj n.E.length<=6/\(n.E.length≠0->n.K=2/\og n):=by
 have :n.E.length<=24/\(n.E.length≠0->n.K=2/\og n):=by
  rcases h.2.2 with h|h
  ·have :=h.2.2.1
   exact⟨by omega,λh=>absurd this h⟩
  ·exact⟨h.2.1,λ_=>h⟩
 refine⟨this.1,?_,this.2⟩;unfold bj;omega
theorem sH (h:bZ n):yK n:=by
 obtain⟨hF,G,z⟩:=h;refine⟨by omega,?_,by omega,?_⟩
 ·rcases z with z|z
  ·have :=z.1;omega
  ·have :=z.1;omega
 ·rcases z with z|z
  ·have :=z.2.1;omega
  ·have :=z.2.2.1;have :=z.2.1;omega
theorem Md (h:bZ n)(G:∀k,k<n.E.length->(eU n.E k).size<=9223372036854775807):vZ n.E:=by
 have J:=jz h;refine⟨by omega,G,λk z=> ?_⟩;have :=((J.2.2 (by omega)).2.2.2.2 k z).2.1;omega
theorem tX (h:bZ n)(G:n.B.length=13):∀k,0<=n.B.getD k 0/\n.B.getD k 0<256:=by
 intro k;by_cases z:k<13
 ·rcases h.2.2 with h|h
  ·exact(h.2.2.2.2 k z).1
  ·rw[h.2.2.2.1,aj,bo]
   split<;>simp
 ·rw[aj,aT (by omega)]
  simp
theorem tY (h:n.B.length=13)(z:bj n.E.length<=13)(G:bj n.E.length<=own.length):(dY n own).length=13:=by
 simp[dY,h];omega
theorem tZ (z:bj n.E.length<=own.length)(k:Nat):(dY n own).getD k 0=if k<bj n.E.length then ((own.getD k 0:Nat):Int) else n.B.getD k 0:=by
 unfold dY;simp only[aj,iy,bS,aJ,cC z,bF,bO,bT];by_cases h:k<bj n.E.length
 ·rw[aC h,aC h,aC h,aG (by omega)]
  rfl
 ·rw[aB h,aB h,show bj n.E.length+(k-bj n.E.length)=k by omega]
theorem B0 (h:bZ n)(J:n.B.length=13)(G:bj n.E.length<=own.length)(z:∀c∈own,c≠0/\c<256):∀k,0<=(dY n own).getD k 0/\(dY n own).getD k 0<256:=by
 intro k;rw[tZ G];split
 ·rename_i hk
  have :=z (own.getD k 0) (by rw[aj,aG (by omega)];exact bA _);omega
 ·exact tX h J k
theorem Te{n gs m mc:Nat}{h:List Int}(U:bh w b (zs h).toArray T)(hs:Reads w (.slice a own.length V) gs (dE own))(hm:m<=n)(W:m<=h.length)(aa:m<=own.length):
  ∃v w',(∀ty,(Builtin.copy_ #[141,141] ty #[.slice (some ⟨b,0,none⟩) n cap,.slice a m mc]).run prog w= .ok v w')/\bh w' b (zs ((own.take m).map (λx:Nat=>(x:Int))++h.drop m)).toArray T/\az [b] w w':=by
 by_cases h0:m=0
 ·subst h0
  refine⟨_,w,λty=>run_copy_none (P:= prog) w 141 141 ty 3 (some ⟨b,0,none⟩) a n cap 0 mc underlying141 nR (by simp),?_,az.refl _ _⟩;simpa using U
 ·obtain⟨a',G,hv,r1,r2,r3⟩:=hs
  obtain⟨rfl,rfl⟩:a=a'/\V=G:=by injection hv with h1 h2 h3;exact⟨h1,h3⟩
  obtain⟨hg,off,rfl,r4⟩:=r3 (by intro e;have :=cB List.length e;rw[fI,b8] at this;omega);have J:(dE (own.take m)).length=min m n:=by rw[fI,aJ];omega
  refine⟨_,_,λty=>run_copy_row (P:= prog) w 141 141 ty 3 b 0 n cap ⟨gs,off,none⟩ m mc (zs h).toArray T (dE (own.take m)) underlying141 nR U J ?_ ?_ ?_,?_,(az.refl _ _).setRow (by simp) _⟩
  ·intro j u z
   have hj:j<m:=by
    have :=(List.getElem?_eq_some_iff.1 z).1;rw[J] at this;omega
   rw[np (by rw[aJ];omega)] at z;rw[add_plain,r4 j (by rw[fI];omega),np (by omega),<-z];simp[hj]
  ·rw[J,bN,eF];omega
  ·intro u z
   rw[<-Ra] at z;exact l9 _ u z
  ·have e:((zs h).toArray.toList.take 0++dE (own.take m)++(zs h).toArray.toList.drop (0+(dE (own.take m)).length)).toArray=(zs ((own.take m).map (λx:Nat=>(x:Int))++h.drop m)).toArray:=by
    rw[J,cC hm,BJ,Ra];simp[zs,List.map_drop]
   rw[e];exact kr U
theorem Pa (a:Option Addr)(n cap c:Nat)(J:c<=cap)(w:World):
  (Instr.sliceAt 141 (.slice a n cap) none (some (.int .i64 (c:Int))) none).run prog w= .ok (.slice a c cap) w:=by
 have h: prog.underlying 141 =some (.slice (prog.elem 141)):=by kernel_rfl
 have G: prog.elem 141 = 3 :=by kernel_rfl
 have z:(sizeOf 3).run prog w= .ok 1 w:=by kernel_rfl
 rw[jh _ _ _ _ _ _ h,run_slice_h _ _ _ _ _ h .i64 (c:Int) (by omega) (by omega),G,z];cases a with
 |none=>simp[sliced]
 |some x=>cases x;simp[sliced,Addr.add]
theorem Tf (b:Nat)(w:World):(Instr.sliceAt 109 (.pointer (some ⟨b,0,none⟩)) none none none).run prog w= .ok (.slice (some ⟨b,0,none⟩) 13 13) w:=by show Sem.run _ _ _=_;kernel_rfl
theorem ac2 (z:bh w g (aR n v) T)(h:n.B.length=13):(loadVar 109 ⟨g,4,none⟩).run prog w= .ok (.agg (zs n.B).toArray) w:=
 fc z h λ_ G=>BK v (by omega)
end Go.Proofs.YtepbpdipenedhaaGreatDoor
