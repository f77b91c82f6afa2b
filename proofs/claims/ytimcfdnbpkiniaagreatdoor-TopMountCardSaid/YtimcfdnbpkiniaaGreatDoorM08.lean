/- Lemmas. -/
import Derived.Test.YtimcfdnbpkiniaaGreatDoorM07
import Derived.Deep.RegionHeld3
set_option maxHeartbeats 8000000
set_option maxRecDepth 100000
namespace Go.Proofs.YtimcfdnbpkiniaaGreatDoor
open Go.Proofs.Tryz
section
open Go.RowKit
variable{w w5:World}{n:bT}{own z:List Nat}{T V W b cap g gB:Nat}{a:Option Addr}{E:List (ByteArray×Int)}{v:Value}{B l:List Int}{ps:List (Int×Int)}
section
variable {P:Program} {ops:Array Oper} {Q:Exit->Act->World->Prop} {md:Region.Mode} {S:World->Prop}
def abo (S:World->Prop) (K:Act->World->Prop) (Q:Exit->Act->World->Prop):Exit->Act->World->Prop
 | .normal,a,w=>S w/\K a w
 |e,a,w=>Q e a w
def gH (P:Program) (ops:Array Oper) (Q:Exit->Act->World->Prop) (S:World->Prop):List Oper->Act->World->Prop
 | [],a,w=>Q .normal a w
 |o::rest,a,w=>wpList P ops (abo S (gH P ops Q S rest) Q) [o] a w
def cU (P:Program) (ops:Array Oper) (S:World->Prop) (E:Act->Prop):List Oper->Act->Prop
 | [],a=>E a
 |o::rest,a=>∃v,YieldsIf P ops S o v a/\cU P ops S E rest (a.put o.dst v)
theorem Bt {i:Nat}{o:Oper}{K:Act->World->Prop}{a:Act}{w:World}(V:ops[i]? =some o)(h:wpList P ops (abo S K Q) [o] a w):wpOp P ops Q i (λa w=>S w/\K a w) a w:=by
 unfold Go.wpOp;simp only[V];unfold wpList at h;split
 ·rename_i hw
  rw[aB hw] at h;rcases h with h|⟨J,U⟩
  ·refine .inl ?_
   unfold Oper.wp at *;generalize (execOp a.eval o).run P w=r at *;cases r with
   |ok n w'=>
    cases n<;>simp only[Oper.upon] at h ⊢
    case value u=>exact h
    case skip=>exact h
    case defer d=>exact h
    case enter f args=>
     refine Calls.mono h λe G z=> ?_
     cases e with
     |returned u=>exact z
     |panicked c=>exact z
     |outgrown=>exact z
    case row row args=>exact Rows.mono h λu G z=>z
   |halt x w'=>
    cases x<;>simp only[Oper.upon] at h ⊢
    case panic u=>exact h
  ·exact .inr ⟨J,U⟩
 ·rename_i hw
  rw[aA hw] at h;exact h
def D9 (md:Region.Mode) (ops:Array Oper) (h:Array Bool):List Nat->Bool
 | []=>true
 |i::is=>Region.free md ops h i&&(Region.ready md ops h).contains i&&D9 md ops (h.setIfInBounds i true) is
def zV (md:Region.Mode) (ops:Array Oper) (h:Array Bool):List Nat->Bool
 | []=>Region.ready md ops h == []
 |i::is=>(Region.ready md ops h == [i])&&zV md ops (h.setIfInBounds i true) is
theorem Ea:∀(G:List Nat) (tl:List Oper) (z:Array Bool) (a:Act) (w:World),zV md ops z G=true->tl=G.filterMap (λi=>ops[i]?)->tl.length=G.length->gH P ops Q S tl a w->
  wpAnyH P md ops Q S G.length z a w
 | [],tl,z,a,w,hb,hl,_,h=>by
  have :tl=[]:=by rw[hl];rfl
  subst this;exact wpAnyH_done (by simpa[zV] using hb) h 0
 |i::is,tl,z,a,w,hb,hl,hlen,h=>by
  unfold zV at hb;simp only[gj] at hb;have W:Region.ready md ops z=[i]:=by simpa using hb.1
  cases ho:ops[i]? with
  |none=>
   exfalso
   rw[hl,gT,ho] at hlen;have :=List.length_filterMap_le (λi=>ops[i]?) is;simp only[cu] at hlen;omega
  |some o=>
   rw[gT,ho] at hl;subst hl;refine wpAnyH_all W (by simp) λj U=> ?_
   rw[au] at U;subst U;exact wpOp_mono (λV w' J=>⟨J.1,Ea is _ _ V w' hb.2 rfl (by simpa using hlen) J.2⟩) (Bt ho h)
theorem Bu (U:Region.noSelect ops=true)(V:∀d v c a w,Q (.panic c) (Act.put a d v) w->Q (.panic c) a w)(G:List Nat)(tl:List Oper)(w:World)(W:S w)(J:tl=G.filterMap (λi=>ops[i]?))(Uw:tl.length=G.length):
  ∀(path:List Nat) (l:List Oper) (z:Array Bool) (a:Act),D9 md ops z path=true->zV md ops (sW z path) G=true->l=path.filterMap (λi=>ops[i]?)->l.length=path.length->
   cU P ops S (λa=>gH P ops Q S tl a w) l a->wpAnyH P md ops Q S (G.length+path.length) z a w
 | [],l,z,a,_,hb,hl,_,h=>by
  have :l=[]:=by rw[hl];rfl
  subst this;exact Ea G tl z a w hb J Uw h
 |i::is,l,z,a,ht,hb,hl,hlen,h=>by
  unfold D9 at ht;simp only[gj] at ht;cases ho:ops[i]? with
  |none=>
   exfalso
   rw[hl,gT,ho] at hlen;have :=List.length_filterMap_le (λi=>ops[i]?) is;simp only[cu] at hlen;omega
  |some o=>
   rw[gT,ho] at hl;subst hl;obtain⟨v,hv,hr⟩:=h;rw[cu,<-Nat.add_assoc];exact wpAnyH_take ho U ht.1.1 ht.1.2 (V o.dst v) hv W (Bu U V G tl w W J Uw is _ _ _ ht.2 hb rfl (by simpa using hlen) hr)
theorem Eb {a:Act}{w:World}(path z:List Nat){l tl:List Oper}(U:Region.noSelect ops=true)(ht:D9 .any ops (Array.replicate ops.size false) path=true)(hb:zV .any ops (sW (Array.replicate ops.size false) path) z=true)
  (hl:l=path.filterMap (λi=>ops[i]?)) (V:l.length=path.length) (J:tl=z.filterMap (λi=>ops[i]?)) (Uw:tl.length=z.length) (G:z.length+path.length=ops.size)
  (W:∀d v c a w,Q (.panic c) (Act.put a d v) w->Q (.panic c) a w) (hS:S w) (h:cU P ops S (λa=>gH P ops Q S tl a w) l a):wpAny P .any ops Q ops.size (Array.replicate ops.size false) a w:=by
 rw[<-G];refine wpAny_of_held _ _ _ _ (Bu U W z tl w hS J Uw path l _ a ?_ ?_ hl V h)
 ·rw[G];exact ht
 ·rw[G];exact hb
theorem ky {id:Nat}{a:Act}{w:World}(path z:List Nat){l tl:List Oper}(hm:P.follows .mixedOrders=true)(U:Region.noSelect ops=true)(ht:D9 .any ops (Array.replicate ops.size false) path=true)(hb:zV .any ops (sW (Array.replicate ops.size false) path) z=true)
  (hl:l=path.filterMap (λi=>ops[i]?)) (V:l.length=path.length) (J:tl=z.filterMap (λi=>ops[i]?)) (Uw:tl.length=z.length) (G:z.length+path.length=ops.size)
  (W:∀d v c a w,Q (.panic c) (Act.put a d v) w->Q (.panic c) a w) (hS:S w.drew) (h:cU P ops S (λa=>gH P ops Q S tl a w.drew) l a):(Code.region id ops true).wp P Q a w:=
 wp_region_any hm (Eb path z U ht hb hl V J Uw G W hS h)
def Bv (ops:Array Oper):Bool:=ops.all λo=>match o.op with | .defer _=>false|_=>true
theorem Bw (h:Bv ops=true):∀(i:Nat) (o:Oper),ops[i]? =some o->∀c,o.op≠.defer c:=λi o G c e=>by
 unfold Bv at h;rw[Array.all_eq_true] at h;obtain⟨z,J⟩:=Array.getElem?_eq_some_iff.1 G;have :=h i z;rw[J] at this;simp only[e] at this;cases this
theorem rF:∀(l:List Oper),(List.range l.length).filterMap (λi=>l[i]?)=l
 | []=>rfl
 |o::l=>by
  rw[cu,List.range_succ_eq_map,gT];simp only[iD];rw[List.filterMap_map]
  congr 1
  exact rF l
theorem sX {f g:Nat->Option Oper}:∀{l:List Nat},(∀i,i∈l->f i=g i)->l.filterMap f=l.filterMap g
 | [],_=>rfl
 |i::l,h=>by
  rw[gT,gT,h i (by simp),sX λj z=>h j (by simp[z])]
theorem yc {l tl:List Oper}(h:ops.toList=l++tl):l=(List.range l.length).filterMap (λi=>ops[i]?)/\tl=((List.range tl.length).map (l.length+·)).filterMap (λi=>ops[i]?):=by
 have z:∀i,ops[i]? =(l++tl)[i]? :=λi=>by rw[<-h,dH]
 constructor
 ·refine(rF l).symm.trans (sX λi G=> ?_)
  rw[z,ba (by simpa using G)]
 ·rw[List.filterMap_map]
  refine(rF tl).symm.trans (sX λi G=> ?_);show _=ops[l.length+i]?;rw[z,aR (by omega),dD]
theorem Gw {a:Act}{w:World}{l tl:List Oper}(z:ops.toList=l++tl)(G:Region.noSelect ops=true)(V:D9 .any ops (Array.replicate ops.size false) (List.range l.length)=true)(W:zV .any ops (sW (Array.replicate ops.size false) (List.range l.length)) ((List.range tl.length).map (l.length+·))=true)
  (J:∀d v c a w,Q (.panic c) (Act.put a d v) w->Q (.panic c) a w) (U:S w) (h:cU P ops S (λa=>gH P ops Q S tl a w) l a):wpAny P .any ops Q ops.size (Array.replicate ops.size false) a w:=
 Eb (List.range l.length) ((List.range tl.length).map (l.length+·)) G V W (yc z).1 (by simp) (yc z).2 (by simp) (by rw[<-dO,z];simp;omega) J U h
theorem ye {id:Nat}{a:Act}{w:World}{l tl:List Oper}(W:P.follows .mixedOrders=true)(V:ops.toList=l++tl)(z:Region.noSelect ops=true)(U:D9 .any ops (Array.replicate ops.size false) (List.range l.length)=true)(hb:zV .any ops (sW (Array.replicate ops.size false) (List.range l.length)) ((List.range tl.length).map (l.length+·))=true)
  (G:∀d v c a w,Q (.panic c) (Act.put a d v) w->Q (.panic c) a w) (J:S w.drew) (h:cU P ops S (λa=>gH P ops Q S tl a w.drew) l a):(Code.region id ops true).wp P Q a w:=
 wp_region_any W (Gw V z U hb G J h)
theorem uY {n:Nat}{r:Option Nat}{id:Nat}{a:Act}{w:World}{l tl:List Oper}(hm:P.follows .mixedOrders=true)(W:ops.toList=l++tl)(z:Region.noSelect ops=true)(hq:¬LetsOut Q)(V:Bv ops=true)(U:D9 .any ops (Array.replicate ops.size false) (List.range l.length)=true)(hb:zV .any ops (sW (Array.replicate ops.size false) (List.range l.length)) ((List.range tl.length).map (l.length+·))=true)
  (G:∀d v c a w,Q (.panic c) (Act.put a d v) w->Q (.panic c) a w) (J:S w.drew) (h:cU P ops S (λa=>gH P ops Q S tl a w.drew) l a):(Code.region id ops true).wpIn { Fence.wide with round:=r } n P Q a w:=
 xV hm hq (Bw V) (Gw W z U hb G J h)
theorem cU.cons{E:Act->Prop}{o:Oper}{rest:List Oper}{a:Act}(v:Value)(h:YieldsIf P ops S o v a)(z:cU P ops S E rest (a.put o.dst v)):cU P ops S E (o::rest) a:=⟨v,h,z⟩
theorem cU.done{E:Act->Prop}{a:Act}(h:E a):cU P ops S E [] a:=h
theorem YieldsIf.val{o:Oper}{v:Value}{a:Act}(z:Region.wanted o (yielded ops a.tmps)=true)(h:∀w,S w->(execOp a.eval o).run P w= .ok (.value v) w):YieldsIf P ops S o v a:= .inl ⟨z,h⟩
theorem YieldsIf.load{o:Oper}{v:Value}{a:Act}(J:Region.wanted o (yielded ops a.tmps)=true)(ty:TypeId)(x:Operand)(V:o.op= .load ty x)(z:Addr)(U:a.eval x= .pointer (some z))(h:∀w,S w->(loadVar ty z).run P w= .ok v w):YieldsIf P ops S o v a:=
 YieldsIf.val J λw G=>by
  unfold execOp;simp only[V,U,Instr.loadAt,Instr.sureAddr,cr,fQ,cO,h w G]
end
end
section
open Go.RowKit Go.Shelf
variable{w w5:World}{n:bT}{own z:List Nat}{T V W b cap g gB:Nat}{a:Option Addr}{E:List (ByteArray×Int)}{v:Value}{B l:List Int}{ps:List (Int×Int)}
attribute [local go_sem] j5
theorem Tryz.info_r8:(prog.info? 132).map (λi=>(i.zero,i.size,i.bytes))=some (some (.agg #[.int .u64 0,.int .u64 0,.int .u64 0,.int .u64 0,.int .u64 0,.int .u64 0,.int .u64 0,.int .u64 0]),8,64):=by kernel_rfl
theorem Ux (n:Nat)(W:n<=100000)(m:Int)(U:m=(n:Int))(w:World):(Instr.makeSlice 234 (.int .i64 m) (.int .i64 m)).run prog w=
  .ok (.slice w.heap.size n n) (w.alloc (.cells (madeCells #[.int .u64 0,.int .u64 0,.int .u64 0,.int .u64 0,.int .u64 0,.int .u64 0,.int .u64 0,.int .u64 0] (n*8)) 132)):=by
 subst U;obtain⟨V,J,h,z,G⟩:=df Tryz.info_r8;have :=run_make (P:= prog) w 234 132 V _ underlying234 J h .i64 .i64 (n:Int) (n:Int) (by omega) (by omega) (by rw[G];omega) (by omega);rw[z,aG] at this;exact this
theorem Uy (n:Nat):madeCells #[Value.int .u64 0,.int .u64 0,.int .u64 0,.int .u64 0,.int .u64 0,.int .u64 0,.int .u64 0,.int .u64 0] (n*8)=(aY (List.replicate (8*n) 0)).toArray:=by
 apply Array.toList_inj.1;apply cE;intro j;simp only[madeCells,Array.toList_map,Array.toList_range,bJ,aY,jT,bj];by_cases h:j<n*8
 ·rw[cC h,aB]
  have z:j%8<8:=iw _ (by omega);show some ((#[Value.int .u64 0,.int .u64 0,.int .u64 0,.int .u64 0,.int .u64 0,.int .u64 0,.int .u64 0,.int .u64 0]:Array Value)[j%8]!)=_;generalize j%8=q at *;rcases (show q=0\/q=1\/q=2\/q=3\/q=4\/q=5\/q=6\/q=7 by omega) with rfl|rfl|rfl|rfl|rfl|rfl|rfl|rfl<;>rfl
 ·rw[aP (by simpa using h),aA]
  rfl
structure Gx (w5 wx:World) (n:bT) (own:List Nat) (gB wB fB:Nat) (b:Nat) (pre:List Nat):Prop where
 keep:ay [gB,wB,fB] w5 wx
 rows:∃C,CQ n.E own b pre C/\bh wx gB (aY C).toArray 132
 row:bh wx wB (aY (rE n own b pre.length)).toArray 132
 fill:bh wx fB #[((fO n.E b+pre.length:Nat):Int)] 3
def acX (D:Nat):Deferred:={ target:= .collected D,args:= #[] }
theorem mD {P:Program}{n:Nat}{fn:Func}{tmps:Array Value}{R:Ending->World->Prop}:∀(z:List Nat) (W:World),z.Nodup->(∀D∈z,W.heap[D]? =some (.deferred (some [])))->
  (∀G,ay z W G->∃v,(results fn tmps).run P G= .ok v G/\R (.returned v) G)->LeavesInM Fence.wide n P fn tmps R (z.map acX) .returning W
 | [],W,_,_,h=>h W (ay.refl _ _)
 |D::z,W,hn,hm,h=>by
  have h1:=hm D (by simp);have aa:=(Array.getElem?_eq_some_iff.1 h1).1;have J:ay [D] W (W.putObj D (.deferred none)):=ay.of_grown (grownBy_putObj' W D _) λk J=> .inl (by cases J;simp)
  refine⟨by simp,.inl ⟨D,_,rfl,run_takeDeferred h1,?_⟩⟩;rw[List.nodup_cons] at hn;refine mD z _ hn.2 (λD' U=> ?_) λG V=>h G ?_
  ·have h2:=hm D' (by simp[U])
   refine(World.putObj_heap_other (λe=>hn.1 (by rw[<-e];exact U))).trans h2
  ·exact(J.mono (by simp)).trans' (V.mono λk J _=>jc _ J)
theorem Gx.turn{A U:World}(h:Gx w5 A n own gB V W b z){row:Option Nat}{B:Nat}(G:A.grownBy U row)(J:∀r,row=some r->B<=r/\∃o:Obj,A.heap[r]? =some o/\o.isCells=false)(hB:w5.heap.size<=B):Gx w5 U n own gB V W b z:=by
 obtain⟨h1,⟨C,h2,h3⟩,h4,h5⟩:=h;exact⟨h1.turn G (λr e=>(J r e).1) hB,⟨C,h2,h3.turn G λr e=>(J r e).2⟩,h4.turn G λr e=>(J r e).2,h5.turn G λr e=>(J r e).2⟩
def Uz (E:List (ByteArray×Int)) (z h b p:Nat):Addr:=if p=0 then ⟨h,2+b,none⟩ else ⟨z,8*(fO E b+p-1),none⟩
theorem Gx.link{W:World}{fB f:Nat}(h:Gx w5 W n own gB V fB b z)(hb:b<4)(U:f=fO n.E b+z.length)(aa:f<own.length)(ac:gB≠V):
  ∃G lo C1 ae,Uz n.E gB V b z.length=⟨G,lo,none⟩/\(G=gB\/G=V)/\W.cell? ⟨G,lo,none⟩=some (.int .u64 ae)/\W.frozen? ⟨G,lo,none⟩=false/\8*f+7<C1.length/\
   (∀x,CQ n.E own b (z++[x]) (Gv C1 (8*f+1) (eT (yU (eB n.E b) x))))/\
   bh (W.drew.setCell ⟨G,lo,none⟩ (.int .u64 ((own.getD f 0:Nat):Int))) gB (aY C1).toArray 132/\bh (W.drew.setCell ⟨G,lo,none⟩ (.int .u64 ((own.getD f 0:Nat):Int))) V (aY (rE n own b (z.length+1))).toArray 132 :=by
 obtain⟨C,hC,Mh⟩:=h.rows;by_cases J:z.length=0
 ·refine⟨V,2+b,C,(rE n own b z.length).getD (2+b) 0,by rw[Uz,aB J],.inr rfl,by rw[h.row.cell,aF,dF (by rw[yb];omega)],h.row.frozen _,by rw[hC.len];omega,λx=>hC.step x f U aa (by rw[aB J]),Mh.drew.other ac _,?_⟩
  have :=h.row.drew.set (2+b) (.int .u64 ((own.getD f 0:Nat):Int));rw[ag,lI] at this;have e:(rE n own b z.length).set (2+b) ((own.getD f 0:Nat):Int)=rE n own b (z.length+1):=by
   rw[J] at U ⊢;rw[U];exact X4 n own b hb
  rw[e] at this;exact this
 ·have hl:8*(fO n.E b+z.length-1)<C.length:=by rw[hC.len];omega
  refine⟨gB,8*(fO n.E b+z.length-1),C.set (8*(f-1)) ((own.getD f 0:Nat):Int),C.getD (8*(fO n.E b+z.length-1)) 0,by rw[Uz,aA J],.inl rfl,by rw[Mh.cell,aF,dF hl],Mh.frozen _,by rw[cY,hC.len];omega,λx=>hC.step x f U aa (by rw[aA J]),?_,?_⟩
  ·have :=Mh.drew.set (8*(fO n.E b+z.length-1)) (.int .u64 ((own.getD f 0:Nat):Int))
   rw[ag,lI] at this;rw[U];rw[U] at this;exact this
  ·rw[<-Uu n own b z.length J]
   exact h.row.drew.other (λe=>ac e.symm) _
theorem UB{len:Nat}{l:List (ByteArray×Int)}(h:bD w (.slice a len cap) g l)(x:Nat):bD w (chV a len x) g (yU l x):=by
 obtain⟨a',c',U,h2,h3,V⟩:=h;cases U;by_cases z:l.length=0
 ·have G:(yU l x).length=0:=by rw[nS,z];omega
  refine⟨?_,?_,?_,?_,?_,λh=>absurd G h⟩
  ·exact match a with | some ⟨g,off,_⟩=>some ⟨g,off+x*3*2,none⟩|none=>none
  ·exact 0
  ·rw[G]
   cases a with
   |none=>rfl
   |some a=>simp[chV,z]
  ·rw[G];exact aH _
  ·unfold maxLen;omega
 ·obtain⟨W,off,rfl,J⟩:=V z
  refine⟨some ⟨g,off+x*3*2,none⟩,min 3 (l.length-3*x),by rw[nS];rfl,by rw[nS];exact aH _,by unfold maxLen;omega,λ_=>⟨W,_,rfl,λj hj=> ?_⟩⟩;rw[nS] at hj;have h5:=J (3*x+j) (by omega);have e:l[3*x+j]? =(yU l x)[j]? :=by
   unfold yU;rw[ij (by omega),b9]
  have e1:eX (yU l x) j=eX l (3*x+j):=by simp only[eX,aj];rw[e]
  have e2:jm (yU l x) j=jm l (3*x+j):=by simp only[jm,aj];rw[e]
  rw[e1,e2,show off+x*3*2+j*2=off+(3*x+j)*2 by omega];exact h5
theorem Fh (l:List (ByteArray×Int))(x j:Nat)(h:j<(yU l x).length):3*x+j<l.length/\eX (yU l x) j=eX l (3*x+j)/\jm (yU l x) j=jm l (3*x+j):=by
 rw[nS] at h;have e:l[3*x+j]? =(yU l x)[j]? :=by
  unfold yU;rw[ij (by omega),b9]
 exact⟨by omega,by simp only[eX,aj];rw[e],by simp only[jm,aj];rw[e]⟩
theorem Fi{k:Nat}(h:k<(eB E b).length):∃j,j<E.length/\eX (eB E b) k=eX E j/\jm (eB E b) k=jm E j:=by
 have G:(eX (eB E b) k,jm (eB E b) k)∈E:=(List.mem_filter.1 (Xy h)).1;obtain⟨j,z,e⟩:=bW G;have :E.getD j (ByteArray.empty,0)=E[j]:=by simp[z]
 exact⟨j,z,by rw[eX,eX,this,e];rfl,by rw[jm,jm,this,e];rfl⟩
theorem adS (h:xZ E)(b x:Nat):xZ (yU (eB E b) x):=by
 refine⟨by rw[nS];omega,λk z=> ?_,λk z=> ?_⟩
 ·obtain⟨G,W,V⟩:=Fh _ _ _ z
  obtain⟨j,J,e1,U⟩:=Fi G;rw[W,e1];exact h.size j J
 ·obtain⟨G,W,V⟩:=Fh _ _ _ z
  obtain⟨j,J,e1,U⟩:=Fi G;rw[V,U];exact h.ino j J
theorem Qw (n:bT)(v:Value)(g:Nat)(hB:n.B.length=13)(ht:zP n)(hE:bD w v g n.E)(bZ:xZ n.E)(dB:n.E.length<=1000)(vo:Value)(go:Nat)(own:List Nat)(hO:Reads w vo go (dL own))(uZ:fO n.E 4=own.length)(wC:∀c∈own,c<256):
  Calls prog 212 #[aM n v,vo] w (pL w (Gu n own) (ya n.E own 4)):=by
 have dC:own.length<=4000:=by
  have V:=kC n.E 0;have U:=kC n.E 1;have h3:=kC n.E 2;have h4:=kC n.E 3;simp only[fO,dN] at uZ;omega
 obtain⟨ao,co,rfl,Nn,dF,SF⟩:=sV hO;have HH:=ar (Fg n v hB ht);obtain⟨W0,aC⟩:∃W0,W0=((w.alloc (.cells (aM n v) 75)).alloc (.cells #[.slice ao own.length co] 76)).alloc (.cells (aY (List.replicate 8 0)).toArray 132):=⟨_,rfl⟩;have aT:bh W0 w.heap.size (aM n v) 75 :=by
  rw[aC];exact((bh.new w _ _).alloc _).alloc _
 have bg:bh W0 (w.heap.size+1) #[.slice ao own.length co] 76 :=by
  have :=bh.new (w.alloc (.cells (aM n v) 75)) #[.slice ao own.length co] 76;have e:(w.alloc (.cells (aM n v) 75)).heap.size=w.heap.size+1:=by simp
  rw[e] at this;rw[aC];exact this.alloc _
 have EN:Hid (bh W0 (w.heap.size+2) (aY (List.replicate 8 0)).toArray 132):=by
  have :=bh.new ((w.alloc (.cells (aM n v) 75)).alloc (.cells #[.slice ao own.length co] 76)) (aY (List.replicate 8 0)).toArray 132;have e:((w.alloc (.cells (aM n v) 75)).alloc (.cells #[.slice ao own.length co] 76)).heap.size=w.heap.size+2:=by simp
  rw[e,<-aC] at this;exact this
 have fJ:Hid (ay [] w W0):=by
  rw[aC];exact(((ay.refl [] w).alloc _).alloc _).alloc _
 have uT:=ar (cg aT hB);have K6:Hid (∀G,ay [] W0 G->G.cell? ⟨w.heap.size,17,none⟩=some v):=λG J=>by rw[(aT.keep J (by simp)).cell];exact Al _ hB
 have bl:Hid (∀G,ay [] W0 G->G.cell? (w.heap.size+1:Nat)=some (.slice ao own.length co)):=λG J=>by rw[(bg.keep J (by simp)).cell];rfl
 have xt:Hid (∀G,ay [] w G->Calls prog 211 #[v] G (wm G n.E)):=λG J=>JP (hE.keep J (by simp)) (by omega) bZ.size
 have cS:=lq;obtain⟨ry,p9,zO⟩:=hh3 aC aT bg;have M8:Hid (uU n=rE n own 0 0):=(Us n own).symm;have XY:=CH n;generalize uU n=H,aM n v=Z at *;clear aT bg aC hB hE hO ht;generalize vZ:(aY (List.replicate 8 0)).toArray=Z8 at *;have xE:=ar vZ;clear vZ;refine(callsIn_wide (n:=3)).1 (callsIn_of_wp_marks func212 rfl trivial (wpIn_wide.2 ?_) rfl);simp only[ntmps212,bN,cu,cD,Nat.reduceAdd,Nat.reduceSub,fZ,gi,iH,gQ,bQ,ia];go_wp2_with((with_reducible show wpList _ _ _ (⟨_,.load 75 (.tmp 2),_,_,_,_⟩::_) _ _);rw[<-ry.out];refine gJ rfl 75 (.tmp 2) rfl _ rfl _ uT.out ?_);refine Rr (HH.out _) λw1 aU=> ?_;obtain⟨w2,cC,tS,az⟩:=bG (P:= prog) (ty:= 132) (cs:=aY H) (by rw[bB,XY];exact ja) (bh.new w1 Z8 132) (by rw[<-xE.out];simp[bB,XY]) (fk _);have uC:ay [] W0 w2:=(aU.alloc (.cells Z8 132)).trans az (by intro x hx;rw[au] at hx;have :=aU.size;omega);obtain⟨bI,SE,fo⟩:=hh3 cC tS uC;have c3:=bl.out w2 uC;have dO:w.heap.size+2<w1.heap.size:=bS EN.out.lt aU.size;have dE:w1.heap.size<w2.heap.size:=tS.lt;have ac:=Ux own.length (by omega) (own.length:Int) rfl w2;rw[Uy] at ac;obtain⟨W3,ax⟩:∃W3,W3=((w2.alloc (.cells (aY (List.replicate (8*own.length) 0)).toArray 132)).alloc (.cells #[.slice w2.heap.size own.length own.length] 234)).alloc (.cells #[(0:Int)] 3):=⟨_,rfl⟩;have nD:ay [] w2 W3:=by
  rw[ax];exact(((ay.refl [] w2).alloc _).alloc _).alloc _
 have Lg:ay [] W0 W3:=uC.trans' nD;have cj:=K6.out W3 Lg;rw[ax] at cj;obtain⟨cF,oI⟩:=hh2 (bl.out W3 Lg) (fJ.out.trans' Lg);have aQ:Hid (bh W3 w2.heap.size (aY (List.replicate (8*own.length) 0)).toArray 132):=by
  rw[ax];exact((bh.new w2 _ _).alloc _).alloc _
 have bL:Hid (bh W3 (w2.heap.size+1) #[.slice w2.heap.size own.length own.length] 234):=by
  have :=bh.new (w2.alloc (.cells (aY (List.replicate (8*own.length) 0)).toArray 132)) #[.slice w2.heap.size own.length own.length] 234;have e:(w2.alloc (.cells (aY (List.replicate (8*own.length) 0)).toArray 132)).heap.size=w2.heap.size+1:=by simp
  rw[e] at this;rw[ax];exact this.alloc _
 have b7:Hid (bh W3 (w2.heap.size+1+1) #[(0:Int)] 3):=by
  have :=bh.new ((w2.alloc (.cells (aY (List.replicate (8*own.length) 0)).toArray 132)).alloc (.cells #[.slice w2.heap.size own.length own.length] 234)) #[(0:Int)] 3;have e:((w2.alloc (.cells (aY (List.replicate (8*own.length) 0)).toArray 132)).alloc (.cells #[.slice w2.heap.size own.length own.length] 234)).heap.size=w2.heap.size+1+1:=by simp
  rw[e] at this;rw[ax];exact this
 obtain⟨bJ,cx,bX,aI⟩:=hh4 (tS.keep nD (by simp)) (EN.out.keep Lg (by simp)) (zO.out.keep Lg (by simp)) ax;clear cC tS az uC aU nD Lg HH EN zO p9 uT K6 bl ax;generalize dg:w1.heap.size=g6 at *;go_wp2_with(first|(with_reducible refine gS 132 bI.out ?_));clear cj c3 ac bI SE fo cS dg;refine((xt.out _ (aI.out▸oI.out)).mono ?_);rintro e w5 ⟨S,rfl,lh,hS⟩;rw[<-aI.out] at lh;have qU:=ar (oI.out.trans' lh);have rA:Hid (∀b,b<4->∃a cap g,S b= .slice a (eB n.E b).length cap/\(eB n.E b).length<=cap/\cap<=maxLen/\((eB n.E b).length≠0->∃g off,a=some ⟨g,off,none⟩)/\bD w5 (.slice a (eB n.E b).length cap) g (eB n.E b)/\W3.heap.size<=g):=λb hb=>by
  obtain⟨g,V,U⟩:=hS b hb;obtain⟨a,cap,h3,h4,h5,h6⟩:=V;refine⟨a,cap,g,h3,h4,h5,λh0=> ?_,h3▸⟨a,cap,h3,h4,h5,h6⟩,by rw[aI.out];exact U⟩;obtain⟨-,off,h7,-⟩:=h6 h0;exact⟨g,off,h7⟩
 obtain⟨cv,bv,bt,bE,dm,cJ⟩:=hh6 (aQ.out.keep lh (by simp)) (bL.out.keep lh (by simp)) (b7.out.keep lh (by simp)) (bJ.out.keep lh (by simp)) (cx.out.keep lh (by simp)) (bX.out.keep lh (by simp));have dV:W3.heap.size<=w5.heap.size:=lh.size;have dM:w2.heap.size+3<=W3.heap.size:=by rw[aI.out];simp
 clear lh hS xt aQ bL b7 bJ cx bX cF fJ ry aI;generalize w2.heap.size=z at *;have EK:Hid (Gx w5 w5 n own z g6 (z+1+1) 0 []):=⟨ay.refl _ _,⟨_,CQ.start n.E own,cv.out⟩,by have :=bE.out;rw[M8.out] at this;exact this,bt.out⟩;have bY:∀b,b<4->fO n.E b+dN n.E b<=own.length:=λb hb=>by
  have :=uV n.E (show b+1<=4 by omega);rw[fO,uZ] at this;exact this
 have cY:=ar bY;clear bY;have Gy:z≠g6:=by omega
 go_wp2_with fail;refine wp_loop (λa G=>∃(k:Nat) (Ds:List Nat) (u9 u10 u11 u22 u23 u24 u25 u26 u27 u28 u29 u51:Value),k<=4/\a={ tmps:= #[.agg Z,.slice ao own.length co,.pointer (some ⟨w.heap.size,0,none⟩),.pointer (some ⟨w.heap.size+1,0,none⟩),.pointer (some ⟨w.heap.size+1+1,0,none⟩),.slice none 0 0,.pointer (some ⟨g6,0,none⟩),.pointer (some ⟨z+1,0,none⟩),.pointer (some ⟨z+1+1,0,none⟩),u9,u10,u11,undef,.agg Z,.agg (aY H).toArray,.slice ao own.length co,.int .i64 (own.length:Int),.slice z own.length own.length,.pointer (some ⟨w.heap.size,17,none⟩),v,.agg (pF S),.int .i64 (k:Int),u22,u23,u24,u25,u26,u27,u28,u29,undef,undef,undef,undef,undef,undef,undef,undef,undef,undef,undef,undef,undef,undef,undef,undef,undef,undef,undef,undef,undef,u51,undef,undef],defers:=Ds.map acX }/\
   Hid (Gx w5 G n own z g6 (z+1+1) k []/\Ds.Nodup/\∀D∈Ds,w5.heap.size<=D/\G.heap[D]? =some (.deferred (some [])))) (λa _=>4-(intOf (a.tmps.getD 21 undef)).toNat) ⟨0,[],_,_,_,_,_,_,_,_,_,_,_,_,by omega,rfl,EK.out,List.nodup_nil,λD hD=>by cases hD⟩ ?_
 rintro a wr ⟨k,Ds,u9,u10,u11,u22,u23,u24,u25,u26,u27,u28,u29,u51,bo,rfl,HP⟩;clear EK;by_cases J:k<4
 ·have dX:(k:Int)<4:=by omega
  obtain⟨ak,Qx,gk,cm,ck,ac,bM,bO,cB⟩:=rA.out k J;have Iu:=λw=>Gf S J w
  rw[cm] at Iu;obtain⟨ji,hj,dY,Ci,dJ,dD⟩:∃ji:Int,2+(k:Int)=ji/\wrap64 ji=ji/\0<=ji/\ji<8/\ji.toNat=2+k:=⟨_,rfl,by unfold wrap64;omega,by omega,by omega,by omega⟩;obtain⟨kn,dR,dS,cf⟩:∃kn:Int,(k:Int)+1=kn/\wrap64 kn=kn/\Hid (kn=((k+1:Nat):Int)):=⟨_,rfl,by unfold wrap64;omega,(by show _=_;omega)⟩;obtain⟨cM,dx,cT,cO,Mi,HK,qb⟩:=hh7 cB bO bM ck ac J bo;clear cm cB bO bM ck ac J bo;generalize xD:(k:Int)=ki at *;have dv:=ar xD;clear xD;go_wp2_with fail;refine Rr (XH _ _ _ _) λwL aB=> ?_;have bk:(wr.alloc (.cells #[.pointer (some ⟨g6,2+k,none⟩)] 280)).heap.size=wr.heap.size+1:=by simp
  have ou:Hid (bh wL wr.heap.size #[.pointer (some ⟨g6,2+k,none⟩)] 280):=by
   rw[aB];exact((bh.new wr _ _).alloc _).alloc _
  have Qv:Hid (bh wL (wr.heap.size+1) #[.slice ak (eB n.E k).length Qx] 30):=by
   rw[aB,<-bk];exact(bh.new _ _ _).alloc _
  have Br:Hid (bh wL (wr.heap.size+1+1) #[(3:Int)] 3):=by
   have :=bh.new ((wr.alloc (.cells #[.pointer (some ⟨g6,2+k,none⟩)] 280)).alloc (.cells #[.slice ak (eB n.E k).length Qx] 30)) #[(3:Int)] 3;have e:((wr.alloc (.cells #[.pointer (some ⟨g6,2+k,none⟩)] 280)).alloc (.cells #[.slice ak (eB n.E k).length Qx] 30)).heap.size=wr.heap.size+1+1:=by simp
   rw[e] at this;rw[aB];exact this
  have aF:ay [] wr wL:=by
   rw[aB];exact(((ay.refl [] wr).alloc _).alloc _).alloc _
  have dK:wL.heap.size=wr.heap.size+3:=by rw[aB];simp
  rw[bk];clear aB bk;obtain⟨af,aG,ac⟩:=HP.out;have bR:Gx w5 wL n own z g6 (z+1+1) k []:=⟨af.keep.trans' (aF.mono (by simp)),by obtain⟨C,V,U⟩:=af.rows;exact⟨C,V,U.keep aF (by simp)⟩,af.row.keep aF (by simp),af.fill.keep aF (by simp)⟩;have dQ:w5.heap.size<=wr.heap.size:=af.keep.size;have cA:Hid (∀D∈Ds,w5.heap.size<=D/\D<wr.heap.size/\wL.heap[D]? =some (.deferred (some []))):=λD hD=>by
   obtain⟨V,U⟩:=ac D hD;have h3:=(Array.getElem?_eq_some_iff.1 U).1;exact⟨V,h3,(aF.block D h3 (by simp)).trans U⟩
  obtain⟨cN,bn⟩:=hh2 bR aG;clear af bR ac aF HP aG;generalize wr.heap.size=lB at *;go_wp2_with fail;refine(wpIn_wide (n:=3)).1 ?_;refine wpIn_rangeFunc_ownG (F:=Fence.wide) rfl (by omega) (gf:= 238) (lb:= #[.pointer (some ⟨lB+1,0,none⟩),.pointer (some ⟨lB+1+1,0,none⟩)]) rfl trivial (enters_of func238 (by kernel_rfl) rfl)
   (MW (3-1) (by omega) ak (eB n.E k).length Qx (cG (kC _ _) (by omega)) cO.out cT.out (lB+1) (lB+1+1) wL Qv.out Br.out)
   (λV U=>⟨U.1.trans V.1,U.2.trans V.2⟩) (λW l o o' V U _ _=>⟨World.putObj_heap_other (by omega),World.putObj_heap_other (by omega)⟩) (Below.refl _ _) (λ_=>rfl)
   (λae W=>Gx w5 W n own z g6 (z+1+1) k ae/\bh W lB #[.pointer (some (Uz n.E z g6 k ae.length))] 280/\ay [z,g6,z+1+1,lB] wL W)
   (λ_ _ _=>False)
   (λae A A' row h hg hr=>⟨h.1.turn hg hr (by omega),h.2.1.turn hg (λr e=>(hr r e).2),h.2.2.turn hg (λr e=>(hr r e).1) (aH _)⟩)
   (λ_ _ _ _ _ h _ _=>h)
   ⟨cN.out,by have :=ou.out;exact this,ay.refl _ _⟩
   (λx=>{ tmps:= #[.agg Z,.slice ao own.length co,.pointer (some ⟨w.heap.size,0,none⟩),.pointer (some ⟨w.heap.size+1,0,none⟩),.pointer (some ⟨w.heap.size+1+1,0,none⟩),.slice none 0 0,.pointer (some ⟨g6,0,none⟩),.pointer (some ⟨z+1,0,none⟩),.pointer (some ⟨z+1+1,0,none⟩),.int .i64 ki,.slice ak (eB n.E k).length Qx,.pointer (some ⟨lB,0,none⟩),chV ak (eB n.E k).length x,.agg Z,.agg (aY H).toArray,.slice ao own.length co,.int .i64 (own.length:Int),.slice z own.length own.length,.pointer (some ⟨w.heap.size,17,none⟩),v,.agg (pF S),.int .i64 ki,.bool true,.int .i64 ki,.slice ak (eB n.E k).length Qx,.int .i64 ki,.int .i64 ji,.pointer (some ⟨g6,2+k,none⟩),.slice ak (eB n.E k).length Qx,.func (.func 238) #[] #[(lB+1:Nat),(lB+1+1:Nat)],chV ak (eB n.E k).length x,undef,undef,undef,undef,undef,undef,undef,undef,undef,undef,undef,undef,undef,undef,undef,undef,undef,undef,undef,undef,u51,undef,undef],defers:=[] }) ?assign ?body ?done ?stop
  case assign=>
   intro l x W K hK
   gi_wp2
   exact hK
  case stop=>
   rintro D c ae W _ _ h _;exact h.elim
  case done=>
   rintro D ys W hD rfl ⟨IQ,UC,kg⟩ JS;have bW:(List.range (((eB n.E k).length+2)/3)).length=dN n.E k:=fL;have SH:Gx w5 W n own z g6 (z+1+1) (k+1) []:=by
    obtain⟨V,⟨C,U,h3⟩,h4,h5⟩:=IQ;rw[bW] at h4 h5;exact⟨V,⟨C,U.next,h3⟩,by rw[Ut] at h4;exact h4,h5⟩
   have mn:Hid (Gx w5 W n own z g6 (z+1+1) (k+1) []/\(D::Ds).Nodup/\∀D'∈D::Ds,w5.heap.size<=D'/\W.heap[D']? =some (.deferred (some []))):=by
    refine⟨SH,List.nodup_cons.2 ⟨λhm=> ?_,bn.out⟩,λD' cK=> ?_⟩
    ·have :=(cA.out D hm).2.1
     omega
    ·rcases aL.1 cK with rfl|hm
     ·exact⟨by omega,JS⟩
     ·obtain⟨V,U,h3⟩:=cA.out D' hm
      exact⟨V,(kg.block D' (by omega) (by
       have h4:D'≠z/\D'≠g6/\D'≠z+1+1/\D'≠lB:=by omega
       simp only[aL,aK,bC];omega)).trans h3⟩
   clear IQ UC kg JS SH bW;go_wp2_with fail;refine⟨⟨k+1,D::Ds,_,_,_,_,_,_,_,_,_,_,_,_,HK.out,by rw[<-cf.out];rfl,mn.out⟩,?_⟩;have V:=cf.out;have U:=dv.out;have h3:=HK.out;simp[intOf];omega
  case body=>
   rintro l ae x W ⟨IQ,UC,kg⟩ aN;obtain⟨f,hf⟩:∃f,f=fO n.E k+ae.length:=⟨_,rfl⟩;have aV:f<own.length:=by
    have V:=cY.out k HK.out;have U:ae.length<dN n.E k:=aN;omega
   obtain⟨lg,lo,C1,di,Cx,dn,bw,bz,b6,cd,aS,aW⟩:=IQ.link HK.out hf aV Gy;obtain⟨b9,Qt,rfl,bf⟩:=SF.out f aV;rw[Cx] at UC;have X6:own.getD f 0<256:=wC _ (by rw[aj,aD aV];exact bF aV);have Nq:=IQ.fill;rw[<-hf] at Nq;obtain⟨xi,Nr,cQ⟩:∃xi:Int,((own.getD f 0:Nat):Int)=xi/\IntKind.u64.wrap xi=xi:=⟨_,rfl,by rw[nC (by omega) (by omega)]⟩;obtain⟨fi,bp,dU,dI,dA,dW⟩:∃fi:Int,((f:Nat):Int)=fi/\0<=fi/\fi<(own.length:Int)/\fi.toNat=f/\wrap64 (fi+1)=fi+1:=⟨_,rfl,by omega,by omega,by omega,by unfold wrap64;omega⟩;rw[Nr] at bf aS aW;rw[bp] at Nq;have ct:Hid (∀G,ay [z,g6] W G->G.cell? lB=some (.pointer (some ⟨lg,lo,none⟩))/\G.cell? (w.heap.size+1:Nat)=some (.slice (some ⟨go,Qt,none⟩) own.length co)/\G.cell? (z+1+1:Nat)=some (.int .i64 fi)/\G.cell? ⟨go,Qt+f,none⟩=some (.int .i64 xi)):=λG J=>by
    refine⟨by rw[(UC.keep J (by simp<;>omega)).cell];rfl,by rw[((cJ.out.keep IQ.keep (by simp<;>omega)).keep J (by simp<;>omega)).cell];rfl,by rw[(Nq.keep J (by simp<;>omega)).cell];rfl,?_⟩;have lh:=qU.out;have V:go<w5.heap.size:=bS b9 lh.size;have U:go<W.heap.size:=bS V IQ.keep.size;refine(aO (a:=⟨go,Qt+f,none⟩) ?_).trans bf;show G.heap[go]? =w.heap[go]?;exact((J.block go U (by simp<;>omega)).trans (IQ.keep.block go V (by simp<;>omega))).trans (lh.block go b9 (by simp))
   have cX:W.drew.cell? ⟨lg,lo,none⟩=some (.int .u64 di):=bw;have cV:W.drew.frozen? ⟨lg,lo,none⟩=false:=bz;have cr:W.drew.setCell ⟨lg,lo,none⟩ (.int .u64 xi)=(W.setCell ⟨lg,lo,none⟩ (.int .u64 xi)).drew:=rfl;obtain⟨W1,aR⟩:∃W1,W1=(W.setCell ⟨lg,lo,none⟩ (.int .u64 xi)).drew:=⟨_,rfl⟩;rw[cr,<-aR] at aS aW;have cw:ay [z,g6] W W1:=by
    rw[aR];exact((ay.refl _ _).setCell (.inl (by rcases dn with h|h<;>simp[h])) _).drew
   obtain⟨cn,cI,nK,cP,bP,cZ,IM⟩:=hh7 IQ UC kg Nq aS aW cw;obtain⟨bu,dt,cR,HF,qV,xo⟩:=hh6 aR cd b6 hf bp aN;clear IQ UC kg Nq aS aW cw aR cr cd b6 hf aN Cx bf Nr bp bw bz X6;refine wpIn_block (wpIn_seq_k λK aP=> ?_);refine uY (r:=some l) (S:=λG=>ay [z,g6] W G) (l:=[_,_,_,_,_,_]) (tl:=[_,_]) (by kernel_rfl) rfl (by kernel_rfl) (by rintro⟨a,w,h⟩;exact h) (by kernel_rfl) (by kernel_rfl) (by kernel_rfl) (λd _ _ _ _ h=>by cases d<;>exact h) (ay.refl _ _).drew ?_;repeat (refine cU.cons ?_ (YieldsIf.val rfl ?h) ?_;(case h=>(intro G hx;obtain⟨V,U,h3,h4⟩:=ct.out G hx;go_simp;rfl));simp only[Act.put,ag,ah,ai])
   refine cU.done ?_;unfold gH;go_wp2_with fail;refine⟨(ay.refl _ _).drew,?_⟩;unfold gH;go_wp2_with fail;rw[<-bu.out];refine⟨IM.out,?_⟩;unfold gH;refine aP _ _ ?_;clear aP K ct cX cV cQ bu cv bE bt
   -- the entries' words
   have bq:=IM.out;have aX:ay [z,g6,z+1+1] w5 W1:=cn.out.keep.trans' (IM.out.mono (by simp<;>omega));have bj:bh W1 (z+1) #[.slice z own.length own.length] 234 :=bv.out.keep aX (by simp<;>omega);have br:bh W1 (z+1+1) #[fi] 3 :=cP.out.keep bq (by simp<;>omega);have cp:=cI.out.keep bq (by simp<;>omega);have cE:Hid (∀G,ay [z] W1 G->G.cell? (z+1:Nat)=some (.slice z own.length own.length)/\G.cell? (z+1+1:Nat)=some (.int .i64 fi)):=λG J=>by
    exact⟨by rw[(bj.keep J (by simp<;>omega)).cell];rfl,by rw[(br.keep J (by simp<;>omega)).cell];rfl⟩
   have dP:∀G,(Instr.sliceAt 132 (.pointer (some ⟨z,f*8,none⟩)) (some (.int .i64 1)) none none).run prog G= .ok (.slice (some ⟨z,f*8+1,none⟩) 7 7) G:=λG=>by show Sem.run _ _ _=_;kernel_rfl
   have Gi:Hid (∀G,ay [] W1 G->Calls prog 207 #[chV ak (eB n.E k).length x] G (jJ G (eT (yU (eB n.E k) x)))):=λG J=>by
    refine zQ (E:=yU (eB n.E k) x) (g:=gk) ?_ (adS bZ k x);refine(((UB dx.out x).keep aX ?_).keep J (by simp));intro _;have :=cM.out;simp;omega
   obtain⟨dH,cW,dw,dh⟩:=hh4 aX bj br cp;clear bq aX bj br cp;refine wpIn_seq_k λK aP=> ?_
   refine uY (r:=some l) (S:=λG=>ay [z] W1 G) (l:=[_,_,_,_,_]) (tl:=[_,_]) (by kernel_rfl) rfl (by kernel_rfl) (by rintro⟨a,w,h⟩;exact h) (by kernel_rfl) (by kernel_rfl) (by kernel_rfl) (λd _ _ _ _ h=>by cases d<;>exact h) (ay.refl _ _).drew ?_;repeat (refine cU.cons ?_ (YieldsIf.val rfl ?h) ?_;(case h=>(intro G hx;obtain⟨V,U⟩:=cE.out G hx;go_simp;rfl));simp only[Act.put,ag,ah,ai])
   refine cU.done ?_;unfold gH;go_wp2_with fail;refine(Gi.out _ (ay.refl _ _).drew).mono ?_;rintro e W2 ⟨va,ga,rfl,JQ,xh,bV⟩;have az:ay [] W1 W2:=((ay.refl _ _).drew).trans' bV;obtain⟨aa,ca,rfl,-,-,-⟩:=fW JQ;have dz:(eT (yU (eB n.E k) x)).length<=6:=by rw[lf,nS];omega
   obtain⟨vc,av,zT,bU,bH⟩:=qu (o:=f*8+1) (n:=7) (cap:=7) (bP.out.keep az (by simp)) JQ (by omega) (by have :=cR.out;omega);have df:=ar zT;have fo:Hid (ay [z] W1 W2):=az.mono (by simp);have UD:Hid (ay [z] W1 av):=(az.mono (l':=[z]) (by simp)).trans' bH;have aQ:Hid (bh av z (aY (Gv C1 (8*f+1) (eT (yU (eB n.E k) x)))).toArray 132):=by
    rw[Nat.mul_comm 8 f];exact bU
   generalize dc:eT (yU (eB n.E k) x)=ws at *;clear az bV JQ xh zT bU bH dz Gi bP;go_wp2_with fail;refine⟨fo.out,?_⟩;unfold gH;go_wp2_with(first|((with_reducible show wpList _ _ _ (⟨some 44,_,_,_,_,_⟩::_) _ _);refine jt rfl (.tmp 41) (.tmp 43) 65 65 rfl _ _ rfl rfl (df.out _) ?_));refine⟨UD.out,?_⟩;unfold gH;refine aP _ _ ?_;clear aP K;have aZ:=dh.out.keep UD.out (by simp<;>omega);have bc:=dw.out.keep UD.out (by simp<;>omega);have cy:=cW.out.keep UD.out (by simp<;>omega);have e1:av.cell? (z+1:Nat)=some (.slice z own.length own.length):=by rw[cy.cell];rfl
   have e2:av.cell? (z+1+1:Nat)=some (.int .i64 fi):=by rw[bc.cell];rfl
   have e3:av.cell? lB=some (.pointer (some ⟨lg,lo,none⟩)):=by rw[aZ.cell];rfl
   have e4:av.frozen? lB=false:=aZ.frozen 0;have bA:=aZ.set 0 (.pointer (some ⟨z,f*8,none⟩));have ba:=bc.other (a:=⟨lB,0,none⟩) (by show z+1+1≠lB;omega) (.pointer (some ⟨z,f*8,none⟩));have e5:(av.setCell ⟨lB,0,none⟩ (.pointer (some ⟨z,f*8,none⟩))).cell? (z+1+1:Nat)=some (.int .i64 fi):=by rw[ba.cell];rfl
   have e6:(av.setCell ⟨lB,0,none⟩ (.pointer (some ⟨z,f*8,none⟩))).frozen? (z+1+1:Nat)=false:=ba.frozen 0;obtain⟨cL,cH⟩:=hh2 bA ba;clear aZ bc cy bA ba
   gi_wp2
   have aJ:ay [z,g6,z+1+1,lB] W ((av.setCell ⟨lB,0,none⟩ (.pointer (some ⟨z,f*8,none⟩))).setCell ⟨z+1+1,0,none⟩ (.int .i64 (fi+1))):=
    (((IM.out.mono (l':=[z,g6,z+1+1,lB]) (by simp<;>omega)).trans' (UD.out.mono (by simp<;>omega))).setCell (.inl (by simp)) _).setCell (.inl (by simp)) _
   have dG:wL.heap.size<=W.heap.size:=nK.out.size;have bb:(ae++[x]).length=ae.length+1:=by simp
   refine⟨KeepsFrom.of_keeps aJ (λj hj WT=> .inl ?_),⟨aJ.block (lB+1) (by omega) (by simp<;>omega),aJ.block (lB+1+1) (by omega) (by simp<;>omega)⟩,⟨?_,?_,?_,?_⟩,?_,nK.out.trans' aJ⟩
   ·simp only[aL,aK,bC] at hj
    rcases hj with rfl|rfl|rfl|rfl<;>omega
   ·refine cn.out.keep.trans aJ λy hy=> ?_
    simp only[aL,aK,bC] at hy ⊢;rcases hy with rfl|rfl|rfl|rfl
    ·exact .inl (.inl rfl)
    ·exact .inl (.inr (.inl rfl))
    ·exact .inl (.inr (.inr rfl))
    ·exact .inr (by omega)
   ·refine⟨_,dt.out x,?_⟩
    rw[dc];exact(aQ.out.other (a:=⟨lB,0,none⟩) (by show z≠lB;omega) _).other (a:=⟨z+1+1,0,none⟩) (by show z≠z+1+1;omega) _
   ·rw[bb]
    exact((cZ.out.keep UD.out (by simp<;>omega)).other (a:=⟨lB,0,none⟩) (by show g6≠lB;omega) _).other (a:=⟨z+1+1,0,none⟩) (by show g6≠z+1+1;omega) _
   ·have :=cH.out.set 0 (.int .i64 (fi+1))
    rw[bb,show((fO n.E k+(ae.length+1):Nat):Int)=fi+1 by rw[<-qV.out,HF.out];omega];exact this
   ·have :=cL.out.other (a:=⟨z+1+1,0,none⟩) (by show lB≠z+1+1;omega) (.int .i64 (fi+1))
    have e:Uz n.E z g6 k (ae++[x]).length=⟨z,f*8,none⟩:=by
     rw[bb,Uz,aA,HF.out,show 8*(fO n.E k+(ae.length+1)-1)=(fO n.E k+ae.length)*8 by omega]
    rw[e];exact this
 ·obtain rfl:k=4:=by omega
  obtain⟨af,aG,ac⟩:=HP.out;have jL:bh wr.drew (w.heap.size+2) Z8 132 :=(dm.out.keep af.keep (by simp<;>omega)).drew;have cz:bh wr g6 (aY (rE n own 4 0)).toArray 132 :=af.row;have bK:Hid (∀G,ay [w.heap.size+2] wr G->(loadVar 132 g6).run prog G= .ok (.agg (aY (rE n own 4 0)).toArray) G/\G.cell? (z+1:Nat)=some (.slice z own.length own.length)):=λG J=>by
   exact⟨fN (cz.keep J (by simp<;>omega)) (yb _ _ _ _),by rw[((bv.out.keep af.keep (by simp<;>omega)).keep J (by simp<;>omega)).cell];rfl⟩
  obtain⟨wS,hS,sf,SG⟩:=bG (P:= prog) (ty:= 132) (cs:=aY (rE n own 4 0)) (by rw[bB,yb];exact ja) jL (by rw[<-xE.out];simp[bB,yb]) (fk _);have HS:=ar hS;have Lf:Hid (ay [w.heap.size+2] wr wS):=((ay.refl _ _).drew).trans' SG;have mn:Hid (∀W',ay Ds wS W'->(loadVar 132 (w.heap.size+2:Nat)).run prog W'= .ok (.agg (aY (rE n own 4 0)).toArray) W'/\pL w (Gu n own) (ya n.E own 4) (.returned (.tuple #[(aY (rE n own 4 0)).toArray,.slice z own.length own.length])) W'):=λW' J=>by
   have hD:∀q,q<w5.heap.size->q∉Ds:=λq hq hm=>by
    have :=(ac q hm).1;omega
   refine⟨fN (bh.keep sf J (hD _ (by omega))) (yb _ _ _ _),_,z,rfl,?_,by omega,?_⟩
   ·obtain⟨C,V,U⟩:=af.rows
    exact V.breads uZ (aH _) (by unfold maxLen;omega) ((U.keep Lf.out (by simp<;>omega)).keep J (hD _ (by omega)))
   ·have V:ay [] w wr:=qU.out.trans af.keep (by intro q hq;simp at hq;omega)
    have U:ay [] w wS:=V.trans Lf.out (by intro q hq;simp at hq;omega);exact U.trans J λq hq=> .inr (by have :=(ac q hq).1;omega)
  have bn:=ar aG;have Mi:Hid (∀D∈Ds,wS.heap[D]? =some (.deferred (some []))):=λD hD=>by
   obtain⟨V,U⟩:=ac D hD;exact(Lf.out.block D (Array.getElem?_eq_some_iff.1 U).1 (by simp<;>omega)).trans U
  clear af aG ac jL cz hS sf SG HP J bo;go_wp2_with fail;refine wp_region_noPanic ?_;refine ye (S:=λG=>ay [w.heap.size+2] wr G) (l:=[_,_]) (tl:=[_,_]) (by kernel_rfl) rfl (by kernel_rfl) (by kernel_rfl) (by kernel_rfl) (λd _ _ _ _ h=>by cases d<;>exact h) (ay.refl _ _).drew ?_;refine cU.cons _ (YieldsIf.load rfl 132 (.tmp 6) rfl _ rfl λG hx=>(bK.out G hx).1) ?_;simp only[Act.put,ag,ah,ai];refine cU.cons ?_ (YieldsIf.val rfl ?h) ?_;(case h=>(intro G hx;obtain⟨-,V⟩:=bK.out G hx;go_simp;rfl));simp only[Act.put,ag,ah,ai];refine cU.done ?_;unfold gH;go_wp2_with(first|(with_reducible refine gS 132 HS.out ?_));refine⟨Lf.out,?_⟩;unfold gH;go_wp2_with fail;refine⟨Lf.out,?_⟩;unfold gH;refine NoPanic.normal ?_;go_wp2_with fail;refine mD Ds wS bn.out Mi.out λW' J=> ?_
  obtain⟨V,U⟩:=mn.out W' J;exact⟨_,eG results212 rfl V rfl,U⟩
end
section
open Go.RowKit
variable{w w5:World}{n:bT}{own z:List Nat}{T V W b cap g gB:Nat}{a:Option Addr}{E:List (ByteArray×Int)}{v:Value}{B l:List Int}{ps:List (Int×Int)}
def iR (w:List Int):bT:=⟨w.getD 0 0%256,w.getD 0 0/256%256,w.getD 0 0/65536%65536,wrap64 (w.getD 1 0),List.replicate 13 0,[]⟩
theorem UE (x:Nat)(h:x<18446744073709551616):bits .and .u64 (x:Int) 255=((x%256:Nat):Int)/\bits .and .u64 ((x:Int)/256) 255=((x/256%256:Nat):Int)/\bits .and .u64 ((x:Int)/65536) 65535=((x/65536%65536:Nat):Int):=by
 have z:=Nat.div_le_self x 256;have G:=Nat.div_le_self x 65536;refine⟨?_,?_,?_⟩
 ·rw[show(255:Int)=((255:Nat):Int) from rfl,ir x 255 h (by omega),show x &&& 255=x%2^8 from dW x 8]
 ·rw[show(x:Int)/256=((x/256:Nat):Int) by omega,show(255:Int)=((255:Nat):Int) from rfl,ir (x/256) 255 (by omega) (by omega),show x/256 &&& 255=x/256%2^8 from dW _ 8]
 ·rw[show(x:Int)/65536=((x/65536:Nat):Int) by omega,show(65535:Int)=((65535:Nat):Int) from rfl,ir (x/65536) 65535 (by omega) (by omega),show x/65536 &&& 65535=x/65536%2^16 from dW _ 16]
theorem CR (l:List Int)(hl:l.length=8)(h0:0<=l.getD 0 0/\l.getD 0 0<18446744073709551616)(h1:0<=l.getD 1 0/\l.getD 1 0<18446744073709551616)(w:World):
  Calls prog 61 #[(aY l).toArray] w λe w'=>e=aM (iR l) (.slice none 0 0)/\ay [] w w':=by
 have h:=(bh.new w (aY l).toArray 132).alloc (.cells (aM ck (.slice none 0 0)) 75);have J:bh ((w.alloc (.cells (aY l).toArray 132)).alloc (.cells (aM ck (.slice none 0 0)) 75)) (w.heap.size+1) (aM ck (.slice none 0 0)) 75 :=by
  have :=bh.new (w.alloc (.cells (aY l).toArray 132)) (aM ck (.slice none 0 0)) 75;have e:(w.alloc (.cells (aY l).toArray 132)).heap.size=w.heap.size+1:=by simp
  rw[e] at this;exact this
 have c0:((w.alloc (.cells (aY l).toArray 132)).alloc (.cells (aM ck (.slice none 0 0)) 75)).cell? w.heap.size=some (.int .u64 (l.getD 0 0)):=by
  rw[h.cell,aF,dF (by omega)]
 have c1:((w.alloc (.cells (aY l).toArray 132)).alloc (.cells (aM ck (.slice none 0 0)) 75)).cell? ⟨w.heap.size,1,none⟩=some (.int .u64 (l.getD 1 0)):=by
  rw[h.cell,aF,dF (by omega)]
 obtain⟨w2,hS,U,G⟩:=bG (P:= prog) (ty:= 75) (cs:=mZ (iR l) (.slice none 0 0)) (by rw[gM];exact iX) J rfl (kY rfl);have V:=cg (n:=iR l) (v:= .slice none 0 0) U rfl;have HK:Hid (ay [] w w2):=(((ay.refl [] w).alloc _).alloc _).trans G (by simp);obtain⟨W,rN⟩:=hh2 hS V;have aa:=dA;clear h J hS V U G;have HT:Hid ((mZ (iR l) (.slice none 0 0)).toArray=aM (iR l) (.slice none 0 0)):=rfl;rw[HT.out] at W;obtain⟨x,hx⟩:∃x:Nat,l.getD 0 0=(x:Int):=⟨(l.getD 0 0).toNat,by omega⟩;obtain⟨y,hy⟩:∃y:Nat,l.getD 1 0=(y:Int):=⟨(l.getD 1 0).toNat,by omega⟩;have hI:aM (iR l) (.slice none 0 0)= #[.int .i64 ((x%256:Nat):Int),.int .i64 ((x/256%256:Nat):Int),.int .i64 ((x/65536%65536:Nat):Int),.int .i64 (wrap64 (y:Int)),.int .i64 0,.int .i64 0,.int .i64 0,.int .i64 0,.int .i64 0,.int .i64 0,.int .i64 0,.int .i64 0,.int .i64 0,.int .i64 0,.int .i64 0,.int .i64 0,.int .i64 0,.slice none 0 0]:=by
  unfold iR;rw[hx,hy];rfl
 have z:aM ck (.slice none 0 0)= #[.int .i64 0,.int .i64 0,.int .i64 0,.int .i64 0,.int .i64 0,.int .i64 0,.int .i64 0,.int .i64 0,.int .i64 0,.int .i64 0,.int .i64 0,.int .i64 0,.int .i64 0,.int .i64 0,.int .i64 0,.int .i64 0,.int .i64 0,.slice none 0 0]:=rfl;rw[hI] at W rN HT;rw[hI];rw[z] at W c0 c1;rw[z] at aa;clear HT z;generalize (aY l).toArray=Z at *;rw[hx] at c0 h0;rw[hy] at c1 h1;obtain⟨p1,p2,p3⟩:=UE x (by omega);clear hx hy;have q1:x%256<256:=iw _ (by decide);have q2:x/256%256<256:=iw _ (by decide);have q3:x/65536%65536<65536:=iw _ (by decide);have ac:Hid (0<=y):=fD y;generalize x%256=a,x/256%256=b,x/65536%65536=c at *;go_in;go_wp2_with(first|(with_reducible refine gS 75 W.out ?_));exact aI (bA results61 rfl rN.out) rfl ⟨rfl,HK.out⟩
theorem SI (G:bh w g (aM n v) T)(z:n.B.length=13)(h:l.length=13):
  ∃w',(storeVar 73 ⟨g,4,none⟩ (.agg (zs l).toArray)).run prog w= .ok () w'/\bh w' g (aM { n with B:=l } v) T/\ay [g] w w':=by
 refine⟨_,jK g 4 (zs l) _ (by rw[eO,h];exact mf) G (by rw[aM,bN,gM,eO,z,h];omega) (nB l),?_,(ay.refl _ _).setRow (by simp) _⟩;have e:((aM n v).toList.take 4++zs l++(aM n v).toList.drop (4+(zs l).length)).toArray=aM { n with B:=l } v:=by
  have J:(aM n v).toList.drop (4+(zs l).length)=[v]:=by
   have :(aM n v).toList=[.int .i64 n.F,.int .i64 n.K,.int .i64 n.L,.int .i64 n.S]++(zs n.B++[v]):=rfl;rw[this,<-List.drop_drop,List.drop_left' (by rfl),List.drop_left' (by rw[eO,eO,z,h])]
  rw[J];rfl
 rw[e];exact kr G
theorem Lh{u:Value}(z:bh w g (aM n v) T)(h:n.B.length=13):bh (w.setCell ⟨g,17,none⟩ u) g (aM { n with E:=E } u) T:=by
 have :=z.set 17 u;have e:(aM n v).setIfInBounds 17 u=aM { n with E:=E } u:=by
  have G:aM n v=(([.int .i64 n.F,.int .i64 n.K,.int .i64 n.L,.int .i64 n.S]:List Value)++(zs n.B++[v])).toArray:=rfl;rw[G,ag,dI _ _ (by simp),dI _ _ (by rw[eO,h];simp),eO,h];rfl
 rw[e] at this;exact this
theorem adX (h:∀k,0<=l.getD k 0):dL (l.map Int.toNat)=zs l:=by
 apply cV (by simp[dL,zs]);intro j J G;have z:j<l.length:=by simpa[zs] using G
 have :=h j;rw[aj,aD z,fc] at this;simp[dL,zs];omega
theorem yf{J:Nat}(h:eK w b J B ps)(z:In64 (az B ps))(n:Nat)(U:(aZ (az B ps)).length<n):
  Calls prog 157 #[b,(n:Int)] w λe w'=>e= .returned (.tuple #[(),(7:Int)])/\w=w':=by
 have G:=ar (JA h z);generalize (aZ (az B ps)).length=f at *;have V:¬(n:Int)<0:=by omega
 have W:(f:Int)<(n:Int):=by omega
 clear h z;go_in;go_wp2_with fail;refine C' G.out ?_;go_wp2_with fail;go_ret2;exact⟨rfl,rfl⟩
def Bx (w:World) (b z:Nat) (B:List Int) (ps:List (Int×Int)) (l:List Nat) (e:Ending) (w':World):Prop:=
 ∃v g,e= .returned (.tuple #[v,(0:Int)])/\Reads w' v g (dL l)/\w.heap.size<=g/\g<w'.heap.size/\(∃h,(h=z\/(w.heap.size<=h/\h<w'.heap.size))/\h≠g/\eK w' b h B (ps++dm (az B ps) l)/\ay [b,z] w w')
theorem CS (X:List Int)(l:List Nat)(k:Nat)(h:k<l.length):dm X (l.take (k+1))=dm X (l.take k)++(eI (az X (dm X (l.take k))) (l.getD k 0) true++gW (l.getD k 0)):=by
 rw[bP h,ML];simp[h]
theorem CU{gp:Nat}(h:eK w b gp B ps)(U:In64 (az B ps))(hT:kN w)(DV:gp<w.heap.size)(ac:ps.length<=900000)(n:Nat)(hn:n<=(aZ (az B ps)).length):
  Calls prog 157 #[b,(n:Int)] w (Bx w b gp B ps ((aZ (az B ps)).take n)):=by
 have HF:=ar (JA h U);have aM:=Cz (az B ps);have Qy:=ar (FR h U hT n (by omega));have Fb:Hid (∀c∈(aZ (az B ps)).take n,c≠0/\c<256):=λc J=>by
  have :=ku.1 (bO J);exact⟨this.2.1,this.1⟩
 have z:Hid (((aZ (az B ps)).take n).length=n):=by show _=_;rw[aJ,cT hn]
 obtain⟨HS,uQ⟩:=hh2 h U;have au:Hid ((az B ps).length=3128):=h.raw.lx;have aO:=h.raw.lt;have zN:=ar ac;generalize (aZ (az B ps)).take n=l,(aZ (az B ps)).length=f at *;clear h U hT ac;have h0:¬(n:Int)<0:=by omega
 have h1:¬(f:Int)<(n:Int):=by omega
 go_in;go_wp2_with fail;refine C' HF.out ?_;go_wp2_with fail;refine Qy.out.mono ?_;rintro e w1 ⟨v,g,rfl,hr,ai,aN,W⟩;clear HF Qy h1 h0;have ah:=hr;obtain⟨a,cap,rfl,q1,q2,-⟩:=ah;rw[fp,z.out] at hr ⊢;rw[fp,z.out] at q1;obtain⟨HR,jH⟩:=hh2 hr W;have hz:=W.size;clear hr W;unfold maxLen at q2;go_wp2_with fail;go_loopg [20] n (λgh s20 wx=>∃k:Nat,k+gh=n/\s20= .int .i64 (k:Int)/\Hid (Onto w1 b gp B (ps++dm (az B ps) (l.take k)) wx))
 case atStart=>exact⟨0,by omega,rfl,by show Onto _ _ _ _ _ _;rw[eP,show dm (az B ps) []=[] from rfl,br];exact Onto.refl (HS.out.keep jH.out (by simp) (by simp))⟩
 case round=>
  obtain⟨k,hk,rfl,HQ⟩:=hrel;have Gy:∀x,x∈[b,gp]->g≠x:=by
   intro x hx;simp only[aL,aK,bC] at hx;omega
  obtain⟨kX,p1,p2,p3⟩:=HQ.out;have V:=ar (HR.out.keep p3 (λhm=>Gy g hm rfl));have aP:=p3.size;cases gk with
  |zero=>
   obtain rfl:k=n:=by omega
   have HM:Hid (Bx w b gp B ps l (.returned (.tuple #[.slice a k cap,(0:Int)])) wr):=by
    rw[aW (by rw[z.out];omega)] at p2;exact⟨_,g,rfl,V.out,ai,by omega,kX,by omega,by omega,p2,(jH.out.mono (by simp)).trans p3 λx hx=> .inl hx⟩
   have aB:¬(k:Int)<(k:Int):=by omega
   clear p1 p2 p3 Gy hk;go_wp2_with fail;go_ret2;exact HM.out
  |succ gg=>
   have aF:k<n:=by omega
   have aB:(k:Int)<(n:Int):=by omega
   have cM:(0:Int)<=(k:Int):=by omega
   have G:k<l.length:=by rw[z.out];exact aF
   have J:=Fb.out (l.getD k 0) (by rw[aj,aD G];exact bF _);have af:=nP (l.take k) (az B ps) uQ.out au.out λc J=>Fb.out c (bO J)
   have aa:=qj (l.take k) (az B ps) λc J=>Fb.out c (bO J)
   have ak:(l.take k).length<=255:=by rw[aJ];omega
   have av:=ar (CS (az B ps) l k G);obtain⟨a',aH,ax,r1,r2,r3⟩:=V.out;cases ax;obtain⟨aI,off,rfl,r4⟩:=r3 (by intro e;have :=cP List.length e;rw[fp,cD] at this;omega);have aA:=(r4 k (by rw[fp];exact G)).trans (nA G);generalize l.getD k 0=c at *;have X7:Hid (Calls prog 145 #[b,(c:Int),true] wr (jQ wr b kX B ((ps++dm (az B ps) (l.take k))++eI (az (az B ps) (dm (az B ps) (l.take k))) c true))):=by
    have :=MN p2 (by rw[bz];exact af.1) (by rw[aC,aa];have :=zN.out;omega) (c:Int) true;rw[bz,aG] at this;exact this
   have ae:∀(w':World) (gI:Nat),eK w' b gI B ((ps++dm (az B ps) (l.take k))++eI (az (az B ps) (dm (az B ps) (l.take k))) c true)->Hid (Calls prog 191 #[b,(c:Int)] w' (jQ w' b gI B (ps++dm (az B ps) (l.take (k+1))))):=by
    intro w' gI ay;have :=P7 ay (by rw[aC,aC,aa,Jw _ c J.1 J.2];have :=zN.out;omega) c J.2;rw[av.out];show Calls _ _ _ _ _;simpa only[aV] using this
   obtain⟨P1,P3,ag⟩:=hh3 p1 p3 ae;clear p1 p2 p3 Gy J af aa ak r1 r2 r3 r4 G V HQ ae;go_wp2_with fail;refine Rr X7.out ?_;rintro w2 ⟨lS,s1,s2,s3⟩;have HE:=(ag.out w2 lS s2);obtain⟨S1,S3⟩:=hh2 s1 s3;clear s1 s2 s3 ag X7;go_wp2_with fail;refine Rr HE.out λw3 t1=> ?_;have HO:Hid (Onto w1 b gp B (ps++dm (az B ps) (l.take (k+1))) w3):=Onto.trans P1.out P3.out (Onto.trans S1.out S3.out t1);clear t1;go_wp2_with fail;go_roundg gg;case measure=>omega
   case rel=>exact⟨k+1,by omega,by go_num,HO⟩
def gF (i:Int):Int:=if i<0\/32<=i then -1 else 824+i*8
theorem kz (i:Int)(w:World):Calls prog 63 #[i] w λe w'=>e=(gF i:Int)/\w=w':=by
 rcases (show i<0\/32<=i\/(0<=i/\i<32) by omega) with h|h|⟨z,J⟩
 ·rw[gF,aB (.inl h)]
  go_in;go_wp2;go_ret;exact⟨rfl,rfl⟩
 ·rw[gF,aB (.inr h)]
  have G:¬i<0:=by omega
  go_in;go_wp2;go_ret;exact⟨rfl,rfl⟩
 ·rw[gF,aA]
  go_in;go_wp2;go_ret;exact⟨rfl,rfl⟩
def dY (n:bT) (own:List Nat):List Int:=(own.take (bp n.E.length)).map (λx:Nat=>(x:Int))++n.B.drop (bp n.E.length)
def fq (n:bT) (own:List Nat):Nat:=if bp n.E.length<own.length then own.getD (bp n.E.length) 0 else 0
def sY (E:List (ByteArray×Int)) (l:List Int) (k:Nat):List (Int×Int):=(List.range k).flatMap λj=>jP (1080+8*(l.getD j 0).toNat) (jk E j) 8
def qx (n:bT) (own:List Nat):List (Int×Int):=if bp n.E.length<own.length then jP (1080+8*fq n own) ((dY n own).drop 5) 8 else []
def wD (i:Nat) (n:bT) (own:List Nat):List (Int×Int):=
 sY n.E (dY n own) (bp n.E.length)++(qx n own++jP (824+8*i) (iq n (dY n own) (fq n own)) 8)
def pN (X:List Int) (i:Nat) (n:bT) (own:List Nat):List (Int×Int):=dm X own++wD i n own
theorem Ar (E:List (ByteArray×Int))(l:List Int)(k:Nat):sY E l (k+1)=sY E l k++jP (1080+8*(l.getD k 0).toNat) (jk E k) 8:=by
 unfold sY;rw[dV,List.flatMap_append];simp
theorem yX (E:List (ByteArray×Int))(l:List Int)(k:Nat):(sY E l k).length=8*k:=by
 induction k with
 |zero=>rfl
 |succ k ih=>rw[Ar,aC,ih,oX];omega
theorem SJ (l:List Nat):zs (l.map λx:Nat=>(x:Int))=dL l:=by simp[zs,dL,Function.comp_def]
theorem jM (h:ct n):n.E.length<=24/\bp n.E.length<=6/\(n.E.length≠0->n.K=2/\pk n):=by
 have :n.E.length<=24/\(n.E.length≠0->n.K=2/\pk n):=by
  rcases h.2.2 with h|h
  ·have :=h.2.2.1
   exact⟨by omega,λh=>absurd this h⟩
  ·exact⟨h.2.1,λ_=>h⟩
 refine⟨this.1,?_,this.2⟩;unfold bp;omega
theorem uh (h:ct n):zP n:=by
 obtain⟨hF,G,z⟩:=h;refine⟨by omega,?_,by omega,?_⟩
 ·rcases z with z|z
  ·have :=z.1;omega
  ·have :=z.1;omega
 ·rcases z with z|z
  ·have :=z.2.1;omega
  ·have :=z.2.2.1;have :=z.2.1;omega
theorem Ns (h:ct n)(G:∀k,k<n.E.length->(eX n.E k).size<=9223372036854775807):xZ n.E:=by
 have z:=jM h;refine⟨by omega,G,λk J=> ?_⟩;have :=((z.2.2 (by omega)).2.2.2.2 k J).2.1;omega
theorem vg (h:ct n)(G:n.B.length=13):∀k,0<=n.B.getD k 0/\n.B.getD k 0<256:=by
 intro k;by_cases z:k<13
 ·rcases h.2.2 with h|h
  ·exact(h.2.2.2.2 k z).1
  ·rw[h.2.2.2.1,aj,bj]
   split<;>simp
 ·rw[aj,aP (by omega)]
  simp
theorem vh (h:n.B.length=13)(z:bp n.E.length<=13)(G:bp n.E.length<=own.length):(dY n own).length=13:=by
 simp[dY,h];omega
theorem vk (z:bp n.E.length<=own.length)(k:Nat):(dY n own).getD k 0=if k<bp n.E.length then ((own.getD k 0:Nat):Int) else n.B.getD k 0:=by
 unfold dY;simp only[aj,iy,bY,aJ,cT z,bJ,bU,b9];by_cases h:k<bp n.E.length
 ·rw[aB h,aB h,aB h,aD (by omega)]
  rfl
 ·rw[aA h,aA h,show bp n.E.length+(k-bp n.E.length)=k by omega]
theorem CV (h:ct n)(G:n.B.length=13)(z:bp n.E.length<=own.length)(J:∀c∈own,c≠0/\c<256):∀k,0<=(dY n own).getD k 0/\(dY n own).getD k 0<256:=by
 intro k;rw[vk z];split
 ·rename_i hk
  have :=J (own.getD k 0) (by rw[aj,aD (by omega)];exact bF _);omega
 ·exact vg h G k
theorem UF{n m mc oc:Nat}{h:List Int}(U:bh w b (zs h).toArray T)(hs:Reads w (.slice a own.length oc) W (dL own))(hm:m<=n)(V:m<=h.length)(aa:m<=own.length):
  ∃v w',(∀ty,(Builtin.copy_ #[76,76] ty #[.slice b n cap,.slice a m mc]).run prog w= .ok v w')/\bh w' b (zs ((own.take m).map (λx:Nat=>(x:Int))++h.drop m)).toArray T/\ay [b] w w':=by
 by_cases h0:m=0
 ·subst h0
  refine⟨_,w,λty=>run_copy_none (P:= prog) w 76 76 ty 3 (some ⟨b,0,none⟩) a n cap 0 mc underlying76 oU (by simp),?_,ay.refl _ _⟩;simpa using U
 ·obtain⟨a',G,hv,r1,r2,r3⟩:=hs
  obtain⟨rfl,rfl⟩:a=a'/\oc=G:=by injection hv with h1 h2 h3;exact⟨h1,h3⟩
  obtain⟨hg,off,rfl,r4⟩:=r3 (by intro e;have :=cP List.length e;rw[fp,cD] at this;omega);have J:(dL (own.take m)).length=min m n:=by rw[fp,aJ];omega
  refine⟨_,_,λty=>run_copy_row (P:= prog) w 76 76 ty 3 b 0 n cap ⟨W,off,none⟩ m mc (zs h).toArray T (dL (own.take m)) underlying76 oU U J ?_ ?_ ?_,?_,(ay.refl _ _).setRow (by simp) _⟩
  ·intro j u z
   have hj:j<m:=by
    have :=(List.getElem?_eq_some_iff.1 z).1;rw[J] at this;omega
   rw[nA (by rw[aJ];omega)] at z;rw[add_plain,r4 j (by rw[fp];omega),nA (by omega),<-z];simp[hj]
  ·rw[J,bN,eO];omega
  ·intro u z
   rw[<-SJ] at z;exact nB _ u z
  ·have e:((zs h).toArray.toList.take 0++dL (own.take m)++(zs h).toArray.toList.drop (0+(dL (own.take m)).length)).toArray=(zs ((own.take m).map (λx:Nat=>(x:Int))++h.drop m)).toArray:=by
    rw[J,cT hm,yQ,SJ];simp[zs,List.map_drop]
   rw[e];exact kr U
theorem Qz (a:Option Addr)(n cap c:Nat)(J:c<=cap)(w:World):
  (Instr.sliceAt 76 (.slice a n cap) none (some (.int .i64 (c:Int))) none).run prog w= .ok (.slice a c cap) w:=by
 have h: prog.underlying 76 =some (.slice (prog.elem 76)):=by kernel_rfl
 have z: prog.elem 76 = 3 :=by kernel_rfl
 have G:(sizeOf 3).run prog w= .ok 1 w:=by kernel_rfl
 rw[run_sliceAt_slice _ _ _ _ _ _ h,run_slice_h _ _ _ _ _ h .i64 (c:Int) (by omega) (by omega),z,G];cases a with
 |none=>simp[sliced]
 |some x=>cases x;simp[sliced,Addr.add]
theorem UG (b:Nat)(w:World):(Instr.sliceAt 73 (.pointer (some ⟨b,0,none⟩)) none none none).run prog w= .ok (.slice b 13 13) w:=by show Sem.run _ _ _=_;kernel_rfl
theorem adY (z:bh w g (aM n v) T)(h:n.B.length=13):(loadVar 73 ⟨g,4,none⟩).run prog w= .ok (.agg (zs n.B).toArray) w:=
 fA z h λ_ G=>CE v (by omega)
def oa (n:bT) (own:List Nat):List Int:=if n.K=2 then Gu n own else np n own
def gX (n:bT) (own:List Nat):List (List Int):=if n.K=2 then ya n.E own 4 else kx n
theorem Au (n:bT):∀k,pG n k=(if 6<(fw n.B).length then 1 else 0)+fO n.E k
 |0=>by rw[pG,fO];rfl
 |k+1=>by rw[pG,fO,Au n k,dN];omega
theorem UH:fw (List.replicate 13 0)=[]:=by kernel_rfl
theorem vr (h:pk n):eW n=fO n.E 4:=by
 rw[eW,Au,h.2.2.1,UH];simp
theorem su (h:qT n):eW n=if 6<(fw n.B).length then 1 else 0:=by
 have z:n.E=[]:=bo h.2.1;rw[eW,Au,z];rfl
theorem Nt (n:bT)(own:List Nat):(np n own).length=8:=by
 have h:=mC n.B 13;have z:(fw n.B).length<=13:=h;unfold np;split
 ·simp;omega
 ·simp;omega
theorem Bz (n:bT)(own:List Nat):(oa n own).length=8:=by
 unfold oa;split
 ·rfl
 ·exact Nt n own
theorem UI (J:ct n):xZ n.E:=by
 rcases J.2.2 with ⟨-,G⟩|⟨-,z⟩
 ·have :=G.2.1
  exact⟨by omega,λk h=>by omega,λk h=>by omega⟩
 ·have U:=z.1
  refine⟨by omega,λk h=> ?_,λk h=> ?_⟩
  ·have :=(oN (z.2.2.2 k h).1).2
   rw[mB] at this;omega
  ·have :=(z.2.2.2 k h).2.1
   omega
theorem SK (n:bT)(v:Value)(g:Nat)(hB:n.B.length=13)(hR:ct n)(hE:bD w v g n.E)(vo:Value)(go:Nat)(own:List Nat)(hO:Reads w vo go (dL own))(ho:own.length=eW n)(wC:∀c∈own,c<256):
  Calls prog 188 #[aM n v,vo] w (pL w (oa n own) (gX n own)):=by
 have ht:=uh hR;obtain⟨V,z⟩:∃V,V=(w.alloc (.cells (aM n v) 75)).alloc (.cells (aY (List.replicate 8 0)).toArray 132):=⟨_,rfl⟩;have W:bh V w.heap.size (aM n v) 75 :=by
  rw[z];exact(bh.new w _ _).alloc _
 have jL:bh V (w.heap.size+1) (aY (List.replicate 8 0)).toArray 132 :=by
  have :=bh.new (w.alloc (.cells (aM n v) 75)) (aY (List.replicate 8 0)).toArray 132;have e:(w.alloc (.cells (aM n v) 75)).heap.size=w.heap.size+1:=by simp
  rw[e,<-z] at this;exact this
 have cM:ay [] w V:=by
  rw[z];exact((ay.refl [] w).alloc _).alloc _
 have uT:=ar (cg W hB);have cK:V.cell? ⟨w.heap.size,1,none⟩=some (.int .i64 n.K):=by rw[W.cell];exact(gG v hB).f1
 have ag:=lq;obtain⟨ry,fJ,EN⟩:=hh3 z cM jL;have aa:=Bz n own;have mn:Hid (∀w1 vb gb,ay [] V w1->pK w1 vb gb (gX n own)->w.heap.size<=gb->gb≠w.heap.size+1->∃w2,(storeVar 132 (w.heap.size+1:Nat) (.agg (aY (oa n own)).toArray)).run prog w1= .ok () w2/\(loadVar 132 (w.heap.size+1:Nat)).run prog w2= .ok (.agg (aY (oa n own)).toArray) w2/\pL w (oa n own) (gX n own) (.returned (.tuple #[(aY (oa n own)).toArray,vb])) w2):=λw1 vb gb hk hb hg af=>by
  obtain⟨w2,hS,ae,ac⟩:=bG (P:= prog) (ty:= 132) (cs:=aY (oa n own)) (by rw[bB,aa];exact ja) (jL.keep hk (by simp)) (by simp[bB,aa]) (fk _);exact⟨w2,hS,fN ae aa,vb,gb,rfl,hb.keep ac (by intro _;simp;exact af),hg,(cM.trans' hk).trans ac (by intro x hx;rw[au] at hx;omega)⟩
 have ah:w.heap.size+1<V.heap.size:=jL.lt;by_cases hK:n.K=2
 ·have hd:pk n:=(hR.2.2.resolve_left (λh=>by have :=h.1;omega)).2
  have G:oa n own=Gu n own:=aB hK;have J:gX n own=ya n.E own 4:=aB hK;have HD:=ar (Qw n v g hB ht (hE.keep cM (by simp)) (UI hR) (by have :=hd.1;omega) vo go own (hO.keep cM (by simp)) (by rw[ho,vr hd]) wC);rw[<-G,<-J] at HD;rw[hK] at cK;rw[z] at cK;clear W jL cM z hE hO ho hR ht hd G J hK;generalize oa n own=RW,gX n own=BW,aM n v=Z,vZ:(aY (List.replicate 8 0)).toArray=Z8 at *;go_in;go_wp2_with((with_reducible show wpList _ _ _ (⟨_,.load 75 (.tmp 2),_,_,_,_⟩::_) _ _);rw[<-ry.out];refine gJ rfl 75 (.tmp 2) rfl _ rfl _ uT.out ?_);refine HD.out.mono ?_;rintro e w1 ⟨vb,gb,rfl,hb,hg,U⟩;obtain⟨w2,hS,hL,hM⟩:=mn.out w1 vb gb U hb (by have :=fJ.out.size;omega) (by omega);obtain⟨HS,HL,HM⟩:=hh3 hS hL hM;clear hS hL hM hb hg U;go_wp2_with(with_reducible refine gS 132 HS.out ?_);exact aI (eG results188 rfl HL.out rfl) rfl HM.out
 ·have hf:qT n:=(hR.2.2.resolve_right (λh=>hK h.1)).2
  have G:oa n own=np n own:=aA hK;have J:gX n own=kx n:=aA hK;have HD:Hid (Calls prog 213 #[aM n v,vo] V (pL V (np n own) (kx n))):=by
   have hn:=su hf;by_cases h6:(fw n.B).length<=6
   ·exact Gs n v hB ht vo own h6
   ·rw[aB] at hn
    refine Ld n v hB ht vo go own (hO.keep cM (by simp)) ?_ (by omega) (by omega);exact wC _ (by rw[aj,aD (by omega:0<own.length)];exact bF _)
  rw[<-G,<-J] at HD;rw[z] at cK;have ai:(n.K==2)=false:=by simpa using hK
  clear W jL cM z hE hO ho hR ht hf G J;generalize oa n own=RW,gX n own=BW,n.K=K,aM n v=Z,vZ:(aY (List.replicate 8 0)).toArray=Z8 at *;go_in;go_wp2_with((with_reducible show wpList _ _ _ (⟨_,.load 75 (.tmp 2),_,_,_,_⟩::_) _ _);rw[<-ry.out];refine gJ rfl 75 (.tmp 2) rfl _ rfl _ uT.out ?_);refine HD.out.mono ?_;rintro e w1 ⟨vb,gb,rfl,hb,hg,U⟩;obtain⟨w2,hS,hL,hM⟩:=mn.out w1 vb gb U hb (by have :=fJ.out.size;omega) (by omega);obtain⟨HS,HL,HM⟩:=hh3 hS hL hM;clear hS hL hM hb hg U;go_wp2_with(with_reducible refine gS 132 HS.out ?_);exact aI (eG results188 rfl HL.out rfl) rfl HM.out
end
end Go.Proofs.YtimcfdnbpkiniaaGreatDoor
