/- Lemmas. -/
import Derived.Test.YtepbpdipenedhaaGreatDoorM07
import Derived.Deep.RegionHeld3
set_option maxHeartbeats 8000000
set_option maxRecDepth 100000
namespace Go.Proofs.YtepbpdipenedhaaGreatDoor
open Go.Proofs.Tryz
section
open Go.RowKit
variable{W w w5:World}{n:bT}{own z:List Nat}{T U V b cap g wB:Nat}{a:Option Addr}{E:List (ByteArray×Int)}{v:Value}{B l:List Int}{ps:List (Int×Int)}
section
variable {P:Program} {ops:Array Oper} {Q:Exit->Act->World->Prop} {md:Region.Mode} {S:World->Prop}
def abi (S:World->Prop) (K:Act->World->Prop) (Q:Exit->Act->World->Prop):Exit->Act->World->Prop
 | .normal,a,w=>S w/\K a w
 |e,a,w=>Q e a w
def gH (P:Program) (ops:Array Oper) (Q:Exit->Act->World->Prop) (S:World->Prop):List Oper->Act->World->Prop
 | [],a,w=>Q .normal a w
 |o::rest,a,w=>wpList P ops (abi S (gH P ops Q S rest) Q) [o] a w
def cT (P:Program) (ops:Array Oper) (S:World->Prop) (E:Act->Prop):List Oper->Act->Prop
 | [],a=>E a
 |o::rest,a=>∃v,YieldsIf P ops S o v a/\cT P ops S E rest (a.put o.dst v)
theorem Bn {i:Nat}{o:Oper}{K:Act->World->Prop}{a:Act}{w:World}(U:ops[i]? =some o)(h:wpList P ops (abi S K Q) [o] a w):wpOp P ops Q i (λa w=>S w/\K a w) a w:=by
 unfold Go.wpOp;simp only[U];unfold wpList at h;split
 ·rename_i hw
  rw[aB hw] at h;rcases h with h|⟨V,J⟩
  ·refine .inl ?_
   unfold Oper.wp at *;generalize (execOp a.eval o).run P w=r at *;cases r with
   |ok n w'=>
    cases n<;>simp only[Oper.upon] at h ⊢
    case value u=>exact h
    case skip=>exact h
    case defer d=>exact h
    case enter f args=>
     refine Calls.mono h λe G z=> ?_
     cases e with
     |returned u=>exact z
     |panicked c=>exact z
     |outgrown=>exact z
    case row row args=>exact Rows.mono h λu G z=>z
   |halt x w'=>
    cases x<;>simp only[Oper.upon] at h ⊢
    case panic u=>exact h
  ·exact .inr ⟨V,J⟩
 ·rename_i hw
  rw[aA hw] at h;exact h
def DY (md:Region.Mode) (ops:Array Oper) (h:Array Bool):List Nat->Bool
 | []=>true
 |i::is=>Region.free md ops h i&&(Region.ready md ops h).contains i&&DY md ops (h.setIfInBounds i true) is
def zU (md:Region.Mode) (ops:Array Oper) (h:Array Bool):List Nat->Bool
 | []=>Region.ready md ops h == []
 |i::is=>(Region.ready md ops h == [i])&&zU md ops (h.setIfInBounds i true) is
theorem DZ:∀(G:List Nat) (tl:List Oper) (z:Array Bool) (a:Act) (w:World),zU md ops z G=true->tl=G.filterMap (λi=>ops[i]?)->tl.length=G.length->gH P ops Q S tl a w->
  wpAnyH P md ops Q S G.length z a w
 | [],tl,z,a,w,hb,hl,_,h=>by
  have :tl=[]:=by rw[hl];rfl
  subst this;exact wpAnyH_done (by simpa[zU] using hb) h 0
 |i::is,tl,z,a,w,hb,hl,hlen,h=>by
  unfold zU at hb;simp only[gj] at hb;have W:Region.ready md ops z=[i]:=by simpa using hb.1
  cases ho:ops[i]? with
  |none=>
   exfalso
   rw[hl,gT,ho] at hlen;have :=List.length_filterMap_le (λi=>ops[i]?) is;simp only[cr] at hlen;omega
  |some o=>
   rw[gT,ho] at hl;subst hl;refine wpAnyH_all W (by simp) λj J=> ?_
   rw[au] at J;subst J;exact wpOp_mono (λV w' U=>⟨U.1,DZ is _ _ V w' hb.2 rfl (by simpa using hlen) U.2⟩) (Bn ho h)
theorem Bo (U:Region.noSelect ops=true)(V:∀d v c a w,Q (.panic c) (Act.put a d v) w->Q (.panic c) a w)(G:List Nat)(tl:List Oper)(w:World)(hS:S w)(J:tl=G.filterMap (λi=>ops[i]?))(W:tl.length=G.length):
  ∀(path:List Nat) (l:List Oper) (z:Array Bool) (a:Act),DY md ops z path=true->zU md ops (sY z path) G=true->l=path.filterMap (λi=>ops[i]?)->l.length=path.length->
   cT P ops S (λa=>gH P ops Q S tl a w) l a->wpAnyH P md ops Q S (G.length+path.length) z a w
 | [],l,z,a,_,hb,hl,_,h=>by
  have :l=[]:=by rw[hl];rfl
  subst this;exact DZ G tl z a w hb J W h
 |i::is,l,z,a,ht,hb,hl,hlen,h=>by
  unfold DY at ht;simp only[gj] at ht;cases ho:ops[i]? with
  |none=>
   exfalso
   rw[hl,gT,ho] at hlen;have :=List.length_filterMap_le (λi=>ops[i]?) is;simp only[cr] at hlen;omega
  |some o=>
   rw[gT,ho] at hl;subst hl;obtain⟨v,hv,hr⟩:=h;rw[cr,<-Nat.add_assoc];exact wpAnyH_take ho U ht.1.1 ht.1.2 (V o.dst v) hv hS (Bo U V G tl w hS J W is _ _ _ ht.2 hb rfl (by simpa using hlen) hr)
theorem D3 {a:Act}{w:World}(path z:List Nat){l tl:List Oper}(V:Region.noSelect ops=true)(ht:DY .any ops (Array.replicate ops.size false) path=true)(hb:zU .any ops (sY (Array.replicate ops.size false) path) z=true)
  (W:l=path.filterMap (λi=>ops[i]?)) (U:l.length=path.length) (J:tl=z.filterMap (λi=>ops[i]?)) (Ux:tl.length=z.length) (G:z.length+path.length=ops.size)
  (hQ:∀d v c a w,Q (.panic c) (Act.put a d v) w->Q (.panic c) a w) (hS:S w) (h:cT P ops S (λa=>gH P ops Q S tl a w) l a):wpAny P .any ops Q ops.size (Array.replicate ops.size false) a w:=by
 rw[<-G];refine wpAny_of_held _ _ _ _ (Bo V hQ z tl w hS J Ux path l _ a ?_ ?_ W U h)
 ·rw[G];exact ht
 ·rw[G];exact hb
theorem kA {id:Nat}{a:Act}{w:World}(path z:List Nat){l tl:List Oper}(hm:P.follows .mixedOrders=true)(U:Region.noSelect ops=true)(ht:DY .any ops (Array.replicate ops.size false) path=true)(hb:zU .any ops (sY (Array.replicate ops.size false) path) z=true)
  (W:l=path.filterMap (λi=>ops[i]?)) (J:l.length=path.length) (G:tl=z.filterMap (λi=>ops[i]?)) (Ux:tl.length=z.length) (V:z.length+path.length=ops.size)
  (hQ:∀d v c a w,Q (.panic c) (Act.put a d v) w->Q (.panic c) a w) (hS:S w.drew) (h:cT P ops S (λa=>gH P ops Q S tl a w.drew) l a):(Code.region id ops true).wp P Q a w:=
 wp_region_any hm (D3 path z U ht hb W J G Ux V hQ hS h)
def Bp (ops:Array Oper):Bool:=ops.all λo=>match o.op with | .defer _=>false|_=>true
theorem Bq (h:Bp ops=true):∀(i:Nat) (o:Oper),ops[i]? =some o->∀c,o.op≠.defer c:=λi o G c e=>by
 unfold Bp at h;rw[Array.all_eq_true] at h;obtain⟨J,z⟩:=Array.getElem?_eq_some_iff.1 G;have :=h i J;rw[z] at this;simp only[e] at this;cases this
theorem rE:∀(l:List Oper),(List.range l.length).filterMap (λi=>l[i]?)=l
 | []=>rfl
 |o::l=>by
  rw[cr,List.range_succ_eq_map,gT];simp only[fU];rw[List.filterMap_map]
  congr 1
  exact rE l
theorem sZ {f g:Nat->Option Oper}:∀{l:List Nat},(∀i,i∈l->f i=g i)->l.filterMap f=l.filterMap g
 | [],_=>rfl
 |i::l,h=>by
  rw[gT,gT,h i (by simp),sZ λj z=>h j (by simp[z])]
theorem ye {l tl:List Oper}(h:ops.toList=l++tl):l=(List.range l.length).filterMap (λi=>ops[i]?)/\tl=((List.range tl.length).map (l.length+·)).filterMap (λi=>ops[i]?):=by
 have z:∀i,ops[i]? =(l++tl)[i]? :=λi=>by rw[<-h,dG]
 constructor
 ·refine(rE l).symm.trans (sZ λi G=> ?_)
  rw[z,ba (by simpa using G)]
 ·rw[List.filterMap_map]
  refine(rE tl).symm.trans (sZ λi G=> ?_);show _=ops[l.length+i]?;rw[z,aR (by omega),dD]
theorem Gt {a:Act}{w:World}{l tl:List Oper}(G:ops.toList=l++tl)(z:Region.noSelect ops=true)(J:DY .any ops (Array.replicate ops.size false) (List.range l.length)=true)(V:zU .any ops (sY (Array.replicate ops.size false) (List.range l.length)) ((List.range tl.length).map (l.length+·))=true)
  (U:∀d v c a w,Q (.panic c) (Act.put a d v) w->Q (.panic c) a w) (W:S w) (h:cT P ops S (λa=>gH P ops Q S tl a w) l a):wpAny P .any ops Q ops.size (Array.replicate ops.size false) a w:=
 D3 (List.range l.length) ((List.range tl.length).map (l.length+·)) z J V (ye G).1 (by simp) (ye G).2 (by simp) (by rw[<-dL,G];simp;omega) U W h
theorem yf {J:Nat}{a:Act}{w:World}{l tl:List Oper}(U:P.follows .mixedOrders=true)(V:ops.toList=l++tl)(z:Region.noSelect ops=true)(G:DY .any ops (Array.replicate ops.size false) (List.range l.length)=true)(hb:zU .any ops (sY (Array.replicate ops.size false) (List.range l.length)) ((List.range tl.length).map (l.length+·))=true)
  (W:∀d v c a w,Q (.panic c) (Act.put a d v) w->Q (.panic c) a w) (hS:S w.drew) (h:cT P ops S (λa=>gH P ops Q S tl a w.drew) l a):(Code.region J ops true).wp P Q a w:=
 wp_region_any U (Gt V z G hb W hS h)
theorem vt {n:Nat}{r:Option Nat}{U:Nat}{a:Act}{w:World}{l tl:List Oper}(V:P.follows .mixedOrders=true)(W:ops.toList=l++tl)(z:Region.noSelect ops=true)(hq:¬LetsOut Q)(J:Bp ops=true)(G:DY .any ops (Array.replicate ops.size false) (List.range l.length)=true)(hb:zU .any ops (sY (Array.replicate ops.size false) (List.range l.length)) ((List.range tl.length).map (l.length+·))=true)
  (hQ:∀d v c a w,Q (.panic c) (Act.put a d v) w->Q (.panic c) a w) (hS:S w.drew) (h:cT P ops S (λa=>gH P ops Q S tl a w.drew) l a):(Code.region U ops true).wpIn { Fence.wide with round:=r } n P Q a w:=
 xW V hq (Bq J) (Gt W z G hb hQ hS h)
theorem cT.cons{E:Act->Prop}{o:Oper}{rest:List Oper}{a:Act}(v:Value)(h:YieldsIf P ops S o v a)(z:cT P ops S E rest (a.put o.dst v)):cT P ops S E (o::rest) a:=⟨v,h,z⟩
theorem cT.done{E:Act->Prop}{a:Act}(h:E a):cT P ops S E [] a:=h
theorem YieldsIf.val{o:Oper}{v:Value}{a:Act}(z:Region.wanted o (yielded ops a.tmps)=true)(h:∀w,S w->(execOp a.eval o).run P w= .ok (.value v) w):YieldsIf P ops S o v a:= .inl ⟨z,h⟩
theorem YieldsIf.load{o:Oper}{v:Value}{a:Act}(G:Region.wanted o (yielded ops a.tmps)=true)(ty:TypeId)(x:Operand)(U:o.op= .load ty x)(z:Addr)(V:a.eval x= .pointer (some z))(h:∀w,S w->(loadVar ty z).run P w= .ok v w):YieldsIf P ops S o v a:=
 YieldsIf.val G λw J=>by
  unfold execOp;simp only[U,V,Instr.loadAt,Instr.sureAddr,ck,fO,cL,h w J]
end
end
section
open Go.RowKit Go.Shelf
variable{W w w5:World}{n:bT}{own z:List Nat}{T U V b cap g wB:Nat}{a:Option Addr}{E:List (ByteArray×Int)}{v:Value}{B l:List Int}{ps:List (Int×Int)}
attribute [local go_sem] kf
theorem Tryz.info_r8:(prog.info? 195).map (λi=>(i.zero,i.size,i.bytes))=some (some (.agg #[.int .u64 0,.int .u64 0,.int .u64 0,.int .u64 0,.int .u64 0,.int .u64 0,.int .u64 0,.int .u64 0]),8,64):=by kernel_rfl
theorem Uy (n:Nat)(W:n<=100000)(m:Int)(J:m=(n:Int))(w:World):(Instr.makeSlice 244 (.int .i64 m) (.int .i64 m)).run prog w=
  .ok (.slice w.heap.size n n) (w.alloc (.cells (madeCells #[.int .u64 0,.int .u64 0,.int .u64 0,.int .u64 0,.int .u64 0,.int .u64 0,.int .u64 0,.int .u64 0] (n*8)) 195)):=by
 subst J;obtain⟨U,V,h,z,G⟩:=dc Tryz.info_r8;have :=run_make (P:= prog) w 244 195 U _ underlying244 V h .i64 .i64 (n:Int) (n:Int) (by omega) (by omega) (by rw[G];omega) (by omega);rw[z,aG] at this;exact this
theorem Uz (n:Nat):madeCells #[Value.int .u64 0,.int .u64 0,.int .u64 0,.int .u64 0,.int .u64 0,.int .u64 0,.int .u64 0,.int .u64 0] (n*8)=(aY (List.replicate (8*n) 0)).toArray:=by
 apply Array.toList_inj.1;apply cD;intro j;simp only[madeCells,Array.toList_map,Array.toList_range,bJ,aY,jY,bj];by_cases h:j<n*8
 ·rw[cB h,aB]
  have z:j%8<8:=iz _ (by omega);show some ((#[Value.int .u64 0,.int .u64 0,.int .u64 0,.int .u64 0,.int .u64 0,.int .u64 0,.int .u64 0,.int .u64 0]:Array Value)[j%8]!)=_;generalize j%8=q at *;rcases (show q=0\/q=1\/q=2\/q=3\/q=4\/q=5\/q=6\/q=7 by omega) with rfl|rfl|rfl|rfl|rfl|rfl|rfl|rfl<;>rfl
 ·rw[aP (by simpa using h),aA]
  rfl
structure Gu (w5 wx:World) (n:bT) (own:List Nat) (gB wB fB:Nat) (b:Nat) (pre:List Nat):Prop where
 keep:ay [gB,wB,fB] w5 wx
 rows:∃C,CI n.E own b pre C/\bh wx gB (aY C).toArray 195
 row:bh wx wB (aY (rD n own b pre.length)).toArray 195
 fill:bh wx fB #[((fN n.E b+pre.length:Nat):Int)] 3
def acR (D:Nat):Deferred:={ target:= .collected D,args:= #[] }
theorem mC {P:Program}{n:Nat}{fn:Func}{tmps:Array Value}{R:Ending->World->Prop}:∀(z:List Nat) (W:World),z.Nodup->(∀D∈z,W.heap[D]? =some (.deferred (some [])))->
  (∀G,ay z W G->∃v,(results fn tmps).run P G= .ok v G/\R (.returned v) G)->LeavesInM Fence.wide n P fn tmps R (z.map acR) .returning W
 | [],W,_,_,h=>h W (ay.refl _ _)
 |D::z,W,hn,hm,h=>by
  have h1:=hm D (by simp);have aa:=(Array.getElem?_eq_some_iff.1 h1).1;have J:ay [D] W (W.putObj D (.deferred none)):=ay.of_grown (grownBy_putObj' W D _) λk J=> .inl (by cases J;simp)
  refine⟨by simp,.inl ⟨D,_,rfl,run_takeDeferred h1,?_⟩⟩;rw[List.nodup_cons] at hn;refine mC z _ hn.2 (λD' U=> ?_) λG V=>h G ?_
  ·have h2:=hm D' (by simp[U])
   refine(World.putObj_heap_other (λe=>hn.1 (by rw[<-e];exact U))).trans h2
  ·exact(J.mono (by simp)).trans' (V.mono λk J _=>je _ J)
theorem Gu.turn{A:World}(h:Gu w5 A n own V wB U b z){row:Option Nat}{B:Nat}(J:A.grownBy W row)(G:∀r,row=some r->B<=r/\∃o:Obj,A.heap[r]? =some o/\o.isCells=false)(hB:w5.heap.size<=B):Gu w5 W n own V wB U b z:=by
 obtain⟨h1,⟨C,h2,h3⟩,h4,h5⟩:=h;exact⟨h1.turn J (λr e=>(G r e).1) hB,⟨C,h2,h3.turn J λr e=>(G r e).2⟩,h4.turn J λr e=>(G r e).2,h5.turn J λr e=>(G r e).2⟩
def UB (E:List (ByteArray×Int)) (z h b p:Nat):Addr:=if p=0 then ⟨h,2+b,none⟩ else ⟨z,8*(fN E b+p-1),none⟩
theorem Gu.link{fB f:Nat}(h:Gu w5 W n own U wB fB b z)(hb:b<4)(V:f=fN n.E b+z.length)(aa:f<own.length)(ac:U≠wB):
  ∃G lo C1 ae,UB n.E U wB b z.length=⟨G,lo,none⟩/\(G=U\/G=wB)/\W.cell? ⟨G,lo,none⟩=some (.int .u64 ae)/\W.frozen? ⟨G,lo,none⟩=false/\8*f+7<C1.length/\
   (∀x,CI n.E own b (z++[x]) (Gs C1 (8*f+1) (eQ (yU (eB n.E b) x))))/\
   bh (W.drew.setCell ⟨G,lo,none⟩ (.int .u64 ((own.getD f 0:Nat):Int))) U (aY C1).toArray 195/\bh (W.drew.setCell ⟨G,lo,none⟩ (.int .u64 ((own.getD f 0:Nat):Int))) wB (aY (rD n own b (z.length+1))).toArray 195 :=by
 obtain⟨C,hC,Mk⟩:=h.rows;by_cases J:z.length=0
 ·refine⟨wB,2+b,C,(rD n own b z.length).getD (2+b) 0,by rw[UB,aB J],.inr rfl,by rw[h.row.cell,aF,dO (by rw[yc];omega)],h.row.frozen _,by rw[hC.len];omega,λx=>hC.step x f V aa (by rw[aB J]),Mk.drew.other ac _,?_⟩
  have :=h.row.drew.set (2+b) (.int .u64 ((own.getD f 0:Nat):Int));rw[ag,mI] at this;have e:(rD n own b z.length).set (2+b) ((own.getD f 0:Nat):Int)=rD n own b (z.length+1):=by
   rw[J] at V ⊢;rw[V];exact XZ n own b hb
  rw[e] at this;exact this
 ·have hl:8*(fN n.E b+z.length-1)<C.length:=by rw[hC.len];omega
  refine⟨U,8*(fN n.E b+z.length-1),C.set (8*(f-1)) ((own.getD f 0:Nat):Int),C.getD (8*(fN n.E b+z.length-1)) 0,by rw[UB,aA J],.inl rfl,by rw[Mk.cell,aF,dO hl],Mk.frozen _,by rw[cX,hC.len];omega,λx=>hC.step x f V aa (by rw[aA J]),?_,?_⟩
  ·have :=Mk.drew.set (8*(fN n.E b+z.length-1)) (.int .u64 ((own.getD f 0:Nat):Int))
   rw[ag,mI] at this;rw[V];rw[V] at this;exact this
  ·rw[<-Uv n own b z.length J]
   exact h.row.drew.other (λe=>ac e.symm) _
theorem UC{len:Nat}{l:List (ByteArray×Int)}(h:bD w (.slice a len cap) g l)(x:Nat):bD w (chV a len x) g (yU l x):=by
 obtain⟨a',c',U,h2,h3,W⟩:=h;cases U;by_cases z:l.length=0
 ·have G:(yU l x).length=0:=by rw[nU,z];omega
  refine⟨?_,?_,?_,?_,?_,λh=>absurd G h⟩
  ·exact match a with | some ⟨g,off,_⟩=>some ⟨g,off+x*3*2,none⟩|none=>none
  ·exact 0
  ·rw[G]
   cases a with
   |none=>rfl
   |some a=>simp[chV,z]
  ·rw[G];exact aH _
  ·unfold maxLen;omega
 ·obtain⟨hg,off,rfl,J⟩:=W z
  refine⟨some ⟨g,off+x*3*2,none⟩,min 3 (l.length-3*x),by rw[nU];rfl,by rw[nU];exact aH _,by unfold maxLen;omega,λ_=>⟨hg,_,rfl,λj hj=> ?_⟩⟩;rw[nU] at hj;have h5:=J (3*x+j) (by omega);have e:l[3*x+j]? =(yU l x)[j]? :=by
   unfold yU;rw[ij (by omega),b8]
  have e1:eX (yU l x) j=eX l (3*x+j):=by simp only[eX,aj];rw[e]
  have V:jq (yU l x) j=jq l (3*x+j):=by simp only[jq,aj];rw[e]
  rw[e1,V,show off+x*3*2+j*2=off+(3*x+j)*2 by omega];exact h5
theorem E0 (l:List (ByteArray×Int))(x j:Nat)(h:j<(yU l x).length):3*x+j<l.length/\eX (yU l x) j=eX l (3*x+j)/\jq (yU l x) j=jq l (3*x+j):=by
 rw[nU] at h;have e:l[3*x+j]? =(yU l x)[j]? :=by
  unfold yU;rw[ij (by omega),b8]
 exact⟨by omega,by simp only[eX,aj];rw[e],by simp only[jq,aj];rw[e]⟩
theorem E9{k:Nat}(h:k<(eB E b).length):∃j,j<E.length/\eX (eB E b) k=eX E j/\jq (eB E b) k=jq E j:=by
 have G:(eX (eB E b) k,jq (eB E b) k)∈E:=(List.mem_filter.1 (Xv h)).1;obtain⟨j,z,e⟩:=bY G;have :E.getD j (ByteArray.empty,0)=E[j]:=by simp[z]
 exact⟨j,z,by rw[eX,eX,this,e];rfl,by rw[jq,jq,this,e];rfl⟩
theorem adM (h:x8 E)(b x:Nat):x8 (yU (eB E b) x):=by
 refine⟨by rw[nU];omega,λk z=> ?_,λk z=> ?_⟩
 ·obtain⟨J,W,V⟩:=E0 _ _ _ z
  obtain⟨j,G,e1,U⟩:=E9 J;rw[W,e1];exact h.size j G
 ·obtain⟨J,W,V⟩:=E0 _ _ _ z
  obtain⟨j,G,e1,U⟩:=E9 J;rw[V,U];exact h.ino j G
theorem Qw (n:bT)(v:Value)(g:Nat)(hB:n.B.length=13)(ht:zO n)(hE:bD w v g n.E)(cn:x8 n.E)(dz:n.E.length<=1000)(vo:Value)(go:Nat)(own:List Nat)(hO:Reads w vo go (dK own))(vz:fN n.E 4=own.length)(wI:∀c∈own,c<256):
  Calls prog 217 #[aM n v,vo] w (pM w (Gr n own) (yb n.E own 4)):=by
 have dO:own.length<=4000:=by
  have V:=kG n.E 0;have U:=kG n.E 1;have h3:=kG n.E 2;have h4:=kG n.E 3;simp only[fN,dN] at vz;omega
 obtain⟨ao,co,rfl,Nn,dW,SE⟩:=sX hO;have HH:=ar (EZ n v hB ht);obtain⟨W0,aB⟩:∃W0,W0=((w.alloc (.cells (aM n v) 111)).alloc (.cells #[.slice ao own.length co] 141)).alloc (.cells (aY (List.replicate 8 0)).toArray 195):=⟨_,rfl⟩;have aX:bh W0 w.heap.size (aM n v) 111 :=by
  rw[aB];exact((bh.new w _ _).alloc _).alloc _
 have bj:bh W0 (w.heap.size+1) #[.slice ao own.length co] 141 :=by
  have :=bh.new (w.alloc (.cells (aM n v) 111)) #[.slice ao own.length co] 141;have e:(w.alloc (.cells (aM n v) 111)).heap.size=w.heap.size+1:=by simp
  rw[e] at this;rw[aB];exact this.alloc _
 have EH:Hid (bh W0 (w.heap.size+2) (aY (List.replicate 8 0)).toArray 195):=by
  have :=bh.new ((w.alloc (.cells (aM n v) 111)).alloc (.cells #[.slice ao own.length co] 141)) (aY (List.replicate 8 0)).toArray 195;have e:((w.alloc (.cells (aM n v) 111)).alloc (.cells #[.slice ao own.length co] 141)).heap.size=w.heap.size+2:=by simp
  rw[e,<-aB] at this;exact this
 have fI:Hid (ay [] w W0):=by
  rw[aB];exact(((ay.refl [] w).alloc _).alloc _).alloc _
 have uY:=ar (b9 aX hB);have K8:Hid (∀G,ay [] W0 G->G.cell? ⟨w.heap.size,17,none⟩=some v):=λG J=>by rw[(aX.keep J (by simp)).cell];exact Ak _ hB
 have bl:Hid (∀G,ay [] W0 G->G.cell? (w.heap.size+1:Nat)=some (.slice ao own.length co)):=λG J=>by rw[(bj.keep J (by simp)).cell];rfl
 have xB:Hid (∀G,ay [] w G->Calls prog 216 #[v] G (wF G n.E)):=λG J=>JS (hE.keep J (by simp)) (by omega) cn.size
 have cL:=lj;obtain⟨ru,qa,zN⟩:=hh3 aB aX bj;have M7:Hid (uZ n=rD n own 0 0):=(Ut n own).symm;have XV:=CA n;generalize uZ n=H,aM n v=Z at *;clear aX bj aB hB hE hO ht;generalize wC:(aY (List.replicate 8 0)).toArray=Z8 at *;have xJ:=ar wC;clear wC;refine(callsIn_wide (n:=3)).1 (callsIn_of_wp_marks func217 rfl trivial (wpIn_wide.2 ?_) rfl);simp only[ntmps217,bN,cr,cC,Nat.reduceAdd,Nat.reduceSub,fZ,gi,iI,gQ,bQ,ia];go_wp2_with((with_reducible show wpList _ _ _ (⟨_,.load 111 (.tmp 2),_,_,_,_⟩::_) _ _);rw[<-ru.out];refine gJ rfl 111 (.tmp 2) rfl _ rfl _ uY.out ?_);refine Rr (HH.out _) λw1 aV=> ?_;obtain⟨w2,bW,tY,ax⟩:=bH (P:= prog) (ty:= 195) (cs:=aY H) (by rw[bB,XV];exact jc) (bh.new w1 Z8 195) (by rw[<-xJ.out];simp[bB,XV]) (fh _);have uG:ay [] W0 w2:=(aV.alloc (.cells Z8 195)).trans ax (by intro x hx;rw[au] at hx;have :=aV.size;omega);obtain⟨cA,SD,fx⟩:=hh3 bW tY uG;have c3:=bl.out w2 uG;have dF:w.heap.size+2<w1.heap.size:=bS EH.out.lt aV.size;have dV:w1.heap.size<w2.heap.size:=tY.lt;have ac:=Uy own.length (by omega) (own.length:Int) rfl w2;rw[Uz] at ac;obtain⟨W3,az⟩:∃W3,W3=((w2.alloc (.cells (aY (List.replicate (8*own.length) 0)).toArray 195)).alloc (.cells #[.slice w2.heap.size own.length own.length] 244)).alloc (.cells #[(0:Int)] 3):=⟨_,rfl⟩;have nE:ay [] w2 W3:=by
  rw[az];exact(((ay.refl [] w2).alloc _).alloc _).alloc _
 have Li:ay [] W0 W3:=uG.trans' nE;have bF:=K8.out W3 Li;rw[az] at bF;obtain⟨cX,oI⟩:=hh2 (bl.out W3 Li) (fI.out.trans' Li);have ba:Hid (bh W3 w2.heap.size (aY (List.replicate (8*own.length) 0)).toArray 195):=by
  rw[az];exact((bh.new w2 _ _).alloc _).alloc _
 have bA:Hid (bh W3 (w2.heap.size+1) #[.slice w2.heap.size own.length own.length] 244):=by
  have :=bh.new (w2.alloc (.cells (aY (List.replicate (8*own.length) 0)).toArray 195)) #[.slice w2.heap.size own.length own.length] 244;have e:(w2.alloc (.cells (aY (List.replicate (8*own.length) 0)).toArray 195)).heap.size=w2.heap.size+1:=by simp
  rw[e] at this;rw[az];exact this.alloc _
 have bw:Hid (bh W3 (w2.heap.size+1+1) #[(0:Int)] 3):=by
  have :=bh.new ((w2.alloc (.cells (aY (List.replicate (8*own.length) 0)).toArray 195)).alloc (.cells #[.slice w2.heap.size own.length own.length] 244)) #[(0:Int)] 3;have e:((w2.alloc (.cells (aY (List.replicate (8*own.length) 0)).toArray 195)).alloc (.cells #[.slice w2.heap.size own.length own.length] 244)).heap.size=w2.heap.size+1+1:=by simp
  rw[e] at this;rw[az];exact this
 obtain⟨bZ,bO,cv,aN⟩:=hh4 (tY.keep nE (by simp)) (EH.out.keep Li (by simp)) (zN.out.keep Li (by simp)) az;clear bW tY ax uG aV nE Li HH EH zN qa uY K8 bl az;generalize di:w1.heap.size=g6 at *;go_wp2_with(first|(with_reducible refine gS 195 cA.out ?_));clear bF c3 ac cA SD fx cL di;refine((xB.out _ (aN.out▸oI.out)).mono ?_);rintro e w5 ⟨S,rfl,kR,hS⟩;rw[<-aN.out] at kR;have qR:=ar (oI.out.trans' kR);have rz:Hid (∀b,b<4->∃a cap g,S b= .slice a (eB n.E b).length cap/\(eB n.E b).length<=cap/\cap<=maxLen/\((eB n.E b).length≠0->∃g off,a=some ⟨g,off,none⟩)/\bD w5 (.slice a (eB n.E b).length cap) g (eB n.E b)/\W3.heap.size<=g):=λb hb=>by
  obtain⟨g,V,U⟩:=hS b hb;obtain⟨a,cap,h3,h4,h5,h6⟩:=V;refine⟨a,cap,g,h3,h4,h5,λh0=> ?_,h3▸⟨a,cap,h3,h4,h5,h6⟩,by rw[aN.out];exact U⟩;obtain⟨-,off,h7,-⟩:=h6 h0;exact⟨g,off,h7⟩
 obtain⟨bI,cz,bV,cw,cO,dn⟩:=hh6 (ba.out.keep kR (by simp)) (bA.out.keep kR (by simp)) (bw.out.keep kR (by simp)) (bZ.out.keep kR (by simp)) (bO.out.keep kR (by simp)) (cv.out.keep kR (by simp));have dQ:W3.heap.size<=w5.heap.size:=kR.size;have dH:w2.heap.size+3<=W3.heap.size:=by rw[aN.out];simp
 clear kR hS xB ba bA bw bZ bO cv cX fI ru aN;generalize w2.heap.size=z at *;have EF:Hid (Gu w5 w5 n own z g6 (z+1+1) 0 []):=⟨ay.refl _ _,⟨_,CI.start n.E own,bI.out⟩,by have :=cw.out;rw[M7.out] at this;exact this,bV.out⟩;have bR:∀b,b<4->fN n.E b+dN n.E b<=own.length:=λb hb=>by
  have :=vg n.E (show b+1<=4 by omega);rw[fN,vz] at this;exact this
 have cW:=ar bR;clear bR;have Gv:z≠g6:=by omega
 go_wp2_with fail;refine wp_loop (λa G=>∃(k:Nat) (Ds:List Nat) (u9 u10 u11 u22 u23 u24 u25 u26 u27 u28 u29 u51:Value),k<=4/\a={ tmps:= #[.agg Z,.slice ao own.length co,.pointer (some ⟨w.heap.size,0,none⟩),.pointer (some ⟨w.heap.size+1,0,none⟩),.pointer (some ⟨w.heap.size+1+1,0,none⟩),.slice none 0 0,.pointer (some ⟨g6,0,none⟩),.pointer (some ⟨z+1,0,none⟩),.pointer (some ⟨z+1+1,0,none⟩),u9,u10,u11,undef,.agg Z,.agg (aY H).toArray,.slice ao own.length co,.int .i64 (own.length:Int),.slice z own.length own.length,.pointer (some ⟨w.heap.size,17,none⟩),v,.agg (pG S),.int .i64 (k:Int),u22,u23,u24,u25,u26,u27,u28,u29,undef,undef,undef,undef,undef,undef,undef,undef,undef,undef,undef,undef,undef,undef,undef,undef,undef,undef,undef,undef,undef,u51,undef,undef],defers:=Ds.map acR }/\
   Hid (Gu w5 G n own z g6 (z+1+1) k []/\Ds.Nodup/\∀D∈Ds,w5.heap.size<=D/\G.heap[D]? =some (.deferred (some [])))) (λa _=>4-(intOf (a.tmps.getD 21 undef)).toNat) ⟨0,[],_,_,_,_,_,_,_,_,_,_,_,_,by omega,rfl,EF.out,List.nodup_nil,λD hD=>by cases hD⟩ ?_
 rintro a wr ⟨k,Ds,u9,u10,u11,u22,u23,u24,u25,u26,u27,u28,u29,u51,bg,rfl,HP⟩;clear EF;by_cases J:k<4
 ·have dD:(k:Int)<4:=by omega
  obtain⟨ak,Qx,gk,bL,cj,ac,cg,b7,bv⟩:=rz.out k J;have Iv:=λw=>Gc S J w
  rw[bL] at Iv;obtain⟨ji,hj,dP,Cf,dC,dB⟩:∃ji:Int,2+(k:Int)=ji/\wrap64 ji=ji/\0<=ji/\ji<8/\ji.toNat=2+k:=⟨_,rfl,by unfold wrap64;omega,by omega,by omega,by omega⟩;obtain⟨kn,dR,dU,bM⟩:∃kn:Int,(k:Int)+1=kn/\wrap64 kn=kn/\Hid (kn=((k+1:Nat):Int)):=⟨_,rfl,by unfold wrap64;omega,(by show _=_;omega)⟩;obtain⟨cG,cN,dh,cP,Ml,HK,qb⟩:=hh7 bv b7 cg cj ac J bg;clear bL bv b7 cg cj ac J bg;generalize xI:(k:Int)=ki at *;have cB:=ar xI;clear xI;go_wp2_with fail;refine Rr (XE _ _ _ _) λwL aC=> ?_;have bo:(wr.alloc (.cells #[.pointer (some ⟨g6,2+k,none⟩)] 280)).heap.size=wr.heap.size+1:=by simp
  have ou:Hid (bh wL wr.heap.size #[.pointer (some ⟨g6,2+k,none⟩)] 280):=by
   rw[aC];exact((bh.new wr _ _).alloc _).alloc _
  have Qv:Hid (bh wL (wr.heap.size+1) #[.slice ak (eB n.E k).length Qx] 32):=by
   rw[aC,<-bo];exact(bh.new _ _ _).alloc _
  have Bl:Hid (bh wL (wr.heap.size+1+1) #[(3:Int)] 3):=by
   have :=bh.new ((wr.alloc (.cells #[.pointer (some ⟨g6,2+k,none⟩)] 280)).alloc (.cells #[.slice ak (eB n.E k).length Qx] 32)) #[(3:Int)] 3;have e:((wr.alloc (.cells #[.pointer (some ⟨g6,2+k,none⟩)] 280)).alloc (.cells #[.slice ak (eB n.E k).length Qx] 32)).heap.size=wr.heap.size+1+1:=by simp
   rw[e] at this;rw[aC];exact this
  have aF:ay [] wr wL:=by
   rw[aC];exact(((ay.refl [] wr).alloc _).alloc _).alloc _
  have dE:wL.heap.size=wr.heap.size+3:=by rw[aC];simp
  rw[bo];clear aC bo;obtain⟨af,aG,ac⟩:=HP.out;have ck:Gu w5 wL n own z g6 (z+1+1) k []:=⟨af.keep.trans' (aF.mono (by simp)),by obtain⟨C,V,U⟩:=af.rows;exact⟨C,V,U.keep aF (by simp)⟩,af.row.keep aF (by simp),af.fill.keep aF (by simp)⟩;have dS:w5.heap.size<=wr.heap.size:=af.keep.size;have bz:Hid (∀D∈Ds,w5.heap.size<=D/\D<wr.heap.size/\wL.heap[D]? =some (.deferred (some []))):=λD hD=>by
   obtain⟨V,U⟩:=ac D hD;have h3:=(Array.getElem?_eq_some_iff.1 U).1;exact⟨V,h3,(aF.block D h3 (by simp)).trans U⟩
  obtain⟨cM,bf⟩:=hh2 ck aG;clear af ck ac aF HP aG;generalize wr.heap.size=lB at *;go_wp2_with fail;refine(wpIn_wide (n:=3)).1 ?_;refine wpIn_rangeFunc_ownG (F:=Fence.wide) rfl (by omega) (gf:= 237) (lb:= #[.pointer (some ⟨lB+1,0,none⟩),.pointer (some ⟨lB+1+1,0,none⟩)]) rfl trivial (enters_of func237 (by kernel_rfl) rfl)
   (MV (3-1) (by omega) ak (eB n.E k).length Qx (cE (kG _ _) (by omega)) cP.out dh.out (lB+1) (lB+1+1) wL Qv.out Bl.out)
   (λV U=>⟨U.1.trans V.1,U.2.trans V.2⟩) (λW l o o' V U _ _=>⟨World.putObj_heap_other (by omega),World.putObj_heap_other (by omega)⟩) (Below.refl _ _) (λ_=>rfl)
   (λae W=>Gu w5 W n own z g6 (z+1+1) k ae/\bh W lB #[.pointer (some (UB n.E z g6 k ae.length))] 280/\ay [z,g6,z+1+1,lB] wL W)
   (λ_ _ _=>False)
   (λae A A' row h hg hr=>⟨h.1.turn hg hr (by omega),h.2.1.turn hg (λr e=>(hr r e).2),h.2.2.turn hg (λr e=>(hr r e).1) (aH _)⟩)
   (λ_ _ _ _ _ h _ _=>h)
   ⟨cM.out,by have :=ou.out;exact this,ay.refl _ _⟩
   (λx=>{ tmps:= #[.agg Z,.slice ao own.length co,.pointer (some ⟨w.heap.size,0,none⟩),.pointer (some ⟨w.heap.size+1,0,none⟩),.pointer (some ⟨w.heap.size+1+1,0,none⟩),.slice none 0 0,.pointer (some ⟨g6,0,none⟩),.pointer (some ⟨z+1,0,none⟩),.pointer (some ⟨z+1+1,0,none⟩),.int .i64 ki,.slice ak (eB n.E k).length Qx,.pointer (some ⟨lB,0,none⟩),chV ak (eB n.E k).length x,.agg Z,.agg (aY H).toArray,.slice ao own.length co,.int .i64 (own.length:Int),.slice z own.length own.length,.pointer (some ⟨w.heap.size,17,none⟩),v,.agg (pG S),.int .i64 ki,.bool true,.int .i64 ki,.slice ak (eB n.E k).length Qx,.int .i64 ki,.int .i64 ji,.pointer (some ⟨g6,2+k,none⟩),.slice ak (eB n.E k).length Qx,.func (.func 237) #[] #[(lB+1:Nat),(lB+1+1:Nat)],chV ak (eB n.E k).length x,undef,undef,undef,undef,undef,undef,undef,undef,undef,undef,undef,undef,undef,undef,undef,undef,undef,undef,undef,undef,u51,undef,undef],defers:=[] }) ?assign ?body ?done ?stop
  case assign=>
   intro l x W K hK
   gi_wp2
   exact hK
  case stop=>
   rintro D c ae W _ _ h _;exact h.elim
  case done=>
   rintro D ys W hD rfl ⟨IV,UD,kp⟩ JV;have cy:(List.range (((eB n.E k).length+2)/3)).length=dN n.E k:=fK;have SG:Gu w5 W n own z g6 (z+1+1) (k+1) []:=by
    obtain⟨V,⟨C,U,h3⟩,h4,h5⟩:=IV;rw[cy] at h4 h5;exact⟨V,⟨C,U.next,h3⟩,by rw[Uu] at h4;exact h4,h5⟩
   have ml:Hid (Gu w5 W n own z g6 (z+1+1) (k+1) []/\(D::Ds).Nodup/\∀D'∈D::Ds,w5.heap.size<=D'/\W.heap[D']? =some (.deferred (some []))):=by
    refine⟨SG,List.nodup_cons.2 ⟨λhm=> ?_,bf.out⟩,λD' cZ=> ?_⟩
    ·have :=(bz.out D hm).2.1
     omega
    ·rcases aL.1 cZ with rfl|hm
     ·exact⟨by omega,JV⟩
     ·obtain⟨V,U,h3⟩:=bz.out D' hm
      exact⟨V,(kp.block D' (by omega) (by
       have h4:D'≠z/\D'≠g6/\D'≠z+1+1/\D'≠lB:=by omega
       simp only[aL,aK,bC];omega)).trans h3⟩
   clear IV UD kp JV SG cy;go_wp2_with fail;refine⟨⟨k+1,D::Ds,_,_,_,_,_,_,_,_,_,_,_,_,HK.out,by rw[<-bM.out];rfl,ml.out⟩,?_⟩;have V:=bM.out;have U:=cB.out;have h3:=HK.out;simp[intOf];omega
  case body=>
   rintro l ae x W ⟨IV,UD,kp⟩ aP;obtain⟨f,hf⟩:∃f,f=fN n.E k+ae.length:=⟨_,rfl⟩;have aT:f<own.length:=by
    have V:=cW.out k HK.out;have U:ae.length<dN n.E k:=aP;omega
   obtain⟨lg,lo,C1,dm,Cr,df,bY,bX,bJ,bE,aS,aU⟩:=IV.link HK.out hf aT Gv;obtain⟨cm,Qt,rfl,bn⟩:=SE.out f aT;rw[Cr] at UD;have X3:own.getD f 0<256:=wI _ (by rw[aj,aD aT];exact bG aT);have Nq:=IV.fill;rw[<-hf] at Nq;obtain⟨xi,Nr,cJ⟩:∃xi:Int,((own.getD f 0:Nat):Int)=xi/\IntKind.u64.wrap xi=xi:=⟨_,rfl,by rw[nD (by omega) (by omega)]⟩;obtain⟨fi,bb,dI,dM,dx,dJ⟩:∃fi:Int,((f:Nat):Int)=fi/\0<=fi/\fi<(own.length:Int)/\fi.toNat=f/\wrap64 (fi+1)=fi+1:=⟨_,rfl,by omega,by omega,by omega,by unfold wrap64;omega⟩;rw[Nr] at bn aS aU;rw[bb] at Nq;have bP:Hid (∀G,ay [z,g6] W G->G.cell? lB=some (.pointer (some ⟨lg,lo,none⟩))/\G.cell? (w.heap.size+1:Nat)=some (.slice (some ⟨go,Qt,none⟩) own.length co)/\G.cell? (z+1+1:Nat)=some (.int .i64 fi)/\G.cell? ⟨go,Qt+f,none⟩=some (.int .i64 xi)):=λG J=>by
    refine⟨by rw[(UD.keep J (by simp<;>omega)).cell];rfl,by rw[((dn.out.keep IV.keep (by simp<;>omega)).keep J (by simp<;>omega)).cell];rfl,by rw[(Nq.keep J (by simp<;>omega)).cell];rfl,?_⟩;have kR:=qR.out;have V:go<w5.heap.size:=bS cm kR.size;have U:go<W.heap.size:=bS V IV.keep.size;refine(aO (a:=⟨go,Qt+f,none⟩) ?_).trans bn;show G.heap[go]? =w.heap[go]?;exact((J.block go U (by simp<;>omega)).trans (IV.keep.block go V (by simp<;>omega))).trans (kR.block go cm (by simp))
   have cF:W.drew.cell? ⟨lg,lo,none⟩=some (.int .u64 dm):=bY;have dv:W.drew.frozen? ⟨lg,lo,none⟩=false:=bX;have ct:W.drew.setCell ⟨lg,lo,none⟩ (.int .u64 xi)=(W.setCell ⟨lg,lo,none⟩ (.int .u64 xi)).drew:=rfl;obtain⟨W1,aR⟩:∃W1,W1=(W.setCell ⟨lg,lo,none⟩ (.int .u64 xi)).drew:=⟨_,rfl⟩;rw[ct,<-aR] at aS aU;have bK:ay [z,g6] W W1:=by
    rw[aR];exact((ay.refl _ _).setCell (.inl (by rcases df with h|h<;>simp[h])) _).drew
   obtain⟨bt,cI,nL,cK,b6,cD,IQ⟩:=hh7 IV UD kp Nq aS aU bK;obtain⟨WS,cY,cQ,HF,qT,xy⟩:=hh6 aR bE bJ hf bb aP;clear IV UD kp Nq aS aU bK aR ct bE bJ hf aP Cr bn Nr bb bY bX X3;refine wpIn_block (wpIn_seq_k λK aJ=> ?_);refine vt (r:=some l) (S:=λG=>ay [z,g6] W G) (l:=[_,_,_,_,_,_]) (tl:=[_,_]) (by kernel_rfl) rfl (by kernel_rfl) (by rintro⟨a,w,h⟩;exact h) (by kernel_rfl) (by kernel_rfl) (by kernel_rfl) (λd _ _ _ _ h=>by cases d<;>exact h) (ay.refl _ _).drew ?_;repeat (refine cT.cons ?_ (YieldsIf.val rfl ?h) ?_;(case h=>(intro G hx;obtain⟨V,U,h3,h4⟩:=bP.out G hx;go_simp;rfl));simp only[Act.put,ag,ah,ai])
   refine cT.done ?_;unfold gH;go_wp2_with fail;refine⟨(ay.refl _ _).drew,?_⟩;unfold gH;go_wp2_with fail;rw[<-WS.out];refine⟨IQ.out,?_⟩;unfold gH;refine aJ _ _ ?_;clear aJ K bP cF dv cJ WS bI cw bV
   -- the entries' words
   have bp:=IQ.out;have aZ:ay [z,g6,z+1+1] w5 W1:=bt.out.keep.trans' (IQ.out.mono (by simp<;>omega));have bc:bh W1 (z+1) #[.slice z own.length own.length] 244 :=cz.out.keep aZ (by simp<;>omega);have bk:bh W1 (z+1+1) #[fi] 3 :=cK.out.keep bp (by simp<;>omega);have cf:=cI.out.keep bp (by simp<;>omega);have cV:Hid (∀G,ay [z] W1 G->G.cell? (z+1:Nat)=some (.slice z own.length own.length)/\G.cell? (z+1+1:Nat)=some (.int .i64 fi)):=λG J=>by
    exact⟨by rw[(bc.keep J (by simp<;>omega)).cell];rfl,by rw[(bk.keep J (by simp<;>omega)).cell];rfl⟩
   have dA:∀G,(Instr.sliceAt 195 (.pointer (some ⟨z,f*8,none⟩)) (some (.int .i64 1)) none none).run prog G= .ok (.slice (some ⟨z,f*8+1,none⟩) 7 7) G:=λG=>by show Sem.run _ _ _=_;kernel_rfl
   have Gf:Hid (∀G,ay [] W1 G->Calls prog 212 #[chV ak (eB n.E k).length x] G (jN G (eQ (yU (eB n.E k) x)))):=λG J=>by
    refine zP (E:=yU (eB n.E k) x) (g:=gk) ?_ (adM cn k x);refine(((UC cN.out x).keep aZ ?_).keep J (by simp));intro _;have :=cG.out;simp;omega
   obtain⟨dG,cR,dw,dg⟩:=hh4 aZ bc bk cf;clear bp aZ bc bk cf;refine wpIn_seq_k λK aJ=> ?_
   refine vt (r:=some l) (S:=λG=>ay [z] W1 G) (l:=[_,_,_,_,_]) (tl:=[_,_]) (by kernel_rfl) rfl (by kernel_rfl) (by rintro⟨a,w,h⟩;exact h) (by kernel_rfl) (by kernel_rfl) (by kernel_rfl) (λd _ _ _ _ h=>by cases d<;>exact h) (ay.refl _ _).drew ?_;repeat (refine cT.cons ?_ (YieldsIf.val rfl ?h) ?_;(case h=>(intro G hx;obtain⟨V,U⟩:=cV.out G hx;go_simp;rfl));simp only[Act.put,ag,ah,ai])
   refine cT.done ?_;unfold gH;go_wp2_with fail;refine(Gf.out _ (ay.refl _ _).drew).mono ?_;rintro e W2 ⟨va,ga,rfl,JT,xp,bu⟩;have ax:ay [] W1 W2:=((ay.refl _ _).drew).trans' bu;obtain⟨aa,ca,rfl,-,-,-⟩:=fV JT;have cH:(eQ (yU (eB n.E k) x)).length<=6:=by rw[lf,nU];omega
   obtain⟨vc,av,zS,cx,cp⟩:=qu (o:=f*8+1) (n:=7) (cap:=7) (b6.out.keep ax (by simp)) JT (by omega) (by have :=cQ.out;omega);have dt:=ar zS;have fx:Hid (ay [z] W1 W2):=ax.mono (by simp);have UE:Hid (ay [z] W1 av):=(ax.mono (l':=[z]) (by simp)).trans' cp;have ba:Hid (bh av z (aY (Gs C1 (8*f+1) (eQ (yU (eB n.E k) x)))).toArray 195):=by
    rw[Nat.mul_comm 8 f];exact cx
   generalize cU:eQ (yU (eB n.E k) x)=ws at *;clear ax bu JT xp zS cx cp cH Gf b6;go_wp2_with fail;refine⟨fx.out,?_⟩;unfold gH;go_wp2_with(first|((with_reducible show wpList _ _ _ (⟨some 44,_,_,_,_,_⟩::_) _ _);refine jw rfl (.tmp 41) (.tmp 43) 71 71 rfl _ _ rfl rfl (dt.out _) ?_));refine⟨UE.out,?_⟩;unfold gH;refine aJ _ _ ?_;clear aJ K;have aW:=dg.out.keep UE.out (by simp<;>omega);have bq:=dw.out.keep UE.out (by simp<;>omega);have cd:=cR.out.keep UE.out (by simp<;>omega);have e1:av.cell? (z+1:Nat)=some (.slice z own.length own.length):=by rw[cd.cell];rfl
   have e2:av.cell? (z+1+1:Nat)=some (.int .i64 fi):=by rw[bq.cell];rfl
   have e3:av.cell? lB=some (.pointer (some ⟨lg,lo,none⟩)):=by rw[aW.cell];rfl
   have e4:av.frozen? lB=false:=aW.frozen 0;have cu:=aW.set 0 (.pointer (some ⟨z,f*8,none⟩));have aQ:=bq.other (a:=⟨lB,0,none⟩) (by show z+1+1≠lB;omega) (.pointer (some ⟨z,f*8,none⟩));have e5:(av.setCell ⟨lB,0,none⟩ (.pointer (some ⟨z,f*8,none⟩))).cell? (z+1+1:Nat)=some (.int .i64 fi):=by rw[aQ.cell];rfl
   have e6:(av.setCell ⟨lB,0,none⟩ (.pointer (some ⟨z,f*8,none⟩))).frozen? (z+1+1:Nat)=false:=aQ.frozen 0;obtain⟨dc,cS⟩:=hh2 cu aQ;clear aW bq cd cu aQ
   gi_wp2
   have aI:ay [z,g6,z+1+1,lB] W ((av.setCell ⟨lB,0,none⟩ (.pointer (some ⟨z,f*8,none⟩))).setCell ⟨z+1+1,0,none⟩ (.int .i64 (fi+1))):=
    (((IQ.out.mono (l':=[z,g6,z+1+1,lB]) (by simp<;>omega)).trans' (UE.out.mono (by simp<;>omega))).setCell (.inl (by simp)) _).setCell (.inl (by simp)) _
   have dL:wL.heap.size<=W.heap.size:=nL.out.size;have br:(ae++[x]).length=ae.length+1:=by simp
   refine⟨KeepsFrom.of_keeps aI (λj hj WO=> .inl ?_),⟨aI.block (lB+1) (by omega) (by simp<;>omega),aI.block (lB+1+1) (by omega) (by simp<;>omega)⟩,⟨?_,?_,?_,?_⟩,?_,nL.out.trans' aI⟩
   ·simp only[aL,aK,bC] at hj
    rcases hj with rfl|rfl|rfl|rfl<;>omega
   ·refine bt.out.keep.trans aI λy hy=> ?_
    simp only[aL,aK,bC] at hy ⊢;rcases hy with rfl|rfl|rfl|rfl
    ·exact .inl (.inl rfl)
    ·exact .inl (.inr (.inl rfl))
    ·exact .inl (.inr (.inr rfl))
    ·exact .inr (by omega)
   ·refine⟨_,cY.out x,?_⟩
    rw[cU];exact(ba.out.other (a:=⟨lB,0,none⟩) (by show z≠lB;omega) _).other (a:=⟨z+1+1,0,none⟩) (by show z≠z+1+1;omega) _
   ·rw[br]
    exact((cD.out.keep UE.out (by simp<;>omega)).other (a:=⟨lB,0,none⟩) (by show g6≠lB;omega) _).other (a:=⟨z+1+1,0,none⟩) (by show g6≠z+1+1;omega) _
   ·have :=cS.out.set 0 (.int .i64 (fi+1))
    rw[br,show((fN n.E k+(ae.length+1):Nat):Int)=fi+1 by rw[<-qT.out,HF.out];omega];exact this
   ·have :=dc.out.other (a:=⟨z+1+1,0,none⟩) (by show lB≠z+1+1;omega) (.int .i64 (fi+1))
    have e:UB n.E z g6 k (ae++[x]).length=⟨z,f*8,none⟩:=by
     rw[br,UB,aA,HF.out,show 8*(fN n.E k+(ae.length+1)-1)=(fN n.E k+ae.length)*8 by omega]
    rw[e];exact this
 ·obtain rfl:k=4:=by omega
  obtain⟨af,aG,ac⟩:=HP.out;have jP:bh wr.drew (w.heap.size+2) Z8 195 :=(cO.out.keep af.keep (by simp<;>omega)).drew;have b8:bh wr g6 (aY (rD n own 4 0)).toArray 195 :=af.row;have bU:Hid (∀G,ay [w.heap.size+2] wr G->(loadVar 195 g6).run prog G= .ok (.agg (aY (rD n own 4 0)).toArray) G/\G.cell? (z+1:Nat)=some (.slice z own.length own.length)):=λG J=>by
   exact⟨fM (b8.keep J (by simp<;>omega)) (yc _ _ _ _),by rw[((cz.out.keep af.keep (by simp<;>omega)).keep J (by simp<;>omega)).cell];rfl⟩
  obtain⟨wS,hS,sw,SF⟩:=bH (P:= prog) (ty:= 195) (cs:=aY (rD n own 4 0)) (by rw[bB,yc];exact jc) jP (by rw[<-xJ.out];simp[bB,yc]) (fh _);have HS:=ar hS;have Lh:Hid (ay [w.heap.size+2] wr wS):=((ay.refl _ _).drew).trans' SF;have ml:Hid (∀W',ay Ds wS W'->(loadVar 195 (w.heap.size+2:Nat)).run prog W'= .ok (.agg (aY (rD n own 4 0)).toArray) W'/\pM w (Gr n own) (yb n.E own 4) (.returned (.tuple #[(aY (rD n own 4 0)).toArray,.slice z own.length own.length])) W'):=λW' J=>by
   have hD:∀q,q<w5.heap.size->q∉Ds:=λq hq hm=>by
    have :=(ac q hm).1;omega
   refine⟨fM (bh.keep sw J (hD _ (by omega))) (yc _ _ _ _),_,z,rfl,?_,by omega,?_⟩
   ·obtain⟨C,V,U⟩:=af.rows
    exact V.breads vz (aH _) (by unfold maxLen;omega) ((U.keep Lh.out (by simp<;>omega)).keep J (hD _ (by omega)))
   ·have V:ay [] w wr:=qR.out.trans af.keep (by intro q hq;simp at hq;omega)
    have U:ay [] w wS:=V.trans Lh.out (by intro q hq;simp at hq;omega);exact U.trans J λq hq=> .inr (by have :=(ac q hq).1;omega)
  have bf:=ar aG;have Ml:Hid (∀D∈Ds,wS.heap[D]? =some (.deferred (some []))):=λD hD=>by
   obtain⟨V,U⟩:=ac D hD;exact(Lh.out.block D (Array.getElem?_eq_some_iff.1 U).1 (by simp<;>omega)).trans U
  clear af aG ac jP b8 hS sw SF HP J bg;go_wp2_with fail;refine wp_region_noPanic ?_;refine yf (S:=λG=>ay [w.heap.size+2] wr G) (l:=[_,_]) (tl:=[_,_]) (by kernel_rfl) rfl (by kernel_rfl) (by kernel_rfl) (by kernel_rfl) (λd _ _ _ _ h=>by cases d<;>exact h) (ay.refl _ _).drew ?_;refine cT.cons _ (YieldsIf.load rfl 195 (.tmp 6) rfl _ rfl λG hx=>(bU.out G hx).1) ?_;simp only[Act.put,ag,ah,ai];refine cT.cons ?_ (YieldsIf.val rfl ?h) ?_;(case h=>(intro G hx;obtain⟨-,V⟩:=bU.out G hx;go_simp;rfl));simp only[Act.put,ag,ah,ai];refine cT.done ?_;unfold gH;go_wp2_with(first|(with_reducible refine gS 195 HS.out ?_));refine⟨Lh.out,?_⟩;unfold gH;go_wp2_with fail;refine⟨Lh.out,?_⟩;unfold gH;refine NoPanic.normal ?_;go_wp2_with fail;refine mC Ds wS bf.out Ml.out λW' J=> ?_
  obtain⟨V,U⟩:=ml.out W' J;exact⟨_,eG results217 rfl V rfl,U⟩
end
section
open Go.RowKit
variable{W w w5:World}{n:bT}{own z:List Nat}{T U V b cap g wB:Nat}{a:Option Addr}{E:List (ByteArray×Int)}{v:Value}{B l:List Int}{ps:List (Int×Int)}
def iR (w:List Int):bT:=⟨w.getD 0 0%256,w.getD 0 0/256%256,w.getD 0 0/65536%65536,wrap64 (w.getD 1 0),List.replicate 13 0,[]⟩
theorem UF (x:Nat)(h:x<18446744073709551616):bits .and .u64 (x:Int) 255=((x%256:Nat):Int)/\bits .and .u64 ((x:Int)/256) 255=((x/256%256:Nat):Int)/\bits .and .u64 ((x:Int)/65536) 65535=((x/65536%65536:Nat):Int):=by
 have G:=Nat.div_le_self x 256;have z:=Nat.div_le_self x 65536;refine⟨?_,?_,?_⟩
 ·rw[show(255:Int)=((255:Nat):Int) from rfl,iu x 255 h (by omega),show x &&& 255=x%2^8 from dV x 8]
 ·rw[show(x:Int)/256=((x/256:Nat):Int) by omega,show(255:Int)=((255:Nat):Int) from rfl,iu (x/256) 255 (by omega) (by omega),show x/256 &&& 255=x/256%2^8 from dV _ 8]
 ·rw[show(x:Int)/65536=((x/65536:Nat):Int) by omega,show(65535:Int)=((65535:Nat):Int) from rfl,iu (x/65536) 65535 (by omega) (by omega),show x/65536 &&& 65535=x/65536%2^16 from dV _ 16]
theorem CJ (l:List Int)(hl:l.length=8)(h0:0<=l.getD 0 0/\l.getD 0 0<18446744073709551616)(h1:0<=l.getD 1 0/\l.getD 1 0<18446744073709551616)(w:World):
  Calls prog 140 #[(aY l).toArray] w λe w'=>e=aM (iR l) (.slice none 0 0)/\ay [] w w':=by
 have h:=(bh.new w (aY l).toArray 195).alloc (.cells (aM cg (.slice none 0 0)) 111);have U:bh ((w.alloc (.cells (aY l).toArray 195)).alloc (.cells (aM cg (.slice none 0 0)) 111)) (w.heap.size+1) (aM cg (.slice none 0 0)) 111 :=by
  have :=bh.new (w.alloc (.cells (aY l).toArray 195)) (aM cg (.slice none 0 0)) 111;have e:(w.alloc (.cells (aY l).toArray 195)).heap.size=w.heap.size+1:=by simp
  rw[e] at this;exact this
 have c0:((w.alloc (.cells (aY l).toArray 195)).alloc (.cells (aM cg (.slice none 0 0)) 111)).cell? w.heap.size=some (.int .u64 (l.getD 0 0)):=by
  rw[h.cell,aF,dO (by omega)]
 have c1:((w.alloc (.cells (aY l).toArray 195)).alloc (.cells (aM cg (.slice none 0 0)) 111)).cell? ⟨w.heap.size,1,none⟩=some (.int .u64 (l.getD 1 0)):=by
  rw[h.cell,aF,dO (by omega)]
 obtain⟨w2,hS,V,J⟩:=bH (P:= prog) (ty:= 111) (cs:=na (iR l) (.slice none 0 0)) (by rw[gM];exact iZ) U rfl (kY rfl);have G:=b9 (n:=iR l) (v:= .slice none 0 0) V rfl;have HK:Hid (ay [] w w2):=(((ay.refl [] w).alloc _).alloc _).trans J (by simp);obtain⟨W,rN⟩:=hh2 hS G;have aa:=dz;clear h U hS G V J;have HT:Hid ((na (iR l) (.slice none 0 0)).toArray=aM (iR l) (.slice none 0 0)):=rfl;rw[HT.out] at W;obtain⟨x,hx⟩:∃x:Nat,l.getD 0 0=(x:Int):=⟨(l.getD 0 0).toNat,by omega⟩;obtain⟨y,hy⟩:∃y:Nat,l.getD 1 0=(y:Int):=⟨(l.getD 1 0).toNat,by omega⟩;have hI:aM (iR l) (.slice none 0 0)= #[.int .i64 ((x%256:Nat):Int),.int .i64 ((x/256%256:Nat):Int),.int .i64 ((x/65536%65536:Nat):Int),.int .i64 (wrap64 (y:Int)),.int .i64 0,.int .i64 0,.int .i64 0,.int .i64 0,.int .i64 0,.int .i64 0,.int .i64 0,.int .i64 0,.int .i64 0,.int .i64 0,.int .i64 0,.int .i64 0,.int .i64 0,.slice none 0 0]:=by
  unfold iR;rw[hx,hy];rfl
 have z:aM cg (.slice none 0 0)= #[.int .i64 0,.int .i64 0,.int .i64 0,.int .i64 0,.int .i64 0,.int .i64 0,.int .i64 0,.int .i64 0,.int .i64 0,.int .i64 0,.int .i64 0,.int .i64 0,.int .i64 0,.int .i64 0,.int .i64 0,.int .i64 0,.int .i64 0,.slice none 0 0]:=rfl;rw[hI] at W rN HT;rw[hI];rw[z] at W c0 c1;rw[z] at aa;clear HT z;generalize (aY l).toArray=Z at *;rw[hx] at c0 h0;rw[hy] at c1 h1;obtain⟨p1,p2,p3⟩:=UF x (by omega);clear hx hy;have q1:x%256<256:=iz _ (by decide);have q2:x/256%256<256:=iz _ (by decide);have q3:x/65536%65536<65536:=iz _ (by decide);have ac:Hid (0<=y):=fC y;generalize x%256=a,x/256%256=b,x/65536%65536=c at *;go_in;go_wp2_with(first|(with_reducible refine gS 111 W.out ?_));exact aI (bA results140 rfl rN.out) rfl ⟨rfl,HK.out⟩
theorem SH (G:bh w g (aM n v) T)(z:n.B.length=13)(h:l.length=13):
  ∃w',(storeVar 109 ⟨g,4,none⟩ (.agg (zs l).toArray)).run prog w= .ok () w'/\bh w' g (aM { n with B:=l } v) T/\ay [g] w w':=by
 refine⟨_,jO g 4 (zs l) _ (by rw[eO,h];exact mb) G (by rw[aM,bN,gM,eO,z,h];omega) (nC l),?_,(ay.refl _ _).setRow (by simp) _⟩;have e:((aM n v).toList.take 4++zs l++(aM n v).toList.drop (4+(zs l).length)).toArray=aM { n with B:=l } v:=by
  have J:(aM n v).toList.drop (4+(zs l).length)=[v]:=by
   have :(aM n v).toList=[.int .i64 n.F,.int .i64 n.K,.int .i64 n.L,.int .i64 n.S]++(zs n.B++[v]):=rfl;rw[this,<-List.drop_drop,List.drop_left' (by rfl),List.drop_left' (by rw[eO,eO,z,h])]
  rw[J];rfl
 rw[e];exact kv G
theorem Lj{u:Value}(G:bh w g (aM n v) T)(h:n.B.length=13):bh (w.setCell ⟨g,17,none⟩ u) g (aM { n with E:=E } u) T:=by
 have :=G.set 17 u;have e:(aM n v).setIfInBounds 17 u=aM { n with E:=E } u:=by
  have z:aM n v=(([.int .i64 n.F,.int .i64 n.K,.int .i64 n.L,.int .i64 n.S]:List Value)++(zs n.B++[v])).toArray:=rfl;rw[z,ag,dH _ _ (by simp),dH _ _ (by rw[eO,h];simp),eO,h];rfl
 rw[e] at this;exact this
theorem adR (h:∀k,0<=l.getD k 0):dK (l.map Int.toNat)=zs l:=by
 apply cU (by simp[dK,zs]);intro j J z;have G:j<l.length:=by simpa[zs] using z
 have :=h j;rw[aj,aD G,eZ] at this;simp[dK,zs];omega
theorem yg{G:Nat}(h:eK w b G B ps)(z:In64 (az B ps))(n:Nat)(V:(aZ (az B ps)).length<n):
  Calls prog 151 #[b,(n:Int)] w λe w'=>e= .returned (.tuple #[(),(7:Int)])/\w=w':=by
 have J:=ar (JD h z);generalize (aZ (az B ps)).length=f at *;have U:¬(n:Int)<0:=by omega
 have W:(f:Int)<(n:Int):=by omega
 clear h z;go_in;go_wp2_with fail;refine C' J.out ?_;go_wp2_with fail;go_ret2;exact⟨rfl,rfl⟩
def Br (w:World) (b z:Nat) (B:List Int) (ps:List (Int×Int)) (l:List Nat) (e:Ending) (w':World):Prop:=
 ∃v g,e= .returned (.tuple #[v,(0:Int)])/\Reads w' v g (dK l)/\w.heap.size<=g/\g<w'.heap.size/\(∃h,(h=z\/(w.heap.size<=h/\h<w'.heap.size))/\h≠g/\eK w' b h B (ps++dh (az B ps) l)/\ay [b,z] w w')
theorem CK (X:List Int)(l:List Nat)(k:Nat)(h:k<l.length):dh X (l.take (k+1))=dh X (l.take k)++(eI (az X (dh X (l.take k))) (l.getD k 0) true++gW (l.getD k 0)):=by
 rw[bP h,MK];simp[h]
theorem CM{gp:Nat}(h:eK w b gp B ps)(U:In64 (az B ps))(hT:lD w)(Ew:gp<w.heap.size)(ac:ps.length<=900000)(n:Nat)(hn:n<=(aZ (az B ps)).length):
  Calls prog 151 #[b,(n:Int)] w (Br w b gp B ps ((aZ (az B ps)).take n)):=by
 have HF:=ar (JD h U);have aI:=Ct (az B ps);have Qy:=ar (FP h U hT n (by omega));have EW:Hid (∀c∈(aZ (az B ps)).take n,c≠0/\c<256):=λc J=>by
  have :=kx.1 (bO J);exact⟨this.2.1,this.1⟩
 have z:Hid (((aZ (az B ps)).take n).length=n):=by show _=_;rw[aJ,cQ hn]
 obtain⟨HS,uV⟩:=hh2 h U;have aA:Hid ((az B ps).length=3128):=h.raw.lx;have aN:=h.raw.lt;have zM:=ar ac;generalize (aZ (az B ps)).take n=l,(aZ (az B ps)).length=f at *;clear h U hT ac;have h0:¬(n:Int)<0:=by omega
 have h1:¬(f:Int)<(n:Int):=by omega
 go_in;go_wp2_with fail;refine C' HF.out ?_;go_wp2_with fail;refine Qy.out.mono ?_;rintro e w1 ⟨v,g,rfl,hr,av,aP,aa⟩;clear HF Qy h1 h0;have aB:=hr;obtain⟨a,cap,rfl,q1,q2,-⟩:=aB;rw[fk,z.out] at hr ⊢;rw[fk,z.out] at q1;obtain⟨HR,jK⟩:=hh2 hr aa;have hz:=aa.size;clear hr aa;unfold maxLen at q2;go_wp2_with fail;go_loopg [20] n (λgh s20 wx=>∃k:Nat,k+gh=n/\s20= .int .i64 (k:Int)/\Hid (Onto w1 b gp B (ps++dh (az B ps) (l.take k)) wx))
 case atStart=>exact⟨0,by omega,rfl,by show Onto _ _ _ _ _ _;rw[ez,show dh (az B ps) []=[] from rfl,br];exact Onto.refl (HS.out.keep jK.out (by simp) (by simp))⟩
 case round=>
  obtain⟨k,hk,rfl,HQ⟩:=hrel;have Gv:∀x,x∈[b,gp]->g≠x:=by
   intro x hx;simp only[aL,aK,bC] at hx;omega
  obtain⟨kX,p1,p2,p3⟩:=HQ.out;have W:=ar (HR.out.keep p3 (λhm=>Gv g hm rfl));have aO:=p3.size;cases gk with
  |zero=>
   obtain rfl:k=n:=by omega
   have HM:Hid (Br w b gp B ps l (.returned (.tuple #[.slice a k cap,(0:Int)])) wr):=by
    rw[aW (by rw[z.out];omega)] at p2;exact⟨_,g,rfl,W.out,av,by omega,kX,by omega,by omega,p2,(jK.out.mono (by simp)).trans p3 λx hx=> .inl hx⟩
   have aF:¬(k:Int)<(k:Int):=by omega
   clear p1 p2 p3 Gv hk;go_wp2_with fail;go_ret2;exact HM.out
  |succ gg=>
   have ai:k<n:=by omega
   have aF:(k:Int)<(n:Int):=by omega
   have cJ:(0:Int)<=(k:Int):=by omega
   have G:k<l.length:=by rw[z.out];exact ai
   have J:=EW.out (l.getD k 0) (by rw[aj,aD G];exact bG _);have ae:=nQ (l.take k) (az B ps) uV.out aA.out λc J=>EW.out c (bO J)
   have V:=qj (l.take k) (az B ps) λc J=>EW.out c (bO J)
   have ah:(l.take k).length<=255:=by rw[aJ];omega
   have ay:=ar (CK (az B ps) l k G);obtain⟨a',aH,au,r1,r2,r3⟩:=W.out;cases au;obtain⟨aM,off,rfl,r4⟩:=r3 (by intro e;have :=cN List.length e;rw[fk,cC] at this;omega);have ak:=(r4 k (by rw[fk];exact G)).trans (nB G);generalize l.getD k 0=c at *;have X4:Hid (Calls prog 142 #[b,(c:Int),true] wr (jU wr b kX B ((ps++dh (az B ps) (l.take k))++eI (az (az B ps) (dh (az B ps) (l.take k))) c true))):=by
    have :=MM p2 (by rw[bz];exact ae.1) (by rw[aC,V];have :=zM.out;omega) (c:Int) true;rw[bz,aG] at this;exact this
   have ag:∀(w':World) (gI:Nat),eK w' b gI B ((ps++dh (az B ps) (l.take k))++eI (az (az B ps) (dh (az B ps) (l.take k))) c true)->Hid (Calls prog 177 #[b,(c:Int)] w' (jU w' b gI B (ps++dh (az B ps) (l.take (k+1))))):=by
    intro w' gI ax;have :=P7 ax (by rw[aC,aC,V,JA _ c J.1 J.2];have :=zM.out;omega) c J.2;rw[ay.out];show Calls _ _ _ _ _;simpa only[aV] using this
   obtain⟨P1,P3,af⟩:=hh3 p1 p3 ag;clear p1 p2 p3 Gv J ae V ah r1 r2 r3 r4 G W HQ ag;go_wp2_with fail;refine Rr X4.out ?_;rintro w2 ⟨lS,s1,s2,s3⟩;have HE:=(af.out w2 lS s2);obtain⟨S1,S3⟩:=hh2 s1 s3;clear s1 s2 s3 af X4;go_wp2_with fail;refine Rr HE.out λw3 t1=> ?_;have HO:Hid (Onto w1 b gp B (ps++dh (az B ps) (l.take (k+1))) w3):=Onto.trans P1.out P3.out (Onto.trans S1.out S3.out t1);clear t1;go_wp2_with fail;go_roundg gg;case measure=>omega
   case rel=>exact⟨k+1,by omega,by go_num,HO⟩
def gF (i:Int):Int:=if i<0\/32<=i then -1 else 824+i*8
theorem kC (i:Int)(w:World):Calls prog 137 #[i] w λe w'=>e=(gF i:Int)/\w=w':=by
 rcases (show i<0\/32<=i\/(0<=i/\i<32) by omega) with h|h|⟨G,z⟩
 ·rw[gF,aB (.inl h)]
  go_in;go_wp2;go_ret;exact⟨rfl,rfl⟩
 ·rw[gF,aB (.inr h)]
  have J:¬i<0:=by omega
  go_in;go_wp2;go_ret;exact⟨rfl,rfl⟩
 ·rw[gF,aA]
  go_in;go_wp2;go_ret;exact⟨rfl,rfl⟩
def dX (n:bT) (own:List Nat):List Int:=(own.take (bp n.E.length)).map (λx:Nat=>(x:Int))++n.B.drop (bp n.E.length)
def fo (n:bT) (own:List Nat):Nat:=if bp n.E.length<own.length then own.getD (bp n.E.length) 0 else 0
def tj (E:List (ByteArray×Int)) (l:List Int) (k:Nat):List (Int×Int):=(List.range k).flatMap λj=>jT (1080+8*(l.getD j 0).toNat) (jn E j) 8
def qx (n:bT) (own:List Nat):List (Int×Int):=if bp n.E.length<own.length then jT (1080+8*fo n own) ((dX n own).drop 5) 8 else []
def wJ (i:Nat) (n:bT) (own:List Nat):List (Int×Int):=
 tj n.E (dX n own) (bp n.E.length)++(qx n own++jT (824+8*i) (iq n (dX n own) (fo n own)) 8)
def pO (X:List Int) (i:Nat) (n:bT) (own:List Nat):List (Int×Int):=dh X own++wJ i n own
theorem Aq (E:List (ByteArray×Int))(l:List Int)(k:Nat):tj E l (k+1)=tj E l k++jT (1080+8*(l.getD k 0).toNat) (jn E k) 8:=by
 unfold tj;rw[dU,List.flatMap_append];simp
theorem yX (E:List (ByteArray×Int))(l:List Int)(k:Nat):(tj E l k).length=8*k:=by
 induction k with
 |zero=>rfl
 |succ k ih=>rw[Aq,aC,ih,oY];omega
theorem SI (l:List Nat):zs (l.map λx:Nat=>(x:Int))=dK l:=by simp[zs,dK,Function.comp_def]
theorem jQ (h:cm n):n.E.length<=24/\bp n.E.length<=6/\(n.E.length≠0->n.K=2/\pn n):=by
 have :n.E.length<=24/\(n.E.length≠0->n.K=2/\pn n):=by
  rcases h.2.2 with h|h
  ·have :=h.2.2.1
   exact⟨by omega,λh=>absurd this h⟩
  ·exact⟨h.2.1,λ_=>h⟩
 refine⟨this.1,?_,this.2⟩;unfold bp;omega
theorem uq (h:cm n):zO n:=by
 obtain⟨hF,G,z⟩:=h;refine⟨by omega,?_,by omega,?_⟩
 ·rcases z with z|z
  ·have :=z.1;omega
  ·have :=z.1;omega
 ·rcases z with z|z
  ·have :=z.2.1;omega
  ·have :=z.2.2.1;have :=z.2.1;omega
theorem Ns (h:cm n)(G:∀k,k<n.E.length->(eX n.E k).size<=9223372036854775807):x8 n.E:=by
 have J:=jQ h;refine⟨by omega,G,λk z=> ?_⟩;have :=((J.2.2 (by omega)).2.2.2.2 k z).2.1;omega
theorem vA (h:cm n)(G:n.B.length=13):∀k,0<=n.B.getD k 0/\n.B.getD k 0<256:=by
 intro k;by_cases z:k<13
 ·rcases h.2.2 with h|h
  ·exact(h.2.2.2.2 k z).1
  ·rw[h.2.2.2.1,aj,bj]
   split<;>simp
 ·rw[aj,aP (by omega)]
  simp
theorem vB (h:n.B.length=13)(G:bp n.E.length<=13)(z:bp n.E.length<=own.length):(dX n own).length=13:=by
 simp[dX,h];omega
theorem vC (z:bp n.E.length<=own.length)(k:Nat):(dX n own).getD k 0=if k<bp n.E.length then ((own.getD k 0:Nat):Int) else n.B.getD k 0:=by
 unfold dX;simp only[aj,iA,bZ,aJ,cQ z,bJ,bU,b8];by_cases h:k<bp n.E.length
 ·rw[aB h,aB h,aB h,aD (by omega)]
  rfl
 ·rw[aA h,aA h,show bp n.E.length+(k-bp n.E.length)=k by omega]
theorem CN (h:cm n)(G:n.B.length=13)(J:bp n.E.length<=own.length)(z:∀c∈own,c≠0/\c<256):∀k,0<=(dX n own).getD k 0/\(dX n own).getD k 0<256:=by
 intro k;rw[vC J];split
 ·rename_i hk
  have :=z (own.getD k 0) (by rw[aj,aD (by omega)];exact bG _);omega
 ·exact vA h G k
theorem UG{n W m mc:Nat}{h:List Int}(U:bh w b (zs h).toArray T)(hs:Reads w (.slice a own.length V) W (dK own))(hm:m<=n)(aa:m<=h.length)(ac:m<=own.length):
  ∃v w',(∀ty,(Builtin.copy_ #[141,141] ty #[.slice b n cap,.slice a m mc]).run prog w= .ok v w')/\bh w' b (zs ((own.take m).map (λx:Nat=>(x:Int))++h.drop m)).toArray T/\ay [b] w w':=by
 by_cases h0:m=0
 ·subst h0
  refine⟨_,w,λty=>run_copy_none (P:= prog) w 141 141 ty 3 (some ⟨b,0,none⟩) a n cap 0 mc underlying141 oV (by simp),?_,ay.refl _ _⟩;simpa using U
 ·obtain⟨a',G,hv,r1,r2,r3⟩:=hs
  obtain⟨rfl,rfl⟩:a=a'/\V=G:=by injection hv with h1 h2 h3;exact⟨h1,h3⟩
  obtain⟨hg,off,rfl,r4⟩:=r3 (by intro e;have :=cN List.length e;rw[fk,cC] at this;omega);have J:(dK (own.take m)).length=min m n:=by rw[fk,aJ];omega
  refine⟨_,_,λty=>run_copy_row (P:= prog) w 141 141 ty 3 b 0 n cap ⟨W,off,none⟩ m mc (zs h).toArray T (dK (own.take m)) underlying141 oV U J ?_ ?_ ?_,?_,(ay.refl _ _).setRow (by simp) _⟩
  ·intro j u z
   have hj:j<m:=by
    have :=(List.getElem?_eq_some_iff.1 z).1;rw[J] at this;omega
   rw[nB (by rw[aJ];omega)] at z;rw[add_plain,r4 j (by rw[fk];omega),nB (by omega),<-z];simp[hj]
  ·rw[J,bN,eO];omega
  ·intro u z
   rw[<-SI] at z;exact nC _ u z
  ·have e:((zs h).toArray.toList.take 0++dK (own.take m)++(zs h).toArray.toList.drop (0+(dK (own.take m)).length)).toArray=(zs ((own.take m).map (λx:Nat=>(x:Int))++h.drop m)).toArray:=by
    rw[J,cQ hm,yQ,SI];simp[zs,List.map_drop]
   rw[e];exact kv U
theorem Qz (a:Option Addr)(n cap c:Nat)(J:c<=cap)(w:World):
  (Instr.sliceAt 141 (.slice a n cap) none (some (.int .i64 (c:Int))) none).run prog w= .ok (.slice a c cap) w:=by
 have h: prog.underlying 141 =some (.slice (prog.elem 141)):=by kernel_rfl
 have G: prog.elem 141 = 3 :=by kernel_rfl
 have z:(sizeOf 3).run prog w= .ok 1 w:=by kernel_rfl
 rw[run_sliceAt_slice _ _ _ _ _ _ h,run_slice_h _ _ _ _ _ h .i64 (c:Int) (by omega) (by omega),G,z];cases a with
 |none=>simp[sliced]
 |some x=>cases x;simp[sliced,Addr.add]
theorem UH (b:Nat)(w:World):(Instr.sliceAt 109 (.pointer (some ⟨b,0,none⟩)) none none none).run prog w= .ok (.slice b 13 13) w:=by show Sem.run _ _ _=_;kernel_rfl
theorem adS (z:bh w g (aM n v) T)(h:n.B.length=13):(loadVar 109 ⟨g,4,none⟩).run prog w= .ok (.agg (zs n.B).toArray) w:=
 fA z h λ_ G=>Cx v (by omega)
def od (n:bT) (own:List Nat):List Int:=if n.K=2 then Gr n own else nr n own
def gX (n:bT) (own:List Nat):List (List Int):=if n.K=2 then yb n.E own 4 else kz n
theorem Ar (n:bT):∀k,pH n k=(if 6<(fu n.B).length then 1 else 0)+fN n.E k
 |0=>by rw[pH,fN];rfl
 |k+1=>by rw[pH,fN,Ar n k,dN];omega
theorem UI:fu (List.replicate 13 0)=[]:=by kernel_rfl
theorem vD (h:pn n):eW n=fN n.E 4:=by
 rw[eW,Ar,h.2.2.1,UI];simp
theorem sy (h:qQ n):eW n=if 6<(fu n.B).length then 1 else 0:=by
 have z:n.E=[]:=bo h.2.1;rw[eW,Ar,z];rfl
theorem Nt (n:bT)(own:List Nat):(nr n own).length=8:=by
 have h:=mB n.B 13;have z:(fu n.B).length<=13:=h;unfold nr;split
 ·simp;omega
 ·simp;omega
theorem Bt (n:bT)(own:List Nat):(od n own).length=8:=by
 unfold od;split
 ·rfl
 ·exact Nt n own
theorem UJ (G:cm n):x8 n.E:=by
 rcases G.2.2 with ⟨-,J⟩|⟨-,z⟩
 ·have :=J.2.1
  exact⟨by omega,λk h=>by omega,λk h=>by omega⟩
 ·have U:=z.1
  refine⟨by omega,λk h=> ?_,λk h=> ?_⟩
  ·have :=(oO (z.2.2.2 k h).1).2
   rw[mA] at this;omega
  ·have :=(z.2.2.2 k h).2.1
   omega
theorem SJ (n:bT)(v:Value)(g:Nat)(hB:n.B.length=13)(hR:cm n)(hE:bD w v g n.E)(vo:Value)(go:Nat)(own:List Nat)(hO:Reads w vo go (dK own))(ho:own.length=eW n)(wI:∀c∈own,c<256):
  Calls prog 201 #[aM n v,vo] w (pM w (od n own) (gX n own)):=by
 have ht:=uq hR;obtain⟨V,z⟩:∃V,V=(w.alloc (.cells (aM n v) 111)).alloc (.cells (aY (List.replicate 8 0)).toArray 195):=⟨_,rfl⟩;have W:bh V w.heap.size (aM n v) 111 :=by
  rw[z];exact(bh.new w _ _).alloc _
 have jP:bh V (w.heap.size+1) (aY (List.replicate 8 0)).toArray 195 :=by
  have :=bh.new (w.alloc (.cells (aM n v) 111)) (aY (List.replicate 8 0)).toArray 195;have e:(w.alloc (.cells (aM n v) 111)).heap.size=w.heap.size+1:=by simp
  rw[e,<-z] at this;exact this
 have cJ:ay [] w V:=by
  rw[z];exact((ay.refl [] w).alloc _).alloc _
 have uY:=ar (b9 W hB);have cK:V.cell? ⟨w.heap.size,1,none⟩=some (.int .i64 n.K):=by rw[W.cell];exact(gG v hB).f1
 have ag:=lj;obtain⟨ru,fI,EH⟩:=hh3 z cJ jP;have aa:=Bt n own;have ml:Hid (∀w1 vb gb,ay [] V w1->pL w1 vb gb (gX n own)->w.heap.size<=gb->gb≠w.heap.size+1->∃w2,(storeVar 195 (w.heap.size+1:Nat) (.agg (aY (od n own)).toArray)).run prog w1= .ok () w2/\(loadVar 195 (w.heap.size+1:Nat)).run prog w2= .ok (.agg (aY (od n own)).toArray) w2/\pM w (od n own) (gX n own) (.returned (.tuple #[(aY (od n own)).toArray,vb])) w2):=λw1 vb gb hk hb hg ae=>by
  obtain⟨w2,hS,af,ac⟩:=bH (P:= prog) (ty:= 195) (cs:=aY (od n own)) (by rw[bB,aa];exact jc) (jP.keep hk (by simp)) (by simp[bB,aa]) (fh _);exact⟨w2,hS,fM af aa,vb,gb,rfl,hb.keep ac (by intro _;simp;exact ae),hg,(cJ.trans' hk).trans ac (by intro x hx;rw[au] at hx;omega)⟩
 have ai:w.heap.size+1<V.heap.size:=jP.lt;by_cases hK:n.K=2
 ·have hd:pn n:=(hR.2.2.resolve_left (λh=>by have :=h.1;omega)).2
  have J:od n own=Gr n own:=aB hK;have G:gX n own=yb n.E own 4:=aB hK;have HD:=ar (Qw n v g hB ht (hE.keep cJ (by simp)) (UJ hR) (by have :=hd.1;omega) vo go own (hO.keep cJ (by simp)) (by rw[ho,vD hd]) wI);rw[<-J,<-G] at HD;rw[hK] at cK;rw[z] at cK;clear W jP cJ z hE hO ho hR ht hd J G hK;generalize od n own=RW,gX n own=BW,aM n v=Z,wC:(aY (List.replicate 8 0)).toArray=Z8 at *;go_in;go_wp2_with((with_reducible show wpList _ _ _ (⟨_,.load 111 (.tmp 2),_,_,_,_⟩::_) _ _);rw[<-ru.out];refine gJ rfl 111 (.tmp 2) rfl _ rfl _ uY.out ?_);refine HD.out.mono ?_;rintro e w1 ⟨vb,gb,rfl,hb,hg,U⟩;obtain⟨w2,hS,hL,hM⟩:=ml.out w1 vb gb U hb (by have :=fI.out.size;omega) (by omega);obtain⟨HS,HL,HM⟩:=hh3 hS hL hM;clear hS hL hM hb hg U;go_wp2_with(with_reducible refine gS 195 HS.out ?_);exact aI (eG results201 rfl HL.out rfl) rfl HM.out
 ·have hf:qQ n:=(hR.2.2.resolve_right (λh=>hK h.1)).2
  have J:od n own=nr n own:=aA hK;have G:gX n own=kz n:=aA hK;have HD:Hid (Calls prog 218 #[aM n v,vo] V (pM V (nr n own) (kz n))):=by
   have hn:=sy hf;by_cases h6:(fu n.B).length<=6
   ·exact Gp n v hB ht vo own h6
   ·rw[aB] at hn
    refine Lf n v hB ht vo go own (hO.keep cJ (by simp)) ?_ (by omega) (by omega);exact wI _ (by rw[aj,aD (by omega:0<own.length)];exact bG _)
  rw[<-J,<-G] at HD;rw[z] at cK;have ah:(n.K==2)=false:=by simpa using hK
  clear W jP cJ z hE hO ho hR ht hf J G;generalize od n own=RW,gX n own=BW,n.K=K,aM n v=Z,wC:(aY (List.replicate 8 0)).toArray=Z8 at *;go_in;go_wp2_with((with_reducible show wpList _ _ _ (⟨_,.load 111 (.tmp 2),_,_,_,_⟩::_) _ _);rw[<-ru.out];refine gJ rfl 111 (.tmp 2) rfl _ rfl _ uY.out ?_);refine HD.out.mono ?_;rintro e w1 ⟨vb,gb,rfl,hb,hg,U⟩;obtain⟨w2,hS,hL,hM⟩:=ml.out w1 vb gb U hb (by have :=fI.out.size;omega) (by omega);obtain⟨HS,HL,HM⟩:=hh3 hS hL hM;clear hS hL hM hb hg U;go_wp2_with(with_reducible refine gS 195 HS.out ?_);exact aI (eG results201 rfl HL.out rfl) rfl HM.out
end
end Go.Proofs.YtepbpdipenedhaaGreatDoor
