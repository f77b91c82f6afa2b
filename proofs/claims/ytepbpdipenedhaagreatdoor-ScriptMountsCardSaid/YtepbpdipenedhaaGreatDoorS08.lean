/- Lemmas. -/
import Derived.Test.YtepbpdipenedhaaGreatDoorS07
import Derived.Deep.RegionHeld3
set_option maxHeartbeats 8000000
set_option maxRecDepth 100000
namespace Go.Proofs.YtepbpdipenedhaaGreatDoor
open Go.Proofs.Tryz
variable{W w:World}{n:bN}{own y:List Nat}{T U V b cap g:Nat}{a:Option Addr}{E:List (ByteArray×Int)}{v:Value}{B l:List Int}{ps:List (Int×Int)}
section
variable {P:Program} {ops:Array Oper} {Q:Exit->Act->World->Prop} {md:Region.Mode}
def py (h:Array Bool):List Nat->Array Bool
 | []=>h
 |i::is=>py (h.setIfInBounds i true) is
end
end Go.Proofs.YtepbpdipenedhaaGreatDoor
namespace Go.Proofs.YtepbpdipenedhaaGreatDoor
open Go.Proofs.Tryz
open Go.RowKit
variable{W w:World}{n:bN}{own y:List Nat}{T U V b cap g:Nat}{a:Option Addr}{E:List (ByteArray×Int)}{v:Value}{B l:List Int}{ps:List (Int×Int)}
section
variable {P:Program} {ops:Array Oper} {Q:Exit->Act->World->Prop} {md:Region.Mode} {S:World->Prop}
def Vp (S:World->Prop) (K:Act->World->Prop) (Q:Exit->Act->World->Prop):Exit->Act->World->Prop
 | .normal,a,w=>S w/\K a w
 |e,a,w=>Q e a w
def jU (P:Program) (ops:Array Oper) (Q:Exit->Act->World->Prop) (S:World->Prop):List Oper->Act->World->Prop
 | [],a,w=>Q .normal a w
 |o::rest,a,w=>wpList P ops (Vp S (jU P ops Q S rest) Q) [o] a w
def eA (P:Program) (ops:Array Oper) (S:World->Prop) (E:Act->Prop):List Oper->Act->Prop
 | [],a=>E a
 |o::rest,a=>∃v,YieldsIf P ops S o v a/\eA P ops S E rest (a.put o.dst v)
theorem xq {i:Nat}{o:Oper}{K:Act->World->Prop}{a:Act}{w:World}(U:ops[i]? =some o)(h:wpList P ops (Vp S K Q) [o] a w):wpOp P ops Q i (λa w=>S w/\K a w) a w:=by
 unfold Go.wpOp;simp only[U];unfold wpList at h;split
 ·rename_i hw
  rw[aB hw] at h;rcases h with h|⟨J,G⟩
  ·refine .inl ?_
   unfold Oper.wp at *;generalize (execOp a.eval o).run P w=r at *;cases r with
   |ok n w'=>
    cases n<;>simp only[Oper.upon] at h ⊢
    case value u=>exact h
    case skip=>exact h
    case defer d=>exact h
    case enter f args=>
     refine Calls.mono h λe z y=> ?_
     cases e with
     |returned u=>exact y
     |panicked c=>exact y
     |outgrown=>exact y
    case row row args=>exact Rows.mono h λu z y=>y
   |halt x w'=>
    cases x<;>simp only[Oper.upon] at h ⊢
    case panic u=>exact h
  ·exact .inr ⟨J,G⟩
 ·rename_i hw
  rw[aA hw] at h;exact h
def zI (md:Region.Mode) (ops:Array Oper) (h:Array Bool):List Nat->Bool
 | []=>true
 |i::is=>Region.free md ops h i&&(Region.ready md ops h).contains i&&zI md ops (h.setIfInBounds i true) is
def vh (md:Region.Mode) (ops:Array Oper) (h:Array Bool):List Nat->Bool
 | []=>Region.ready md ops h == []
 |i::is=>(Region.ready md ops h == [i])&&vh md ops (h.setIfInBounds i true) is
theorem zJ:∀(z:List Nat) (tl:List Oper) (y:Array Bool) (a:Act) (w:World),vh md ops y z=true->tl=z.filterMap (λi=>ops[i]?)->tl.length=z.length->jU P ops Q S tl a w->
  wpAnyH P md ops Q S z.length y a w
 | [],tl,y,a,w,hb,hl,_,h=>by
  have :tl=[]:=by rw[hl];rfl
  subst this;exact wpAnyH_done (by simpa[vh] using hb) h 0
 |i::is,tl,y,a,w,hb,hl,hlen,h=>by
  unfold vh at hb;simp only[fR] at hb;have V:Region.ready md ops y=[i]:=by simpa using hb.1
  cases ho:ops[i]? with
  |none=>
   exfalso
   rw[hl,fy,ho] at hlen;have :=List.length_filterMap_le (λi=>ops[i]?) is;simp only[bF] at hlen;omega
  |some o=>
   rw[fy,ho] at hl;subst hl;refine wpAnyH_all V (by simp) λj G=> ?_
   rw[au] at G;subst G;exact wpOp_mono (λU w' J=>⟨J.1,zJ is _ _ U w' hb.2 rfl (by simpa using hlen) J.2⟩) (xq ho h)
theorem xt (G:Region.noSelect ops=true)(V:∀d v c a w,Q (.panic c) (Act.put a d v) w->Q (.panic c) a w)(z:List Nat)(tl:List Oper)(w:World)(U:S w)(J:tl=z.filterMap (λi=>ops[i]?))(W:tl.length=z.length):
  ∀(path:List Nat) (l:List Oper) (y:Array Bool) (a:Act),zI md ops y path=true->vh md ops (py y path) z=true->l=path.filterMap (λi=>ops[i]?)->l.length=path.length->
   eA P ops S (λa=>jU P ops Q S tl a w) l a->wpAnyH P md ops Q S (z.length+path.length) y a w
 | [],l,y,a,_,hb,hl,_,h=>by
  have :l=[]:=by rw[hl];rfl
  subst this;exact zJ z tl y a w hb J W h
 |i::is,l,y,a,ht,hb,hl,hlen,h=>by
  unfold zI at ht;simp only[fR] at ht;cases ho:ops[i]? with
  |none=>
   exfalso
   rw[hl,fy,ho] at hlen;have :=List.length_filterMap_le (λi=>ops[i]?) is;simp only[bF] at hlen;omega
  |some o=>
   rw[fy,ho] at hl;subst hl;obtain⟨v,Z,hr⟩:=h;rw[bF,<-Nat.add_assoc];exact wpAnyH_take ho G ht.1.1 ht.1.2 (V o.dst v) Z U (xt G V z tl w U J W is _ _ _ ht.2 hb rfl (by simpa using hlen) hr)
theorem zK {a:Act}{w:World}(path y:List Nat){l tl:List Oper}(J:Region.noSelect ops=true)(V:zI .any ops (Array.replicate ops.size false) path=true)(W:vh .any ops (py (Array.replicate ops.size false) path) y=true)
  (hl:l=path.filterMap (λi=>ops[i]?)) (G:l.length=path.length) (U:tl=y.filterMap (λi=>ops[i]?)) (Ol:tl.length=y.length) (z:y.length+path.length=ops.size)
  (hQ:∀d v c a w,Q (.panic c) (Act.put a d v) w->Q (.panic c) a w) (Z:S w) (h:eA P ops S (λa=>jU P ops Q S tl a w) l a):wpAny P .any ops Q ops.size (Array.replicate ops.size false) a w:=by
 rw[<-z];refine wpAny_of_held _ _ _ _ (xt J hQ y tl w Z U Ol path l _ a ?_ ?_ hl G h)
 ·rw[z];exact V
 ·rw[z];exact W
theorem Aq {id:Nat}{a:Act}{w:World}(path y:List Nat){l tl:List Oper}(Z:P.follows .mixedOrders=true)(G:Region.noSelect ops=true)(V:zI .any ops (Array.replicate ops.size false) path=true)(W:vh .any ops (py (Array.replicate ops.size false) path) y=true)
  (hl:l=path.filterMap (λi=>ops[i]?)) (z:l.length=path.length) (U:tl=y.filterMap (λi=>ops[i]?)) (Ol:tl.length=y.length) (J:y.length+path.length=ops.size)
  (hQ:∀d v c a w,Q (.panic c) (Act.put a d v) w->Q (.panic c) a w) (hS:S w.drew) (h:eA P ops S (λa=>jU P ops Q S tl a w.drew) l a):(Code.region id ops true).wp P Q a w:=
 wp_region_any Z (zK path y G V W hl z U Ol J hQ hS h)
def xu (ops:Array Oper):Bool:=ops.all λo=>match o.op with | .defer _=>false|_=>true
theorem xw (h:xu ops=true):∀(i:Nat) (o:Oper),ops[i]? =some o->∀c,o.op≠.defer c:=λi o G c e=>by
 unfold xu at h;rw[Array.all_eq_true] at h;obtain⟨y,z⟩:=Array.getElem?_eq_some_iff.1 G;have :=h i y;rw[z] at this;simp only[e] at this;cases this
theorem oh:∀(l:List Oper),(List.range l.length).filterMap (λi=>l[i]?)=l
 | []=>rfl
 |o::l=>by
  rw[bF,List.range_succ_eq_map,fy];simp only[iE];rw[List.filterMap_map]
  congr 1
  exact oh l
theorem pz {f g:Nat->Option Oper}:∀{l:List Nat},(∀i,i∈l->f i=g i)->l.filterMap f=l.filterMap g
 | [],_=>rfl
 |i::l,h=>by
  rw[fy,fy,h i (by simp),pz λj y=>h j (by simp[y])]
theorem tM {l tl:List Oper}(h:ops.toList=l++tl):l=(List.range l.length).filterMap (λi=>ops[i]?)/\tl=((List.range tl.length).map (l.length+·)).filterMap (λi=>ops[i]?):=by
 have y:∀i,ops[i]? =(l++tl)[i]? :=λi=>by rw[<-h,cE]
 constructor
 ·refine(oh l).symm.trans (pz λi z=> ?_)
  rw[y,bg (by simpa using z)]
 ·rw[List.filterMap_map]
  refine(oh tl).symm.trans (pz λi z=> ?_);show _=ops[l.length+i]?;rw[y,aT (by omega),cO]
theorem Cg {a:Act}{w:World}{l tl:List Oper}(z:ops.toList=l++tl)(y:Region.noSelect ops=true)(G:zI .any ops (Array.replicate ops.size false) (List.range l.length)=true)(J:vh .any ops (py (Array.replicate ops.size false) (List.range l.length)) ((List.range tl.length).map (l.length+·))=true)
  (V:∀d v c a w,Q (.panic c) (Act.put a d v) w->Q (.panic c) a w) (U:S w) (h:eA P ops S (λa=>jU P ops Q S tl a w) l a):wpAny P .any ops Q ops.size (Array.replicate ops.size false) a w:=
 zK (List.range l.length) ((List.range tl.length).map (l.length+·)) y G J (tM z).1 (by simp) (tM z).2 (by simp) (by rw[<-cV,z];simp;omega) V U h
theorem tN {Z:Nat}{a:Act}{w:World}{l tl:List Oper}(J:P.follows .mixedOrders=true)(V:ops.toList=l++tl)(y:Region.noSelect ops=true)(z:zI .any ops (Array.replicate ops.size false) (List.range l.length)=true)(G:vh .any ops (py (Array.replicate ops.size false) (List.range l.length)) ((List.range tl.length).map (l.length+·))=true)
  (W:∀d v c a w,Q (.panic c) (Act.put a d v) w->Q (.panic c) a w) (U:S w.drew) (h:eA P ops S (λa=>jU P ops Q S tl a w.drew) l a):(Code.region Z ops true).wp P Q a w:=
 wp_region_any J (Cg V y z G W U h)
theorem qK {n:Nat}{r:Option Nat}{id:Nat}{a:Act}{w:World}{l tl:List Oper}(U:P.follows .mixedOrders=true)(Z:ops.toList=l++tl)(y:Region.noSelect ops=true)(W:¬LetsOut Q)(z:xu ops=true)(G:zI .any ops (Array.replicate ops.size false) (List.range l.length)=true)(J:vh .any ops (py (Array.replicate ops.size false) (List.range l.length)) ((List.range tl.length).map (l.length+·))=true)
  (hQ:∀d v c a w,Q (.panic c) (Act.put a d v) w->Q (.panic c) a w) (V:S w.drew) (h:eA P ops S (λa=>jU P ops Q S tl a w.drew) l a):(Code.region id ops true).wpIn { Fence.wide with round:=r } n P Q a w:=
 tC U W (xw z) (Cg Z y G J hQ V h)
theorem eA.cons{E:Act->Prop}{o:Oper}{rest:List Oper}{a:Act}(v:Value)(h:YieldsIf P ops S o v a)(y:eA P ops S E rest (a.put o.dst v)):eA P ops S E (o::rest) a:=⟨v,h,y⟩
theorem eA.done{E:Act->Prop}{a:Act}(h:E a):eA P ops S E [] a:=h
theorem YieldsIf.val{o:Oper}{v:Value}{a:Act}(y:Region.wanted o (yielded ops a.tmps)=true)(h:∀w,S w->(execOp a.eval o).run P w= .ok (.value v) w):YieldsIf P ops S o v a:= .inl ⟨y,h⟩
theorem YieldsIf.load{o:Oper}{v:Value}{a:Act}(J:Region.wanted o (yielded ops a.tmps)=true)(ty:TypeId)(x:Operand)(U:o.op= .load ty x)(y:Addr)(z:a.eval x= .pointer (some y))(h:∀w,S w->(loadVar ty y).run P w= .ok v w):YieldsIf P ops S o v a:=
 YieldsIf.val J λw G=>by
  unfold execOp;simp only[U,z,Instr.loadAt,Instr.sureAddr,bM,eZ,bX,h w G]
end
end Go.Proofs.YtepbpdipenedhaaGreatDoor
namespace Go.Proofs.YtepbpdipenedhaaGreatDoor
open Go.Proofs.Tryz
open Go.RowKit Go.Shelf
variable{W w:World}{n:bN}{own y:List Nat}{T U V b cap g:Nat}{a:Option Addr}{E:List (ByteArray×Int)}{v:Value}{B l:List Int}{ps:List (Int×Int)}
attribute [local go_sem] iW
theorem Tryz.info_r8:(prog.info? 195).map (λi=>(i.zero,i.size,i.bytes))=some (some (.agg #[.int .u64 0,.int .u64 0,.int .u64 0,.int .u64 0,.int .u64 0,.int .u64 0,.int .u64 0,.int .u64 0]),8,64):=by kernel_rfl
theorem Om (n:Nat)(V:n<=100000)(m:Int)(J:m=(n:Int))(w:World):(Instr.makeSlice 244 (.int .i64 m) (.int .i64 m)).run prog w=
  .ok (.slice (some ⟨w.heap.size,0,none⟩) n n) (w.alloc (.cells (madeCells #[.int .u64 0,.int .u64 0,.int .u64 0,.int .u64 0,.int .u64 0,.int .u64 0,.int .u64 0,.int .u64 0] (n*8)) 195)):=by
 subst J;obtain⟨U,G,h,y,z⟩:=cr Tryz.info_r8;have :=run_make (P:= prog) w 244 195 U _ underlying244 G h .i64 .i64 (n:Int) (n:Int) (by omega) (by omega) (by rw[z];omega) (by omega);rw[y,aJ] at this;exact this
theorem Oo (n:Nat):madeCells #[Value.int .u64 0,.int .u64 0,.int .u64 0,.int .u64 0,.int .u64 0,.int .u64 0,.int .u64 0,.int .u64 0] (n*8)=(aO (List.replicate (8*n) 0)).toArray:=by
 apply Array.toList_inj.1;apply bW;intro j;simp only[madeCells,Array.toList_map,Array.toList_range,bC,aO,List.map_replicate,bb];by_cases h:j<n*8
 ·rw[bV h,aB (by omega)]
  have y:j%8<8:=gi _ (by omega);show some ((#[Value.int .u64 0,.int .u64 0,.int .u64 0,.int .u64 0,.int .u64 0,.int .u64 0,.int .u64 0,.int .u64 0]:Array Value)[j%8]!)=_;generalize j%8=q at *;rcases (show q=0\/q=1\/q=2\/q=3\/q=4\/q=5\/q=6\/q=7 by omega) with rfl|rfl|rfl|rfl|rfl|rfl|rfl|rfl<;>rfl
 ·rw[aP (by simpa using h),aA (by omega)]
  rfl
structure Ch (w5 wx:World) (n:bN) (own:List Nat) (gB wB fB:Nat) (b:Nat) (pre:List Nat):Prop where
 keep:ay [gB,wB,fB] w5 wx
 rows:∃C,yM n.E own b pre C/\bf wx gB (aO C).toArray 195
 row:bf wx wB (aO (og n own b pre.length)).toArray 195
 fill:bf wx fB #[.int .i64 ((eY n.E b+pre.length:Nat):Int)] 3
def Xn (D:Nat):Deferred:={ target:= .collected D,args:= #[] }
theorem kj {P:Program}{n:Nat}{fn:Func}{tmps:Array Value}{R:Ending->World->Prop}:∀(y:List Nat) (W:World),y.Nodup->(∀D∈y,W.heap[D]? =some (.deferred (some [])))->
  (∀z,ay y W z->∃v,(results fn tmps).run P z= .ok v z/\R (.returned v) z)->LeavesInM Fence.wide n P fn tmps R (y.map Xn) .returning W
 | [],W,_,_,h=>h W (ay.refl _ _)
 |D::y,W,hn,hm,h=>by
  have V:=hm D (by simp);have aa:=(Array.getElem?_eq_some_iff.1 V).1;have J:ay [D] W (W.putObj D (.deferred none)):=ay.of_grown (grownBy_putObj' W D _) λk J=> .inl (by cases J;simp)
  refine⟨by simp,.inl ⟨D,_,rfl,run_takeDeferred V,?_⟩⟩;rw[List.nodup_cons] at hn;refine kj y _ hn.2 (λD' G=> ?_) λz U=>h z ?_
  ·have Z:=hm D' (by simp[G])
   refine(World.putObj_heap_other (λe=>hn.1 (by rw[<-e];exact G))).trans Z
  ·exact(J.mono (by simp)).trans' (U.mono λk J _=>iq _ J)
theorem Ch.turn{J A:World}{Z:Nat}(h:Ch J A n own U Z V b y){row:Option Nat}{B:Nat}(G:A.grownBy W row)(z:∀r,row=some r->B<=r/\∃o:Obj,A.heap[r]? =some o/\o.isCells=false)(hB:J.heap.size<=B):Ch J W n own U Z V b y:=by
 obtain⟨h1,⟨C,h2,h3⟩,h4,h5⟩:=h;exact⟨h1.turn G (λr e=>(z r e).1) hB,⟨C,h2,h3.turn G λr e=>(z r e).2⟩,h4.turn G λr e=>(z r e).2,h5.turn G λr e=>(z r e).2⟩
def Oq (E:List (ByteArray×Int)) (h y b p:Nat):Addr:=if p=0 then ⟨y,2+b,none⟩ else ⟨h,8*(eY E b+p-1),none⟩
theorem Ch.link{w5:World}{J fB f:Nat}(h:Ch w5 W n own V J fB b y)(hb:b<4)(G:f=eY n.E b+y.length)(Z:f<own.length)(aa:V≠J):
  ∃z lo C1 ac,Oq n.E V J b y.length=⟨z,lo,none⟩/\(z=V\/z=J)/\W.cell? ⟨z,lo,none⟩=some (.int .u64 ac)/\W.frozen? ⟨z,lo,none⟩=false/\8*f+7<C1.length/\
   (∀x,yM n.E own b (y++[x]) (Cf C1 (8*f+1) (dM (uq (dF n.E b) x))))/\
   bf (W.drew.setCell ⟨z,lo,none⟩ (.int .u64 ((own.getD f 0:Nat):Int))) V (aO C1).toArray 195/\bf (W.drew.setCell ⟨z,lo,none⟩ (.int .u64 ((own.getD f 0:Nat):Int))) J (aO (og n own b (y.length+1))).toArray 195 :=by
 obtain⟨C,hC,QE⟩:=h.rows;by_cases U:y.length=0
 ·refine⟨J,2+b,C,(og n own b y.length).getD (2+b) 0,by rw[Oq,aB U],.inr rfl,by rw[h.row.cell,aC,cG (by rw[tL];omega)],h.row.frozen _,by rw[hC.len];omega,λx=>hC.step x f G Z (by rw[aB U]),QE.drew.other aa _,?_⟩
  have :=h.row.drew.set (2+b) (.int .u64 ((own.getD f 0:Nat):Int));rw[ag,ku] at this;have e:(og n own b y.length).set (2+b) ((own.getD f 0:Nat):Int)=og n own b (y.length+1):=by
   rw[U] at G ⊢;rw[G];exact RY n own b hb
  rw[e] at this;exact this
 ·have hl:8*(eY n.E b+y.length-1)<C.length:=by rw[hC.len];omega
  refine⟨V,8*(eY n.E b+y.length-1),C.set (8*(f-1)) ((own.getD f 0:Nat):Int),C.getD (8*(eY n.E b+y.length-1)) 0,by rw[Oq,aA U],.inl rfl,by rw[QE.cell,aC,cG hl],QE.frozen _,by rw[dW,hC.len];omega,λx=>hC.step x f G Z (by rw[aA U]),?_,?_⟩
  ·have :=QE.drew.set (8*(eY n.E b+y.length-1)) (.int .u64 ((own.getD f 0:Nat):Int))
   rw[ag,ku] at this;rw[G];rw[G] at this;exact this
  ·rw[<-Oi n own b y.length U]
   exact h.row.drew.other (λe=>aa e.symm) _
theorem Ot{len:Nat}{l:List (ByteArray×Int)}(h:br w (.slice a len cap) g l)(x:Nat):br w (WZ a len x) g (uq l x):=by
 obtain⟨a',c',J,h2,h3,h4⟩:=h;cases J;by_cases z:l.length=0
 ·have y:(uq l x).length=0:=by rw[lq,z];omega
  refine⟨?_,?_,?_,?_,?_,λh=>absurd y h⟩
  ·exact match a with | some ⟨g,off,_⟩=>some ⟨g,off+x*3*2,none⟩|none=>none
  ·exact 0
  ·rw[y]
   cases a with
   |none=>rfl
   |some a=>simp[WZ,z]
  ·rw[y];exact aG _
  ·unfold maxLen;omega
 ·obtain⟨hg,off,rfl,G⟩:=h4 z
  refine⟨some ⟨g,off+x*3*2,none⟩,min 3 (l.length-3*x),by rw[lq];rfl,by rw[lq];exact aG _,by unfold maxLen;omega,λ_=>⟨hg,_,rfl,λj U=> ?_⟩⟩;rw[lq] at U;have W:=G (3*x+j) (by omega);have e:l[3*x+j]? =(uq l x)[j]? :=by
   unfold uq;rw[fS (by omega),cg]
  have V:dZ (uq l x) j=dZ l (3*x+j):=by simp only[dZ,aj];rw[e]
  have Z:iC (uq l x) j=iC l (3*x+j):=by simp only[iC,aj];rw[e]
  rw[V,Z,show off+x*3*2+j*2=off+(3*x+j)*2 by omega];exact W
theorem AQ (l:List (ByteArray×Int))(x j:Nat)(h:j<(uq l x).length):3*x+j<l.length/\dZ (uq l x) j=dZ l (3*x+j)/\iC (uq l x) j=iC l (3*x+j):=by
 rw[lq] at h;have e:l[3*x+j]? =(uq l x)[j]? :=by
  unfold uq;rw[fS (by omega),cg]
 exact⟨by omega,by simp only[dZ,aj];rw[e],by simp only[iC,aj];rw[e]⟩
theorem AR{k:Nat}(h:k<(dF E b).length):∃j,j<E.length/\dZ (dF E b) k=dZ E j/\iC (dF E b) k=iC E j:=by
 have z:(dZ (dF E b) k,iC (dF E b) k)∈E:=(List.mem_filter.1 (Rh h)).1;obtain⟨j,y,e⟩:=bU z;have :E.getD j (ByteArray.empty,0)=E[j]:=by simp[y]
 exact⟨j,y,by rw[dZ,dZ,this,e];rfl,by rw[iC,iC,this,e];rfl⟩
theorem YM (h:su E)(b x:Nat):su (uq (dF E b) x):=by
 refine⟨by rw[lq];omega,λk z=> ?_,λk z=> ?_⟩
 ·obtain⟨G,J,U⟩:=AQ _ _ _ z
  obtain⟨j,y,W,V⟩:=AR G;rw[J,W];exact h.size j y
 ·obtain⟨G,J,U⟩:=AQ _ _ _ z
  obtain⟨j,y,W,V⟩:=AR G;rw[U,V];exact h.ino j y
theorem K1 (n:bN)(v:Value)(g:Nat)(hB:n.B.length=13)(ht:uW n)(hE:br w v g n.E)(bZ:su n.E)(cP:n.E.length<=1000)(vo:Value)(go:Nat)(own:List Nat)(hO:Reads w vo go (cM own))(qL:eY n.E 4=own.length)(rI:∀c∈own,c<256):
  Calls prog 217 #[.agg (aU n v),vo] w (mN w (Ce n own) (tK n.E own 4)):=by
 have cR:own.length<=4000:=by
  have U:=jf n.E 0;have V:=jf n.E 1;have h3:=jf n.E 2;have h4:=jf n.E 3;simp only[eY,dN] at qL;omega
 obtain⟨ao,co,rfl,II,dz,Vm⟩:=pq hO;have HH:=ar (AK n v hB ht);obtain⟨W0,az⟩:∃W0,W0=((w.alloc (.cells (aU n v) 111)).alloc (.cells #[.slice ao own.length co] 141)).alloc (.cells (aO (List.replicate 8 0)).toArray 195):=⟨_,rfl⟩;have aJ:bf W0 w.heap.size (aU n v) 111 :=by
  rw[az];exact((bf.new w _ _).alloc _).alloc _
 have aR:bf W0 (w.heap.size+1) #[.slice ao own.length co] 141 :=by
  have :=bf.new (w.alloc (.cells (aU n v) 111)) #[.slice ao own.length co] 141;have e:(w.alloc (.cells (aU n v) 111)).heap.size=w.heap.size+1:=by simp
  rw[e] at this;rw[az];exact this.alloc _
 have KZ:Hid (bf W0 (w.heap.size+2) (aO (List.replicate 8 0)).toArray 195):=by
  have :=bf.new ((w.alloc (.cells (aU n v) 111)).alloc (.cells #[.slice ao own.length co] 141)) (aO (List.replicate 8 0)).toArray 195;have e:((w.alloc (.cells (aU n v) 111)).alloc (.cells #[.slice ao own.length co] 141)).heap.size=w.heap.size+2:=by simp
  rw[e,<-az] at this;exact this
 have gH:Hid (ay [] w W0):=by
  rw[az];exact(((ay.refl [] w).alloc _).alloc _).alloc _
 have vR:=ar (cC aJ hB);have F7:Hid (∀G,ay [] W0 G->G.cell? ⟨w.heap.size,17,none⟩=some v):=λG J=>by rw[(aJ.keep J (by simp)).cell];exact vN _ hB
 have Ou:Hid (∀G,ay [] W0 G->G.cell? ⟨w.heap.size+1,0,none⟩=some (.slice ao own.length co)):=λG J=>by rw[(aR.keep J (by simp)).cell];rfl
 have G7:Hid (∀G,ay [] w G->Calls prog 216 #[v] G (rE G n.E)):=λG J=>EE (hE.keep J (by simp)) (by omega) bZ.size
 have cy:=jx;have nX:=ar az;have nW:=ar aJ;have qD:=ar aR;have Yo:Hid (qE n=og n own 0 0):=(Og n own).symm;have RT:=yF n;generalize qE n=H at *;generalize aU n v=Z at *;clear aJ aR az hB hE hO ht;generalize sP:(aO (List.replicate 8 0)).toArray=Z8 at *;have yb:=ar sP;clear sP;refine(callsIn_wide (n:=3)).1 (callsIn_of_wp_marks func217 rfl trivial (wpIn_wide.2 ?_) rfl);simp only[ntmps217,bH,bF,b9,Nat.reduceAdd,Nat.reduceSub,fk,fo,gG,fx,bT,fL];go_wp2_with((with_reducible show wpList _ _ _ (⟨_,.load 111 (.tmp 2),_,_,_,_⟩::_) _ _);rw[<-nX.out];refine ft rfl 111 (.tmp 2) rfl _ rfl _ vR.out ?_);refine(HH.out _).mono ?_;rintro e w1 ⟨rfl,aL⟩;obtain⟨w2,bB,AP,av⟩:=bo (P:= prog) (ty:= 195) (cs:=aO H) (by rw[aZ,RT];exact il) (bf.new w1 Z8 195) (by rw[<-yb.out];simp[aZ,RT]) (eF _);have po:ay [] W0 w2:=(aL.alloc (.cells Z8 195)).trans av (by intro x hx;rw[au] at hx;have :=aL.size;omega);have bL:=ar bB;have Xj:=ar AP;have fF:=ar po;have c3:=Ou.out w2 po;have dn:w.heap.size+2<w1.heap.size:=bt KZ.out.lt aL.size;have di:w1.heap.size<w2.heap.size:=AP.lt;have ae:=Om own.length (by omega) (own.length:Int) rfl w2;rw[Oo] at ae;obtain⟨W3,ax⟩:∃W3,W3=((w2.alloc (.cells (aO (List.replicate (8*own.length) 0)).toArray 195)).alloc (.cells #[.slice (some ⟨w2.heap.size,0,none⟩) own.length own.length] 244)).alloc (.cells #[.int .i64 0] 3):=⟨_,rfl⟩;have mO:ay [] w2 W3:=by
  rw[ax];exact(((ay.refl [] w2).alloc _).alloc _).alloc _
 have Ar:ay [] W0 W3:=po.trans' mO;have bR:=F7.out W3 Ar;rw[ax] at bR;have cI:=ar (Ou.out W3 Ar);have lV:=ar (gH.out.trans' Ar);have Vq:Hid (bf W3 w2.heap.size (aO (List.replicate (8*own.length) 0)).toArray 195):=by
  rw[ax];exact((bf.new w2 _ _).alloc _).alloc _
 have b8:Hid (bf W3 (w2.heap.size+1) #[.slice (some ⟨w2.heap.size,0,none⟩) own.length own.length] 244):=by
  have :=bf.new (w2.alloc (.cells (aO (List.replicate (8*own.length) 0)).toArray 195)) #[.slice (some ⟨w2.heap.size,0,none⟩) own.length own.length] 244;have e:(w2.alloc (.cells (aO (List.replicate (8*own.length) 0)).toArray 195)).heap.size=w2.heap.size+1:=by simp
  rw[e] at this;rw[ax];exact this.alloc _
 have b6:Hid (bf W3 (w2.heap.size+1+1) #[.int .i64 0] 3):=by
  have :=bf.new ((w2.alloc (.cells (aO (List.replicate (8*own.length) 0)).toArray 195)).alloc (.cells #[.slice (some ⟨w2.heap.size,0,none⟩) own.length own.length] 244)) #[.int .i64 0] 3;have e:((w2.alloc (.cells (aO (List.replicate (8*own.length) 0)).toArray 195)).alloc (.cells #[.slice (some ⟨w2.heap.size,0,none⟩) own.length own.length] 244)).heap.size=w2.heap.size+1+1:=by simp
  rw[e] at this;rw[ax];exact this
 have b7:=ar (AP.keep mO (by simp));have bS:=ar (KZ.out.keep Ar (by simp));have bX:=ar (qD.out.keep Ar (by simp));have aC:=ar ax;clear bB AP av po aL mO Ar HH KZ qD nW vR F7 Ou ax;generalize cE:w1.heap.size=g6 at *;go_wp2_with(first|(with_reducible refine gS 195 bL.out ?_));clear bR c3 ae bL Xj fF cy cE;refine((G7.out _ (aC.out▸lV.out)).mono ?_);rintro e w5 ⟨S,rfl,kr,hS⟩;rw[<-aC.out] at kr;have pk:=ar (lV.out.trans' kr);have zL:Hid (∀b,b<4->∃a cap g,S b= .slice a (dF n.E b).length cap/\(dF n.E b).length<=cap/\cap<=maxLen/\((dF n.E b).length≠0->∃g off,a=some ⟨g,off,none⟩)/\br w5 (.slice a (dF n.E b).length cap) g (dF n.E b)/\W3.heap.size<=g):=λb hb=>by
  obtain⟨g,U,V⟩:=hS b hb;obtain⟨a,cap,h3,h4,h5,h6⟩:=U;refine⟨a,cap,g,h3,h4,h5,λh0=> ?_,h3▸⟨a,cap,h3,h4,h5,h6⟩,by rw[aC.out];exact V⟩;obtain⟨-,off,h7,-⟩:=h6 h0;exact⟨g,off,h7⟩
 have bE:=ar (Vq.out.keep kr (by simp));have bG:=ar (b8.out.keep kr (by simp));have aX:=ar (b6.out.keep kr (by simp));have bK:=ar (b7.out.keep kr (by simp));have cu:=ar (bS.out.keep kr (by simp));have cK:=ar (bX.out.keep kr (by simp));have dw:W3.heap.size<=w5.heap.size:=kr.size;have cV:w2.heap.size+3<=W3.heap.size:=by rw[aC.out];simp
 clear kr hS G7 Vq b8 b6 b7 bS bX cI gH nX aC;generalize w2.heap.size=z at *;have xo:Hid (Ch w5 w5 n own z g6 (z+1+1) 0 []):=⟨ay.refl _ _,⟨_,yM.start n.E own,bE.out⟩,by have :=bK.out;rw[Yo.out] at this;exact this,aX.out⟩;have ba:∀b,b<4->eY n.E b+dN n.E b<=own.length:=λb hb=>by
  have :=qH n.E (show b+1<=4 by omega);rw[eY,qL] at this;exact this
 have cz:=ar ba;clear ba;have Ci:z≠g6:=by omega
 go_wp2_with fail;refine wp_loop (λa G=>∃(k:Nat) (Ds:List Nat) (u9 u10 u11 u22 u23 u24 u25 u26 u27 u28 u29 u51:Value),k<=4/\a={ tmps:= #[.agg Z,.slice ao own.length co,.pointer (some ⟨w.heap.size,0,none⟩),.pointer (some ⟨w.heap.size+1,0,none⟩),.pointer (some ⟨w.heap.size+1+1,0,none⟩),.slice none 0 0,.pointer (some ⟨g6,0,none⟩),.pointer (some ⟨z+1,0,none⟩),.pointer (some ⟨z+1+1,0,none⟩),u9,u10,u11,undef,.agg Z,.agg (aO H).toArray,.slice ao own.length co,.int .i64 (own.length:Int),.slice (some ⟨z,0,none⟩) own.length own.length,.pointer (some ⟨w.heap.size,17,none⟩),v,.agg (mj S),.int .i64 (k:Int),u22,u23,u24,u25,u26,u27,u28,u29,undef,undef,undef,undef,undef,undef,undef,undef,undef,undef,undef,undef,undef,undef,undef,undef,undef,undef,undef,undef,undef,u51,undef,undef],defers:=Ds.map Xn }/\
   Hid (Ch w5 G n own z g6 (z+1+1) k []/\Ds.Nodup/\∀D∈Ds,w5.heap.size<=D/\G.heap[D]? =some (.deferred (some [])))) (λa _=>4-(intOf (a.tmps.getD 21 undef)).toNat) ⟨0,[],_,_,_,_,_,_,_,_,_,_,_,_,by omega,rfl,xo.out,List.nodup_nil,λD hD=>by cases hD⟩ ?_
 rintro a wr ⟨k,Ds,u9,u10,u11,u22,u23,u24,u25,u26,u27,u28,u29,u51,aP,rfl,HP⟩;clear xo;by_cases J:k<4
 ·have cZ:(k:Int)<4:=by omega
  obtain⟨ak,K2,gk,Xg,bC,ae,bh,bQ,bc⟩:=zL.out k J;have Ad:=λw=>vT S J w
  rw[Xg] at Ad;obtain⟨ji,hj,df,zz,cS,dx⟩:∃ji:Int,2+(k:Int)=ji/\wrap64 ji=ji/\0<=ji/\ji<8/\ji.toNat=2+k:=⟨_,rfl,by unfold wrap64;omega,by omega,by omega,by omega⟩;obtain⟨kn,cY,dv,YN⟩:∃kn:Int,(k:Int)+1=kn/\wrap64 kn=kn/\Hid (kn=((k+1:Nat):Int)):=⟨_,rfl,by unfold wrap64;omega,(by show _=_;omega)⟩;have cf:=ar bc;have cn:=ar bQ;have cL:=ar bh;have xx:=ar bC;have Ge:=ar ae;have HK:=ar J;have oN:=ar aP;clear Xg bc bQ bh bC ae J aP;generalize ya:(k:Int)=ki at *;have Xo:=ar ya;clear ya;go_wp2_with fail;refine(Rp _ _ _ _).mono ?_;rintro e wL ⟨rfl,aB⟩;have YO:(wr.alloc (.cells #[.pointer (some ⟨g6,2+k,none⟩)] 280)).heap.size=wr.heap.size+1:=by simp
  have Dp:Hid (bf wL wr.heap.size #[.pointer (some ⟨g6,2+k,none⟩)] 280):=by
   rw[aB];exact((bf.new wr _ _).alloc _).alloc _
  have DB:Hid (bf wL (wr.heap.size+1) #[.slice ak (dF n.E k).length K2] 32):=by
   rw[aB,<-YO];exact(bf.new _ _ _).alloc _
  have Am:Hid (bf wL (wr.heap.size+1+1) #[.int .i64 3] 3):=by
   have :=bf.new ((wr.alloc (.cells #[.pointer (some ⟨g6,2+k,none⟩)] 280)).alloc (.cells #[.slice ak (dF n.E k).length K2] 32)) #[.int .i64 3] 3;have e:((wr.alloc (.cells #[.pointer (some ⟨g6,2+k,none⟩)] 280)).alloc (.cells #[.slice ak (dF n.E k).length K2] 32)).heap.size=wr.heap.size+1+1:=by simp
   rw[e] at this;rw[aB];exact this
  have U3:ay [] wr wL:=by
   rw[aB];exact(((ay.refl [] wr).alloc _).alloc _).alloc _
  have cT:wL.heap.size=wr.heap.size+3:=by rw[aB];simp
  rw[YO];clear aB YO;obtain⟨ac,aD,ae⟩:=HP.out;have bg:Ch w5 wL n own z g6 (z+1+1) k []:=⟨ac.keep.trans' (U3.mono (by simp)),by obtain⟨C,U,V⟩:=ac.rows;exact⟨C,U,V.keep U3 (by simp)⟩,ac.row.keep U3 (by simp),ac.fill.keep U3 (by simp)⟩;have cW:w5.heap.size<=wr.heap.size:=ac.keep.size;have bM:Hid (∀D∈Ds,w5.heap.size<=D/\D<wr.heap.size/\wL.heap[D]? =some (.deferred (some []))):=λD hD=>by
   obtain⟨U,V⟩:=ae D hD;have h3:=(Array.getElem?_eq_some_iff.1 V).1;exact⟨U,h3,(U3.block D h3 (by simp)).trans V⟩
  have cB:=ar bg;have Xb:=ar aD;clear ac bg ae U3 HP aD;generalize wr.heap.size=lB at *;go_wp2_with fail;refine(wpIn_wide (n:=3)).1 ?_;refine wpIn_rangeFunc_ownG (F:=Fence.wide) rfl (by omega) (gf:= 237) (lb:= #[.pointer (some ⟨lB+1,0,none⟩),.pointer (some ⟨lB+1+1,0,none⟩)]) rfl trivial (enters_of func237 (by kernel_rfl) rfl)
   (Ik (3-1) (by omega) ak (dF n.E k).length K2 (cJ (jf _ _) (by omega)) xx.out cL.out (lB+1) (lB+1+1) wL DB.out Am.out)
   (λU V=>⟨V.1.trans U.1,V.2.trans U.2⟩) (λW l o o' U V _ _=>⟨World.putObj_heap_other (by omega),World.putObj_heap_other (by omega)⟩) (Below.refl _ _) (λ_=>rfl)
   (λaf W=>Ch w5 W n own z g6 (z+1+1) k af/\bf W lB #[.pointer (some (Oq n.E z g6 k af.length))] 280/\ay [z,g6,z+1+1,lB] wL W)
   (λ_ _ _=>False)
   (λaf A A' row h hg hr=>⟨h.1.turn hg hr (by omega),h.2.1.turn hg (λr e=>(hr r e).2),h.2.2.turn hg (λr e=>(hr r e).1) (aG _)⟩)
   (λ_ _ _ _ _ h _ _=>h)
   ⟨cB.out,by have :=Dp.out;exact this,ay.refl _ _⟩
   (λx=>{ tmps:= #[.agg Z,.slice ao own.length co,.pointer (some ⟨w.heap.size,0,none⟩),.pointer (some ⟨w.heap.size+1,0,none⟩),.pointer (some ⟨w.heap.size+1+1,0,none⟩),.slice none 0 0,.pointer (some ⟨g6,0,none⟩),.pointer (some ⟨z+1,0,none⟩),.pointer (some ⟨z+1+1,0,none⟩),.int .i64 ki,.slice ak (dF n.E k).length K2,.pointer (some ⟨lB,0,none⟩),WZ ak (dF n.E k).length x,.agg Z,.agg (aO H).toArray,.slice ao own.length co,.int .i64 (own.length:Int),.slice (some ⟨z,0,none⟩) own.length own.length,.pointer (some ⟨w.heap.size,17,none⟩),v,.agg (mj S),.int .i64 ki,.bool true,.int .i64 ki,.slice ak (dF n.E k).length K2,.int .i64 ki,.int .i64 ji,.pointer (some ⟨g6,2+k,none⟩),.slice ak (dF n.E k).length K2,.func (.func 237) #[] #[.pointer (some ⟨lB+1,0,none⟩),.pointer (some ⟨lB+1+1,0,none⟩)],WZ ak (dF n.E k).length x,undef,undef,undef,undef,undef,undef,undef,undef,undef,undef,undef,undef,undef,undef,undef,undef,undef,undef,undef,undef,u51,undef,undef],defers:=[] }) ?assign ?body ?done ?stop
  case assign=>
   intro l x W K hK
   gi_wp2
   exact hK
  case stop=>
   rintro D c af W _ _ h _;exact h.elim
  case done=>
   rintro D ys W hD rfl ⟨DC,Ov,sI⟩ EI;have bJ:(List.range (((dF n.E k).length+2)/3)).length=dN n.E k:=eX;have MN:Ch w5 W n own z g6 (z+1+1) (k+1) []:=by
    obtain⟨U,⟨C,V,h3⟩,h4,h5⟩:=DC;rw[bJ] at h4 h5;exact⟨U,⟨C,V.next,h3⟩,by rw[Oh] at h4;exact h4,h5⟩
   have mJ:Hid (Ch w5 W n own z g6 (z+1+1) (k+1) []/\(D::Ds).Nodup/\∀D'∈D::Ds,w5.heap.size<=D'/\W.heap[D']? =some (.deferred (some []))):=by
    refine⟨MN,List.nodup_cons.2 ⟨λhm=> ?_,Xb.out⟩,λD' cH=> ?_⟩
    ·have :=(bM.out D hm).2.1
     omega
    ·rcases aQ.1 cH with rfl|hm
     ·exact⟨by omega,EI⟩
     ·obtain⟨U,V,h3⟩:=bM.out D' hm
      exact⟨U,(sI.block D' (by omega) (by
       have h4:D'≠z/\D'≠g6/\D'≠z+1+1/\D'≠lB:=by omega
       simp only[aQ,aS,bD];omega)).trans h3⟩
   clear DC Ov sI EI MN bJ;go_wp2_with fail;refine⟨⟨k+1,D::Ds,_,_,_,_,_,_,_,_,_,_,_,_,HK.out,by rw[<-YN.out];rfl,mJ.out⟩,?_⟩;have U:=YN.out;have V:=Xo.out;have h3:=HK.out;simp[intOf];omega
  case body=>
   rintro l af x W ⟨DC,Ov,sI⟩ aH;obtain⟨f,hf⟩:∃f,f=eY n.E k+af.length:=⟨_,rfl⟩;have aM:f<own.length:=by
    have U:=cz.out k HK.out;have V:af.length<dN n.E k:=aH;omega
   obtain⟨lg,lo,C1,cg,FL,cv,bP,bv,bn,bw,Vr,Vs⟩:=DC.link HK.out hf aM Ci;obtain⟨bV,K0,rfl,aV⟩:=Vm.out f aM;rw[FL] at Ov;have R3:own.getD f 0<256:=rI _ (by rw[aj,aF aM];exact bA aM);have IK:=DC.fill;rw[<-hf] at IK;obtain⟨xi,IL,cD⟩:∃xi:Int,((own.getD f 0:Nat):Int)=xi/\IntKind.u64.wrap xi=xi:=⟨_,rfl,by rw[kX (by omega) (by omega)]⟩;obtain⟨fi,aW,dm,dt,cQ,cX⟩:∃fi:Int,((f:Nat):Int)=fi/\0<=fi/\fi<(own.length:Int)/\fi.toNat=f/\wrap64 (fi+1)=fi+1:=⟨_,rfl,by omega,by omega,by omega,by unfold wrap64;omega⟩;rw[IL] at aV Vr Vs;rw[aW] at IK;have bW:Hid (∀G,ay [z,g6] W G->G.cell? ⟨lB,0,none⟩=some (.pointer (some ⟨lg,lo,none⟩))/\G.cell? ⟨w.heap.size+1,0,none⟩=some (.slice (some ⟨go,K0,none⟩) own.length co)/\G.cell? ⟨z+1+1,0,none⟩=some (.int .i64 fi)/\G.cell? ⟨go,K0+f,none⟩=some (.int .i64 xi)):=λG J=>by
    refine⟨by rw[(Ov.keep J (by simp<;>omega)).cell];rfl,by rw[((cK.out.keep DC.keep (by simp<;>omega)).keep J (by simp<;>omega)).cell];rfl,by rw[(IK.keep J (by simp<;>omega)).cell];rfl,?_⟩;have kr:=pk.out;have U:go<w5.heap.size:=bt bV kr.size;have V:go<W.heap.size:=bt U DC.keep.size;refine(aK (a:=⟨go,K0+f,none⟩) ?_).trans aV;show G.heap[go]? =w.heap[go]?;exact((J.block go V (by simp<;>omega)).trans (DC.keep.block go U (by simp<;>omega))).trans (kr.block go bV (by simp))
   have cx:W.drew.cell? ⟨lg,lo,none⟩=some (.int .u64 cg):=bP;have ct:W.drew.frozen? ⟨lg,lo,none⟩=false:=bv;have bj:W.drew.setCell ⟨lg,lo,none⟩ (.int .u64 xi)=(W.setCell ⟨lg,lo,none⟩ (.int .u64 xi)).drew:=rfl;obtain⟨W1,aI⟩:∃W1,W1=(W.setCell ⟨lg,lo,none⟩ (.int .u64 xi)).drew:=⟨_,rfl⟩;rw[bj,<-aI] at Vr Vs;have bI:ay [z,g6] W W1:=by
    rw[aI];exact((ay.refl _ _).setCell (.inl (by rcases cv with h|h<;>simp[h])) _).drew
   have bO:=ar DC;have cO:=ar Ov;have qp:=ar sI;have cp:=ar IK;have bp:=ar Vr;have cw:=ar Vs;have Dz:=ar bI;have aY:=ar aI;have cr:=ar bw;have R4:=ar bn;have HF:=ar hf;have Au:=ar aW;have qz:=ar aH;clear DC Ov sI IK Vr Vs bI aI bj bw bn hf aH FL aV IL aW bP bv R3;refine wpIn_block (wpIn_seq_k λK Xp=> ?_);refine qK (r:=some l) (S:=λG=>ay [z,g6] W G) (l:=[_,_,_,_,_,_]) (tl:=[_,_]) (by kernel_rfl) rfl (by kernel_rfl) (by rintro⟨a,w,h⟩;exact h) (by kernel_rfl) (by kernel_rfl) (by kernel_rfl) (λd _ _ _ _ h=>by cases d<;>exact h) (ay.refl _ _).drew ?_;repeat (refine eA.cons ?_ (YieldsIf.val rfl ?h) ?_;(case h=>(intro G hx;obtain⟨U,V,h3,h4⟩:=bW.out G hx;go_simp;rfl));simp only[Act.put,ag,ah,ai])
   refine eA.done ?_;unfold jU;go_wp2_with fail;refine⟨(ay.refl _ _).drew,?_⟩;unfold jU;go_wp2_with fail;rw[<-aY.out];refine⟨Dz.out,?_⟩;unfold jU;refine Xp _ _ ?_;clear Xp K bW cx ct cD aY bE bK aX
   -- the entries' words
   have aT:=Dz.out;have Vt:ay [z,g6,z+1+1] w5 W1:=bO.out.keep.trans' (Dz.out.mono (by simp<;>omega));have YP:bf W1 (z+1) #[.slice (some ⟨z,0,none⟩) own.length own.length] 244 :=bG.out.keep Vt (by simp<;>omega);have YQ:bf W1 (z+1+1) #[.int .i64 fi] 3 :=cp.out.keep aT (by simp<;>omega);have bz:=cO.out.keep aT (by simp<;>omega);have cj:Hid (∀G,ay [z] W1 G->G.cell? ⟨z+1,0,none⟩=some (.slice (some ⟨z,0,none⟩) own.length own.length)/\G.cell? ⟨z+1+1,0,none⟩=some (.int .i64 fi)):=λG J=>by
    exact⟨by rw[(YP.keep J (by simp<;>omega)).cell];rfl,by rw[(YQ.keep J (by simp<;>omega)).cell];rfl⟩
   have cU:∀G,(Instr.sliceAt 195 (.pointer (some ⟨z,f*8,none⟩)) (some (.int .i64 1)) none none).run prog G= .ok (.slice (some ⟨z,f*8+1,none⟩) 7 7) G:=λG=>by show Sem.run _ _ _=_;kernel_rfl
   have BS:Hid (∀G,ay [] W1 G->Calls prog 212 #[WZ ak (dF n.E k).length x] G (iK G (dM (uq (dF n.E k) x)))):=λG J=>by
    refine uX (E:=uq (dF n.E k) x) (g:=gk) ?_ (YM bZ k x);refine(((Ot cn.out x).keep Vt ?_).keep J (by simp));intro _;have :=cf.out;simp;omega
   have dh:=ar Vt;have cm:=ar YP;have ck:=ar YQ;have cG:=ar bz;clear aT Vt YP YQ bz;refine wpIn_seq_k λK Xp=> ?_
   refine qK (r:=some l) (S:=λG=>ay [z] W1 G) (l:=[_,_,_,_,_]) (tl:=[_,_]) (by kernel_rfl) rfl (by kernel_rfl) (by rintro⟨a,w,h⟩;exact h) (by kernel_rfl) (by kernel_rfl) (by kernel_rfl) (λd _ _ _ _ h=>by cases d<;>exact h) (ay.refl _ _).drew ?_;repeat (refine eA.cons ?_ (YieldsIf.val rfl ?h) ?_;(case h=>(intro G hx;obtain⟨U,V⟩:=cj.out G hx;go_simp;rfl));simp only[Act.put,ag,ah,ai])
   refine eA.done ?_;unfold jU;go_wp2_with fail;refine(BS.out _ (ay.refl _ _).drew).mono ?_;rintro e W2 ⟨va,ga,rfl,G8,sG,bl⟩;have av:ay [] W1 W2:=((ay.refl _ _).drew).trans' bl;obtain⟨aa,ca,rfl,-,-,-⟩:=gy G8;have cA:(dM (uq (dF n.E k) x)).length<=6:=by rw[jr,lq];omega
   obtain⟨vc,Vu,EF,bk,bq⟩:=nj (o:=f*8+1) (n:=7) (cap:=7) (bp.out.keep av (by simp)) G8 (by omega) (by have :=R4.out;omega);have Ui:=ar EF;have fF:Hid (ay [z] W1 W2):=av.mono (by simp);have Ow:Hid (ay [z] W1 Vu):=(av.mono (l':=[z]) (by simp)).trans' bq;have Vq:Hid (bf Vu z (aO (Cf C1 (8*f+1) (dM (uq (dF n.E k) x)))).toArray 195):=by
    rw[Nat.mul_comm 8 f];exact bk
   generalize cd:dM (uq (dF n.E k) x)=ws at *;clear av bl G8 sG EF bk bq cA BS bp;go_wp2_with fail;refine⟨fF.out,?_⟩;unfold jU;go_wp2_with(first|((with_reducible show wpList _ _ _ (⟨some 44,_,_,_,_,_⟩::_) _ _);refine gW rfl (.tmp 41) (.tmp 43) 71 71 rfl _ _ rfl rfl (Ui.out _) ?_));refine⟨Ow.out,?_⟩;unfold jU;refine Xp _ _ ?_;clear Xp K;have Vv:=cG.out.keep Ow.out (by simp<;>omega);have YR:=ck.out.keep Ow.out (by simp<;>omega);have bU:=cm.out.keep Ow.out (by simp<;>omega);have e1:Vu.cell? ⟨z+1,0,none⟩=some (.slice (some ⟨z,0,none⟩) own.length own.length):=by rw[bU.cell];rfl
   have e2:Vu.cell? ⟨z+1+1,0,none⟩=some (.int .i64 fi):=by rw[YR.cell];rfl
   have e3:Vu.cell? ⟨lB,0,none⟩=some (.pointer (some ⟨lg,lo,none⟩)):=by rw[Vv.cell];rfl
   have e4:Vu.frozen? ⟨lB,0,none⟩=false:=Vv.frozen 0;have bY:=Vv.set 0 (.pointer (some ⟨z,f*8,none⟩));have Vw:=YR.other (a:=⟨lB,0,none⟩) (by show z+1+1≠lB;omega) (.pointer (some ⟨z,f*8,none⟩));have e5:(Vu.setCell ⟨lB,0,none⟩ (.pointer (some ⟨z,f*8,none⟩))).cell? ⟨z+1+1,0,none⟩=some (.int .i64 fi):=by rw[Vw.cell];rfl
   have e6:(Vu.setCell ⟨lB,0,none⟩ (.pointer (some ⟨z,f*8,none⟩))).frozen? ⟨z+1+1,0,none⟩=false:=Vw.frozen 0;have cF:=ar bY;have cN:=ar Vw;clear Vv YR bU bY Vw
   gi_wp2
   have IJ:ay [z,g6,z+1+1,lB] W ((Vu.setCell ⟨lB,0,none⟩ (.pointer (some ⟨z,f*8,none⟩))).setCell ⟨z+1+1,0,none⟩ (.int .i64 (fi+1))):=
    (((Dz.out.mono (l':=[z,g6,z+1+1,lB]) (by simp<;>omega)).trans' (Ow.out.mono (by simp<;>omega))).setCell (.inl (by simp)) _).setCell (.inl (by simp)) _
   have dg:wL.heap.size<=W.heap.size:=qp.out.size;have aN:(af++[x]).length=af.length+1:=by simp
   refine⟨KeepsFrom.of_keeps IJ (λj hj Yi=> .inl ?_),⟨IJ.block (lB+1) (by omega) (by simp<;>omega),IJ.block (lB+1+1) (by omega) (by simp<;>omega)⟩,⟨?_,?_,?_,?_⟩,?_,qp.out.trans' IJ⟩
   ·simp only[aQ,aS,bD] at hj
    rcases hj with rfl|rfl|rfl|rfl<;>omega
   ·refine bO.out.keep.trans IJ λy hy=> ?_
    simp only[aQ,aS,bD] at hy ⊢;rcases hy with rfl|rfl|rfl|rfl
    ·exact .inl (.inl rfl)
    ·exact .inl (.inr (.inl rfl))
    ·exact .inl (.inr (.inr rfl))
    ·exact .inr (by omega)
   ·refine⟨_,cr.out x,?_⟩
    rw[cd];exact(Vq.out.other (a:=⟨lB,0,none⟩) (by show z≠lB;omega) _).other (a:=⟨z+1+1,0,none⟩) (by show z≠z+1+1;omega) _
   ·rw[aN]
    exact((cw.out.keep Ow.out (by simp<;>omega)).other (a:=⟨lB,0,none⟩) (by show g6≠lB;omega) _).other (a:=⟨z+1+1,0,none⟩) (by show g6≠z+1+1;omega) _
   ·have :=cN.out.set 0 (.int .i64 (fi+1))
    rw[aN,show((eY n.E k+(af.length+1):Nat):Int)=fi+1 by rw[<-Au.out,HF.out];omega];exact this
   ·have :=cF.out.other (a:=⟨z+1+1,0,none⟩) (by show lB≠z+1+1;omega) (.int .i64 (fi+1))
    have e:Oq n.E z g6 k (af++[x]).length=⟨z,f*8,none⟩:=by
     rw[aN,Oq,aA (by omega),HF.out,show 8*(eY n.E k+(af.length+1)-1)=(eY n.E k+af.length)*8 by omega]
    rw[e];exact this
 ·obtain rfl:k=4:=by omega
  obtain⟨ac,aD,ae⟩:=HP.out;have sB:bf wr.drew (w.heap.size+2) Z8 195 :=(cu.out.keep ac.keep (by simp<;>omega)).drew;have bu:bf wr g6 (aO (og n own 4 0)).toArray 195 :=ac.row;have bb:Hid (∀G,ay [w.heap.size+2] wr G->(loadVar 195 ⟨g6,0,none⟩).run prog G= .ok (.agg (aO (og n own 4 0)).toArray) G/\G.cell? ⟨z+1,0,none⟩=some (.slice (some ⟨z,0,none⟩) own.length own.length)):=λG J=>by
   exact⟨dX (bu.keep J (by simp<;>omega)) (tL _ _ _ _),by rw[((bG.out.keep ac.keep (by simp<;>omega)).keep J (by simp<;>omega)).cell];rfl⟩
  obtain⟨wS,hS,vg,EH⟩:=bo (P:= prog) (ty:= 195) (cs:=aO (og n own 4 0)) (by rw[aZ,tL];exact il) sB (by rw[<-yb.out];simp[aZ,tL]) (eF _);have HS:=ar hS;have qG:Hid (ay [w.heap.size+2] wr wS):=((ay.refl _ _).drew).trans' EH;have mJ:Hid (∀W',ay Ds wS W'->(loadVar 195 ⟨w.heap.size+2,0,none⟩).run prog W'= .ok (.agg (aO (og n own 4 0)).toArray) W'/\mN w (Ce n own) (tK n.E own 4) (.returned (.tuple #[.agg (aO (og n own 4 0)).toArray,.slice (some ⟨z,0,none⟩) own.length own.length])) W'):=λW' J=>by
   have hD:∀q,q<w5.heap.size->q∉Ds:=λq hq hm=>by
    have :=(ae q hm).1;omega
   refine⟨dX (bf.keep vg J (hD _ (by omega))) (tL _ _ _ _),_,z,rfl,?_,by omega,?_⟩
   ·obtain⟨C,U,V⟩:=ac.rows
    exact U.breads qL (aG _) (by unfold maxLen;omega) ((V.keep qG.out (by simp<;>omega)).keep J (hD _ (by omega)))
   ·have U:ay [] w wr:=pk.out.trans ac.keep (by intro q hq;simp at hq;omega)
    have V:ay [] w wS:=U.trans qG.out (by intro q hq;simp at hq;omega);exact V.trans J λq hq=> .inr (by have :=(ae q hq).1;omega)
  have Xb:=ar aD;have Ge:Hid (∀D∈Ds,wS.heap[D]? =some (.deferred (some []))):=λD hD=>by
   obtain⟨U,V⟩:=ae D hD;exact(qG.out.block D (Array.getElem?_eq_some_iff.1 V).1 (by simp<;>omega)).trans V
  clear ac aD ae sB bu hS vg EH HP J aP;go_wp2_with fail;refine wp_region_noPanic ?_;refine tN (S:=λG=>ay [w.heap.size+2] wr G) (l:=[_,_]) (tl:=[_,_]) (by kernel_rfl) rfl (by kernel_rfl) (by kernel_rfl) (by kernel_rfl) (λd _ _ _ _ h=>by cases d<;>exact h) (ay.refl _ _).drew ?_;refine eA.cons _ (YieldsIf.load rfl 195 (.tmp 6) rfl _ rfl λG hx=>(bb.out G hx).1) ?_;simp only[Act.put,ag,ah,ai];refine eA.cons ?_ (YieldsIf.val rfl ?h) ?_;(case h=>(intro G hx;obtain⟨-,U⟩:=bb.out G hx;go_simp;rfl));simp only[Act.put,ag,ah,ai];refine eA.done ?_;unfold jU;go_wp2_with(first|(with_reducible refine gS 195 HS.out ?_));refine⟨qG.out,?_⟩;unfold jU;go_wp2_with fail;refine⟨qG.out,?_⟩;unfold jU;refine NoPanic.normal ?_;go_wp2_with fail;refine kj Ds wS Xb.out Ge.out λW' J=> ?_
  obtain⟨U,V⟩:=mJ.out W' J;exact⟨_,dc results217 rfl U rfl,V⟩
end Go.Proofs.YtepbpdipenedhaaGreatDoor
namespace Go.Proofs.YtepbpdipenedhaaGreatDoor
open Go.Proofs.Tryz
open Go.RowKit
variable{W w:World}{n:bN}{own y:List Nat}{T U V b cap g:Nat}{a:Option Addr}{E:List (ByteArray×Int)}{v:Value}{B l:List Int}{ps:List (Int×Int)}
def gX (w:List Int):bN:=⟨w.getD 0 0%256,w.getD 0 0/256%256,w.getD 0 0/65536%65536,wrap64 (w.getD 1 0),List.replicate 13 0,[]⟩
theorem Ox (x:Nat)(h:x<18446744073709551616):bits .and .u64 (x:Int) 255=((x%256:Nat):Int)/\bits .and .u64 ((x:Int)/256) 255=((x/256%256:Nat):Int)/\bits .and .u64 ((x:Int)/65536) 65535=((x/65536%65536:Nat):Int):=by
 have z:=Nat.div_le_self x 256;have y:=Nat.div_le_self x 65536;refine⟨?_,?_,?_⟩
 ·rw[show(255:Int)=((255:Nat):Int) from rfl,fZ x 255 h (by omega),show x &&& 255=x%2^8 from df x 8]
 ·rw[show(x:Int)/256=((x/256:Nat):Int) by omega,show(255:Int)=((255:Nat):Int) from rfl,fZ (x/256) 255 (by omega) (by omega),show x/256 &&& 255=x/256%2^8 from df _ 8]
 ·rw[show(x:Int)/65536=((x/65536:Nat):Int) by omega,show(65535:Int)=((65535:Nat):Int) from rfl,fZ (x/65536) 65535 (by omega) (by omega),show x/65536 &&& 65535=x/65536%2^16 from df _ 16]
theorem yN (l:List Int)(hl:l.length=8)(h0:0<=l.getD 0 0/\l.getD 0 0<18446744073709551616)(h1:0<=l.getD 1 0/\l.getD 1 0<18446744073709551616)(w:World):
  Calls prog 140 #[.agg (aO l).toArray] w λe w'=>e= .returned (.agg (aU (gX l) (.slice none 0 0)))/\ay [] w w':=by
 have z:=(bf.new w (aO l).toArray 195).alloc (.cells (aU cX (.slice none 0 0)) 111);have U:bf ((w.alloc (.cells (aO l).toArray 195)).alloc (.cells (aU cX (.slice none 0 0)) 111)) (w.heap.size+1) (aU cX (.slice none 0 0)) 111 :=by
  have :=bf.new (w.alloc (.cells (aO l).toArray 195)) (aU cX (.slice none 0 0)) 111;have e:(w.alloc (.cells (aO l).toArray 195)).heap.size=w.heap.size+1:=by simp
  rw[e] at this;exact this
 have c0:((w.alloc (.cells (aO l).toArray 195)).alloc (.cells (aU cX (.slice none 0 0)) 111)).cell? ⟨w.heap.size,0,none⟩=some (.int .u64 (l.getD 0 0)):=by
  rw[z.cell,aC,cG (by omega)]
 have c1:((w.alloc (.cells (aO l).toArray 195)).alloc (.cells (aU cX (.slice none 0 0)) 111)).cell? ⟨w.heap.size,1,none⟩=some (.int .u64 (l.getD 1 0)):=by
  rw[z.cell,aC,cG (by omega)]
 obtain⟨w2,hS,G,V⟩:=bo (P:= prog) (ty:= 111) (cs:=mr (gX l) (.slice none 0 0)) (by rw[fT];exact iH) U rfl (jD rfl);have J:=cC (n:=gX l) (v:= .slice none 0 0) G rfl;have HK:Hid (ay [] w w2):=(((ay.refl [] w).alloc _).alloc _).trans V (by simp);have W:=ar hS;have pd:=ar J;have aa:=fu;clear z U hS J G V;have HT:Hid ((mr (gX l) (.slice none 0 0)).toArray=aU (gX l) (.slice none 0 0)):=rfl;rw[HT.out] at W;obtain⟨x,hx⟩:∃x:Nat,l.getD 0 0=(x:Int):=⟨(l.getD 0 0).toNat,by omega⟩;obtain⟨y,hy⟩:∃y:Nat,l.getD 1 0=(y:Int):=⟨(l.getD 1 0).toNat,by omega⟩;have hI:aU (gX l) (.slice none 0 0)= #[.int .i64 ((x%256:Nat):Int),.int .i64 ((x/256%256:Nat):Int),.int .i64 ((x/65536%65536:Nat):Int),.int .i64 (wrap64 (y:Int)),.int .i64 0,.int .i64 0,.int .i64 0,.int .i64 0,.int .i64 0,.int .i64 0,.int .i64 0,.int .i64 0,.int .i64 0,.int .i64 0,.int .i64 0,.int .i64 0,.int .i64 0,.slice none 0 0]:=by
  unfold gX;rw[hx,hy];rfl
 have h:aU cX (.slice none 0 0)= #[.int .i64 0,.int .i64 0,.int .i64 0,.int .i64 0,.int .i64 0,.int .i64 0,.int .i64 0,.int .i64 0,.int .i64 0,.int .i64 0,.int .i64 0,.int .i64 0,.int .i64 0,.int .i64 0,.int .i64 0,.int .i64 0,.int .i64 0,.slice none 0 0]:=rfl;rw[hI] at W pd HT;rw[hI];rw[h] at W c0 c1;rw[h] at aa;clear HT h;generalize (aO l).toArray=Z at *;rw[hx] at c0 h0;rw[hy] at c1 h1;obtain⟨p1,p2,p3⟩:=Ox x (by omega);clear hx hy;have q1:x%256<256:=gi _ (by decide);have q2:x/256%256<256:=gi _ (by decide);have q3:x/65536%65536<65536:=gi _ (by decide);have ac:Hid (0<=y):=eD y;generalize x%256=a at *;generalize x/256%256=b at *;generalize x/65536%65536=c at *;go_enter func140,ntmps140;go_wp2_with(first|(with_reducible refine gS 111 W.out ?_));exact aL (dJ results140 rfl pd.out) rfl ⟨rfl,HK.out⟩
theorem MO (y:bf w g (aU n v) T)(z:n.B.length=13)(h:l.length=13):
  ∃w',(storeVar 109 ⟨g,4,none⟩ (.agg (zs l).toArray)).run prog w= .ok () w'/\bf w' g (aU { n with B:=l } v) T/\ay [g] w w':=by
 refine⟨_,iL g 4 (zs l) _ (by rw[dG,h];exact jC) y (by rw[aU,bH,fT,dG,z,h];omega) (kD l),?_,(ay.refl _ _).setRow (by simp) _⟩;have e:((aU n v).toList.take 4++zs l++(aU n v).toList.drop (4+(zs l).length)).toArray=aU { n with B:=l } v:=by
  have G:(aU n v).toList.drop (4+(zs l).length)=[v]:=by
   have :(aU n v).toList=[.int .i64 n.F,.int .i64 n.K,.int .i64 n.L,.int .i64 n.S]++(zs n.B++[v]):=rfl;rw[this,<-List.drop_drop,List.drop_left' (by rfl),List.drop_left' (by rw[dG,dG,z,h])]
  rw[G];rfl
 rw[e];exact j6 y
theorem Gf{u:Value}(y:bf w g (aU n v) T)(h:n.B.length=13):bf (w.setCell ⟨g,17,none⟩ u) g (aU { n with E:=E } u) T:=by
 have :=y.set 17 u;have e:(aU n v).setIfInBounds 17 u=aU { n with E:=E } u:=by
  have z:aU n v=(([.int .i64 n.F,.int .i64 n.K,.int .i64 n.L,.int .i64 n.S]:List Value)++(zs n.B++[v])).toArray:=rfl;rw[z,ag,cQ _ _ (by simp),cQ _ _ (by rw[dG,h];simp),dG,h];rfl
 rw[e] at this;exact this
theorem YS (h:∀k,0<=l.getD k 0):cM (l.map Int.toNat)=zs l:=by
 apply dB (by simp[cM,zs]);intro j G z;have y:j<l.length:=by simpa[zs] using z
 have :=h j;rw[aj,aF y,gZ] at this;simp[cM,zs];omega
theorem zM{G:Nat}(h:eT w b G B ps)(y:In64 (az B ps))(n:Nat)(U:(bp (az B ps)).length<n):
  Calls prog 151 #[.pointer (some ⟨b,0,none⟩),.int .i64 (n:Int)] w λe w'=>e= .returned (.tuple #[.slice none 0 0,.int .i64 7])/\w=w':=by
 have z:=ar (Ep h y);generalize (bp (az B ps)).length=f at *;have J:¬(n:Int)<0:=by omega
 have V:(f:Int)<(n:Int):=by omega
 clear h y;go_enter func151,ntmps151;go_wp2_with fail;refine z.out.mono ?_;rintro e w' ⟨rfl,rfl⟩;go_wp2_with fail;go_ret2;exact⟨rfl,rfl⟩
def xy (w:World) (b y:Nat) (B:List Int) (ps:List (Int×Int)) (l:List Nat) (e:Ending) (w':World):Prop:=
 ∃v g,e= .returned (.tuple #[v,.int .i64 0])/\Reads w' v g (cM l)/\w.heap.size<=g/\g<w'.heap.size/\(∃h,(h=y\/(w.heap.size<=h/\h<w'.heap.size))/\h≠g/\eT w' b h B (ps++dE (az B ps) l)/\ay [b,y] w w')
theorem yO (X:List Int)(l:List Nat)(k:Nat)(h:k<l.length):dE X (l.take (k+1))=dE X (l.take k)++(dR (az X (dE X (l.take k))) (l.getD k 0) true++gz (l.getD k 0)):=by
 rw[bz h,H5];simp[h]
theorem EJ{W:Nat}(h:eT w b W B ps)(J:In64 (az B ps))(hT:lC w)(Dn:W<w.heap.size)(ac:ps.length<=900000)(n:Nat)(hn:n<=(bp (az B ps)).length):
  Calls prog 151 #[.pointer (some ⟨b,0,none⟩),.int .i64 (n:Int)] w (xy w b W B ps ((bp (az B ps)).take n)):=by
 have HF:=ar (Ep h J);have aC:=yu (az B ps);have Vx:=ar (Bw h J hT n (by omega));have AH:Hid (∀c∈(bp (az B ps)).take n,c≠0/\c<256):=λc G=>by
  have :=ka.1 (bQ G);exact⟨this.2.1,this.1⟩
 have y:Hid (((bp (az B ps)).take n).length=n):=by show _=_;rw[aI,cA hn]
 have HS:=ar h;have sD:=ar J;have ak:Hid ((az B ps).length=3128):=h.raw.lx;have aH:=h.raw.lt;have Af:=ar ac;generalize (bp (az B ps)).take n=l at *;generalize (bp (az B ps)).length=f at *;clear h J hT ac;have h0:¬(n:Int)<0:=by omega
 have h1:¬(f:Int)<(n:Int):=by omega
 go_enter func151,ntmps151;go_wp2_with fail;refine HF.out.mono ?_;rintro e w' ⟨rfl,rfl⟩;go_wp2_with fail;refine Vx.out.mono ?_;rintro e w1 ⟨v,g,rfl,hr,ax,aK,V⟩;clear HF Vx h1 h0;have ah:=hr;obtain⟨a,cap,rfl,q1,q2,-⟩:=ah;rw[gD,y.out] at hr ⊢;rw[gD,y.out] at q1;have HR:=ar hr;have jl:=ar V;have hz:=V.size;clear hr V;unfold maxLen at q2;go_wp2_with fail;go_loopg [20] n (λgh s20 wx=>∃k:Nat,k+gh=n/\s20= .int .i64 (k:Int)/\Hid (Onto w1 b W B (ps++dE (az B ps) (l.take k)) wx))
 case atStart=>exact⟨0,by omega,rfl,by show Onto _ _ _ _ _ _;rw[eI,show dE (az B ps) []=[] from rfl,bq];exact Onto.refl (HS.out.keep jl.out (by simp) (by simp))⟩
 case round=>
  obtain⟨k,hk,rfl,HQ⟩:=hrel;have Ci:∀x,x∈[b,W]->g≠x:=by
   intro x hx;simp only[aQ,aS,bD] at hx;omega
  obtain⟨mf,p1,p2,Z⟩:=HQ.out;have Ud:=ar (HR.out.keep Z (λhm=>Ci g hm rfl));have aL:=Z.size;cases gk with
  |zero=>
   obtain rfl:k=n:=by omega
   have HM:Hid (xy w b W B ps l (.returned (.tuple #[.slice a k cap,.int .i64 0])) wr):=by
    rw[aW (by rw[y.out];omega)] at p2;exact⟨_,g,rfl,Ud.out,ax,by omega,mf,by omega,by omega,p2,(jl.out.mono (by simp)).trans Z λx hx=> .inl hx⟩
   have aA:¬(k:Int)<(k:Int):=by omega
   clear p1 p2 Z Ci hk;go_wp2_with fail;go_ret2;exact HM.out
  |succ gg=>
   have ay:k<n:=by omega
   have aA:(k:Int)<(n:Int):=by omega
   have eo:(0:Int)<=(k:Int):=by omega
   have z:k<l.length:=by rw[y.out];exact ay
   have G:=AH.out (l.getD k 0) (by rw[aj,aF z];exact bA _);have af:=mD (l.take k) (az B ps) sD.out ak.out λc G=>AH.out c (bQ G)
   have U:=o8 (l.take k) (az B ps) λc G=>AH.out c (bQ G)
   have ag:(l.take k).length<=255:=by rw[aI];omega
   have Yp:=ar (yO (az B ps) l k z);obtain⟨a',aB,ai,r1,r2,r3⟩:=Ud.out;cases ai;obtain⟨aG,off,rfl,r4⟩:=r3 (by intro e;have :=b8 List.length e;rw[gD,b9] at this;omega);have av:=(r4 k (by rw[gD];exact z)).trans (nL z);generalize l.getD k 0=c at *;have R5:Hid (Calls prog 142 #[.pointer (some ⟨b,0,none⟩),.int .i64 (c:Int),.bool true] wr (iY wr b mf B ((ps++dE (az B ps) (l.take k))++dR (az (az B ps) (dE (az B ps) (l.take k))) c true))):=by
    have :=Ia p2 (by rw[bJ];exact af.1) (by rw[aD,U];have :=Af.out;omega) (c:Int) true;rw[bJ,aJ] at this;exact this
   have ae:∀(w':World) (ib:Nat),eT w' b ib B ((ps++dE (az B ps) (l.take k))++dR (az (az B ps) (dE (az B ps) (l.take k))) c true)->Hid (Calls prog 177 #[.pointer (some ⟨b,0,none⟩),.int .i64 (c:Int)] w' (iY w' b ib B (ps++dE (az B ps) (l.take (k+1))))):=by
    intro w' ib au;have :=KC au (by rw[aD,aD,U,Em _ c G.1 G.2];have :=Af.out;omega) c G.2;rw[Yp.out];show Calls _ _ _ _ _;simpa only[ba] using this
   have P1:=ar p1;have P3:=ar Z;have aa:=ar ae;clear p1 p2 Z Ci G af U ag r1 r2 r3 r4 z Ud HQ ae;go_wp2_with fail;refine R5.out.mono ?_;rintro e w2 ⟨rfl,xe,s1,s2,s3⟩;have HE:=(aa.out w2 xe s2);have S1:=ar s1;have S3:=ar s3;clear s1 s2 s3 aa R5;go_wp2_with fail;refine HE.out.mono ?_;rintro e w3 ⟨rfl,t1⟩;have HO:Hid (Onto w1 b W B (ps++dE (az B ps) (l.take (k+1))) w3):=Onto.trans P1.out P3.out (Onto.trans S1.out S3.out t1);clear t1;go_wp2_with fail;go_roundg gg;case measure=>omega
   case rel=>exact⟨k+1,by omega,by go_num,HO⟩
def fA (i:Int):Int:=if i<0\/32<=i then -1 else 824+i*8
theorem ju (i:Int)(w:World):Calls prog 137 #[.int .i64 i] w λe w'=>e= .returned (.int .i64 (fA i))/\w=w':=by
 rcases (show i<0\/32<=i\/(0<=i/\i<32) by omega) with h|h|⟨G,z⟩
 ·rw[fA,aB (.inl h)]
  go_enter func137,ntmps137;go_wp2;go_ret;exact⟨rfl,rfl⟩
 ·rw[fA,aB (.inr h)]
  have y:¬i<0:=by omega
  go_enter func137,ntmps137;go_wp2;go_ret;exact⟨rfl,rfl⟩
 ·rw[fA,aA (by omega)]
  go_enter func137,ntmps137;go_wp2;go_ret;exact⟨rfl,rfl⟩
def dv (n:bN) (own:List Nat):List Int:=(own.take (aY n.E.length)).map (λx:Nat=>(x:Int))++n.B.drop (aY n.E.length)
def eG (n:bN) (own:List Nat):Nat:=if aY n.E.length<own.length then own.getD (aY n.E.length) 0 else 0
def pA (E:List (ByteArray×Int)) (l:List Int) (k:Nat):List (Int×Int):=(List.range k).flatMap λj=>jz (1080+8*(l.getD j 0).toNat) (gI E j) 8
def nv (n:bN) (own:List Nat):List (Int×Int):=if aY n.E.length<own.length then jz (1080+8*eG n own) ((dv n own).drop 5) 8 else []
def rJ (i:Nat) (n:bN) (own:List Nat):List (Int×Int):=
 pA n.E (dv n own) (aY n.E.length)++(nv n own++jz (824+8*i) (fV n (dv n own) (eG n own)) 8)
def mP (X:List Int) (i:Nat) (n:bN) (own:List Nat):List (Int×Int):=dE X own++rJ i n own
theorem vW (E:List (ByteArray×Int))(l:List Int)(k:Nat):pA E l (k+1)=pA E l k++jz (1080+8*(l.getD k 0).toNat) (gI E k) 8:=by
 unfold pA;rw[dI,List.flatMap_append];simp
theorem uw (E:List (ByteArray×Int))(l:List Int)(k:Nat):(pA E l k).length=8*k:=by
 induction k with
 |zero=>rfl
 |succ k ih=>rw[vW,aD,ih,np];omega
theorem MP (l:List Nat):zs (l.map λx:Nat=>(x:Int))=cM l:=by simp[zs,cM,Function.comp_def]
theorem iZ (h:bR n):n.E.length<=24/\aY n.E.length<=6/\(n.E.length≠0->n.K=2/\mz n):=by
 have :n.E.length<=24/\(n.E.length≠0->n.K=2/\mz n):=by
  rcases h.2.2 with h|h
  ·have :=h.2.2.1
   exact⟨by omega,λh=>absurd this h⟩
  ·exact⟨h.2.1,λ_=>h⟩
 refine⟨this.1,?_,this.2⟩;unfold aY;omega
theorem qa (h:bR n):uW n:=by
 obtain⟨hF,z,y⟩:=h;refine⟨by omega,?_,by omega,?_⟩
 ·rcases y with y|y
  ·have :=y.1;omega
  ·have :=y.1;omega
 ·rcases y with y|y
  ·have :=y.2.1;omega
  ·have :=y.2.2.1;have :=y.2.1;omega
theorem IM (h:bR n)(G:∀k,k<n.E.length->(dZ n.E k).size<=9223372036854775807):su n.E:=by
 have y:=iZ h;refine⟨by omega,G,λk z=> ?_⟩;have :=((y.2.2 (by omega)).2.2.2.2 k z).2.1;omega
theorem uy (h:bR n)(z:n.B.length=13):∀k,0<=n.B.getD k 0/\n.B.getD k 0<256:=by
 intro k;by_cases y:k<13
 ·rcases h.2.2 with h|h
  ·exact(h.2.2.2.2 k y).1
  ·rw[h.2.2.2.1,aj,bb]
   split<;>simp
 ·rw[aj,aP (by omega)]
  simp
theorem qM (h:n.B.length=13)(y:aY n.E.length<=13)(z:aY n.E.length<=own.length):(dv n own).length=13:=by
 simp[dv,h];omega
theorem qN (y:aY n.E.length<=own.length)(k:Nat):(dv n own).getD k 0=if k<aY n.E.length then ((own.getD k 0:Nat):Int) else n.B.getD k 0:=by
 unfold dv;simp only[aj,gj,bG,aI,cA y,bC,cy,cg];by_cases h:k<aY n.E.length
 ·rw[aB h,aB h,aB h,aF (by omega)]
  rfl
 ·rw[aA h,aA h,show aY n.E.length+(k-aY n.E.length)=k by omega]
theorem yP (h:bR n)(y:n.B.length=13)(G:aY n.E.length<=own.length)(z:∀c∈own,c≠0/\c<256):∀k,0<=(dv n own).getD k 0/\(dv n own).getD k 0<256:=by
 intro k;rw[qN G];split
 ·rename_i hk
  have :=z (own.getD k 0) (by rw[aj,aF (by omega)];exact bA _);omega
 ·exact uy h y k
theorem Oy{n m mc:Nat}{h:List Int}(J:bf w b (zs h).toArray T)(hs:Reads w (.slice a own.length V) U (cM own))(hm:m<=n)(W:m<=h.length)(aa:m<=own.length):
  ∃v w',(∀ty,(Builtin.copy_ #[141,141] ty #[.slice (some ⟨b,0,none⟩) n cap,.slice a m mc]).run prog w= .ok v w')/\bf w' b (zs ((own.take m).map (λx:Nat=>(x:Int))++h.drop m)).toArray T/\ay [b] w w':=by
 by_cases h0:m=0
 ·subst h0
  refine⟨_,w,λty=>run_copy_none (P:= prog) w 141 141 ty 3 (some ⟨b,0,none⟩) a n cap 0 mc underlying141 mg (by simp),?_,ay.refl _ _⟩;simpa using J
 ·obtain⟨a',z,Z,r1,r2,r3⟩:=hs
  obtain⟨rfl,rfl⟩:a=a'/\V=z:=by injection Z with h1 h2 h3;exact⟨h1,h3⟩
  obtain⟨hg,off,rfl,r4⟩:=r3 (by intro e;have :=b8 List.length e;rw[gD,b9] at this;omega);have G:(cM (own.take m)).length=min m n:=by rw[gD,aI];omega
  refine⟨_,_,λty=>run_copy_row (P:= prog) w 141 141 ty 3 b 0 n cap ⟨U,off,none⟩ m mc (zs h).toArray T (cM (own.take m)) underlying141 mg J G ?_ ?_ ?_,?_,(ay.refl _ _).setRow (by simp) _⟩
  ·intro j u y
   have hj:j<m:=by
    have :=(List.getElem?_eq_some_iff.1 y).1;rw[G] at this;omega
   rw[nL (by rw[aI];omega)] at y;rw[add_plain,r4 j (by rw[gD];omega),nL (by omega),<-y];simp[hj]
  ·rw[G,bH,dG];omega
  ·intro u y
   rw[<-MP] at y;exact kD _ u y
  ·have e:((zs h).toArray.toList.take 0++cM (own.take m)++(zs h).toArray.toList.drop (0+(cM (own.take m)).length)).toArray=(zs ((own.take m).map (λx:Nat=>(x:Int))++h.drop m)).toArray:=by
    rw[G,cA hm,yA,MP];simp[zs,List.map_drop]
   rw[e];exact j6 J
theorem K3 (a:Option Addr)(n cap c:Nat)(G:c<=cap)(w:World):
  (Instr.sliceAt 141 (.slice a n cap) none (some (.int .i64 (c:Int))) none).run prog w= .ok (.slice a c cap) w:=by
 have h: prog.underlying 141 =some (.slice (prog.elem 141)):=by kernel_rfl
 have y: prog.elem 141 = 3 :=by kernel_rfl
 have z:(sizeOf 3).run prog w= .ok 1 w:=by kernel_rfl
 rw[run_sliceAt_slice _ _ _ _ _ _ h,run_slice_h _ _ _ _ _ h .i64 (c:Int) (by omega) (by omega),y,z];cases a with
 |none=>simp[sliced]
 |some x=>cases x;simp[sliced,Addr.add]
theorem Oz (b:Nat)(w:World):(Instr.sliceAt 109 (.pointer (some ⟨b,0,none⟩)) none none none).run prog w= .ok (.slice (some ⟨b,0,none⟩) 13 13) w:=by show Sem.run _ _ _=_;kernel_rfl
theorem YT (h:bf w g (aU n v) T)(y:n.B.length=13):(loadVar 109 ⟨g,4,none⟩).run prog w= .ok (.agg (zs n.B).toArray) w:=
 eN h y λ_ z=>yB v (by omega)
end Go.Proofs.YtepbpdipenedhaaGreatDoor
