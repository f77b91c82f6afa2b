/- Lemmas. -/
import Derived.Test.YtcecbdeamjigiaaGreatDoorH07
import Derived.Deep.RegionHeld3
set_option maxHeartbeats 8000000
set_option maxRecDepth 100000
namespace Go.Proofs.YtcecbdeamjigiaaGreatDoor
variable{W w:World}{n:bM}{own y:List Nat}{T U V b cap g:Nat}{a:Option Addr}{E:List (ByteArray×Int)}{v:Value}{B l:List Int}{ps:List (Int×Int)}
section
variable {P:Program} {ops:Array Oper} {Q:Exit->Act->World->Prop} {md:Region.Mode}
def oK (h:Array Bool):List Nat->Array Bool
 | []=>h
 |i::is=>oK (h.setIfInBounds i true) is
end
end Go.Proofs.YtcecbdeamjigiaaGreatDoor
namespace Go.Proofs.YtcecbdeamjigiaaGreatDoor
open Go.RowKit
variable{W w:World}{n:bM}{own y:List Nat}{T U V b cap g:Nat}{a:Option Addr}{E:List (ByteArray×Int)}{v:Value}{B l:List Int}{ps:List (Int×Int)}
section
variable {P:Program} {ops:Array Oper} {Q:Exit->Act->World->Prop} {md:Region.Mode} {S:World->Prop}
def VK (S:World->Prop) (K:Act->World->Prop) (Q:Exit->Act->World->Prop):Exit->Act->World->Prop
 | .normal,a,w=>S w/\K a w
 |e,a,w=>Q e a w
def jC (P:Program) (ops:Array Oper) (Q:Exit->Act->World->Prop) (S:World->Prop):List Oper->Act->World->Prop
 | [],a,w=>Q .normal a w
 |o::rest,a,w=>wpList P ops (VK S (jC P ops Q S rest) Q) [o] a w
def ep (P:Program) (ops:Array Oper) (S:World->Prop) (E:Act->Prop):List Oper->Act->Prop
 | [],a=>E a
 |o::rest,a=>∃v,YieldsIf P ops S o v a/\ep P ops S E rest (a.put o.dst v)
theorem wW {i:Nat}{o:Oper}{K:Act->World->Prop}{a:Act}{w:World}(U:ops[i]? =some o)(h:wpList P ops (VK S K Q) [o] a w):wpOp P ops Q i (λa w=>S w/\K a w) a w:=by
 unfold Go.wpOp;simp only[U];unfold wpList at h;split
 ·rename_i hw
  rw[aB hw] at h;rcases h with h|⟨J,G⟩
  ·refine .inl ?_
   unfold Oper.wp at *;generalize (execOp a.eval o).run P w=r at *;cases r with
   |ok n w'=>
    cases n<;>simp only[Oper.upon] at h ⊢
    case value u=>exact h
    case skip=>exact h
    case defer d=>exact h
    case enter f args=>
     refine Calls.mono h λe z y=> ?_
     cases e with
     |returned u=>exact y
     |panicked c=>exact y
     |outgrown=>exact y
    case row row args=>exact Rows.mono h λu z y=>y
   |halt x w'=>
    cases x<;>simp only[Oper.upon] at h ⊢
    case panic u=>exact h
  ·exact .inr ⟨J,G⟩
 ·rename_i hw
  rw[aA hw] at h;exact h
def zw (md:Region.Mode) (ops:Array Oper) (h:Array Bool):List Nat->Bool
 | []=>true
 |i::is=>Region.free md ops h i&&(Region.ready md ops h).contains i&&zw md ops (h.setIfInBounds i true) is
def uL (md:Region.Mode) (ops:Array Oper) (h:Array Bool):List Nat->Bool
 | []=>Region.ready md ops h == []
 |i::is=>(Region.ready md ops h == [i])&&uL md ops (h.setIfInBounds i true) is
theorem zx:∀(z:List Nat) (tl:List Oper) (y:Array Bool) (a:Act) (w:World),uL md ops y z=true->tl=z.filterMap (λi=>ops[i]?)->tl.length=z.length->jC P ops Q S tl a w->
  wpAnyH P md ops Q S z.length y a w
 | [],tl,y,a,w,hb,hl,_,h=>by
  have :tl=[]:=by rw[hl];rfl
  subst this;exact wpAnyH_done (by simpa[uL] using hb) h 0
 |i::is,tl,y,a,w,hb,hl,hlen,h=>by
  unfold uL at hb;simp only[fy] at hb;have V:Region.ready md ops y=[i]:=by simpa using hb.1
  cases ho:ops[i]? with
  |none=>
   exfalso
   rw[hl,eY,ho] at hlen;have :=List.length_filterMap_le (λi=>ops[i]?) is;simp only[bH] at hlen;omega
  |some o=>
   rw[eY,ho] at hl;subst hl;refine wpAnyH_all V (by simp) λj J=> ?_
   rw[au] at J;subst J;exact wpOp_mono (λU w' G=>⟨G.1,zx is _ _ U w' hb.2 rfl (by simpa using hlen) G.2⟩) (wW ho h)
theorem wX (W:Region.noSelect ops=true)(U:∀d v c a w,Q (.panic c) (Act.put a d v) w->Q (.panic c) a w)(z:List Nat)(tl:List Oper)(w:World)(V:S w)(J:tl=z.filterMap (λi=>ops[i]?))(Z:tl.length=z.length):
  ∀(G:List Nat) (l:List Oper) (y:Array Bool) (a:Act),zw md ops y G=true->uL md ops (oK y G) z=true->l=G.filterMap (λi=>ops[i]?)->l.length=G.length->
   ep P ops S (λa=>jC P ops Q S tl a w) l a->wpAnyH P md ops Q S (z.length+G.length) y a w
 | [],l,y,a,_,hb,hl,_,h=>by
  have :l=[]:=by rw[hl];rfl
  subst this;exact zx z tl y a w hb J Z h
 |i::is,l,y,a,ht,hb,hl,hlen,h=>by
  unfold zw at ht;simp only[fy] at ht;cases ho:ops[i]? with
  |none=>
   exfalso
   rw[hl,eY,ho] at hlen;have :=List.length_filterMap_le (λi=>ops[i]?) is;simp only[bH] at hlen;omega
  |some o=>
   rw[eY,ho] at hl;subst hl;obtain⟨v,hv,hr⟩:=h;rw[bH,<-Nat.add_assoc];exact wpAnyH_take ho W ht.1.1 ht.1.2 (U o.dst v) hv V (wX W U z tl w V J Z is _ _ _ ht.2 hb rfl (by simpa using hlen) hr)
theorem zy {a:Act}{w:World}(y z:List Nat){l tl:List Oper}(Z:Region.noSelect ops=true)(ht:zw .any ops (Array.replicate ops.size false) y=true)(U:uL .any ops (oK (Array.replicate ops.size false) y) z=true)
  (hl:l=y.filterMap (λi=>ops[i]?)) (lR:l.length=y.length) (J:tl=z.filterMap (λi=>ops[i]?)) (Oj:tl.length=z.length) (G:z.length+y.length=ops.size)
  (V:∀d v c a w,Q (.panic c) (Act.put a d v) w->Q (.panic c) a w) (W:S w) (h:ep P ops S (λa=>jC P ops Q S tl a w) l a):wpAny P .any ops Q ops.size (Array.replicate ops.size false) a w:=by
 rw[<-G];refine wpAny_of_held _ _ _ _ (wX Z V z tl w W J Oj y l _ a ?_ ?_ hl lR h)
 ·rw[G];exact ht
 ·rw[G];exact U
theorem Ai {id:Nat}{a:Act}{w:World}(y z:List Nat){l tl:List Oper}(hm:P.follows .mixedOrders=true)(Z:Region.noSelect ops=true)(ht:zw .any ops (Array.replicate ops.size false) y=true)(U:uL .any ops (oK (Array.replicate ops.size false) y) z=true)
  (hl:l=y.filterMap (λi=>ops[i]?)) (lR:l.length=y.length) (J:tl=z.filterMap (λi=>ops[i]?)) (Oj:tl.length=z.length) (G:z.length+y.length=ops.size)
  (V:∀d v c a w,Q (.panic c) (Act.put a d v) w->Q (.panic c) a w) (W:S w.drew) (h:ep P ops S (λa=>jC P ops Q S tl a w.drew) l a):(Code.region id ops true).wp P Q a w:=
 wp_region_any hm (zy y z Z ht U hl lR J Oj G V W h)
def wY (ops:Array Oper):Bool:=ops.all λo=>match o.op with | .defer _=>false|_=>true
theorem wZ (h:wY ops=true):∀(i:Nat) (o:Oper),ops[i]? =some o->∀c,o.op≠.defer c:=λi o z c e=>by
 unfold wY at h;rw[Array.all_eq_true] at h;obtain⟨y,G⟩:=Array.getElem?_eq_some_iff.1 z;have :=h i y;rw[G] at this;simp only[e] at this;cases this
theorem nD:∀(l:List Oper),(List.range l.length).filterMap (λi=>l[i]?)=l
 | []=>rfl
 |o::l=>by
  rw[bH,List.range_succ_eq_map,eY];simp only[List.getElem?_cons_zero];rw[List.filterMap_map]
  congr 1
  exact nD l
theorem oL {f g:Nat->Option Oper}:∀{l:List Nat},(∀i,i∈l->f i=g i)->l.filterMap f=l.filterMap g
 | [],_=>rfl
 |i::l,h=>by
  rw[eY,eY,h i (by simp),oL λj y=>h j (by simp[y])]
theorem tB {l tl:List Oper}(h:ops.toList=l++tl):l=(List.range l.length).filterMap (λi=>ops[i]?)/\tl=((List.range tl.length).map (l.length+·)).filterMap (λi=>ops[i]?):=by
 have y:∀i,ops[i]? =(l++tl)[i]? :=λi=>by rw[<-h,dz]
 constructor
 ·refine(nD l).symm.trans (oL λi z=> ?_)
  rw[y,aW (by simpa using z)]
 ·rw[List.filterMap_map]
  refine(nD tl).symm.trans (oL λi z=> ?_);show _=ops[l.length+i]?;rw[y,aM (by omega),cX]
theorem BZ {a:Act}{w:World}{l tl:List Oper}(y:ops.toList=l++tl)(U:Region.noSelect ops=true)(V:zw .any ops (Array.replicate ops.size false) (List.range l.length)=true)(z:uL .any ops (oK (Array.replicate ops.size false) (List.range l.length)) ((List.range tl.length).map (l.length+·))=true)
  (G:∀d v c a w,Q (.panic c) (Act.put a d v) w->Q (.panic c) a w) (J:S w) (h:ep P ops S (λa=>jC P ops Q S tl a w) l a):wpAny P .any ops Q ops.size (Array.replicate ops.size false) a w:=
 zy (List.range l.length) ((List.range tl.length).map (l.length+·)) U V z (tB y).1 (by simp) (tB y).2 (by simp) (by rw[<-df,y];simp;omega) G J h
theorem tC {G:Nat}{a:Act}{w:World}{l tl:List Oper}(W:P.follows .mixedOrders=true)(Z:ops.toList=l++tl)(U:Region.noSelect ops=true)(V:zw .any ops (Array.replicate ops.size false) (List.range l.length)=true)(y:uL .any ops (oK (Array.replicate ops.size false) (List.range l.length)) ((List.range tl.length).map (l.length+·))=true)
  (z:∀d v c a w,Q (.panic c) (Act.put a d v) w->Q (.panic c) a w) (J:S w.drew) (h:ep P ops S (λa=>jC P ops Q S tl a w.drew) l a):(Code.region G ops true).wp P Q a w:=
 wp_region_any W (BZ Z U V y z J h)
theorem ql {n:Nat}{r:Option Nat}{J:Nat}{a:Act}{w:World}{l tl:List Oper}(Z:P.follows .mixedOrders=true)(nA:ops.toList=l++tl)(V:Region.noSelect ops=true)(hq:¬LetsOut Q)(y:wY ops=true)(W:zw .any ops (Array.replicate ops.size false) (List.range l.length)=true)(z:uL .any ops (oK (Array.replicate ops.size false) (List.range l.length)) ((List.range tl.length).map (l.length+·))=true)
  (G:∀d v c a w,Q (.panic c) (Act.put a d v) w->Q (.panic c) a w) (U:S w.drew) (h:ep P ops S (λa=>jC P ops Q S tl a w.drew) l a):(Code.region J ops true).wpIn { Fence.wide with round:=r } n P Q a w:=
 sX Z hq (wZ y) (BZ nA V W z G U h)
theorem ep.cons{E:Act->Prop}{o:Oper}{rest:List Oper}{a:Act}(v:Value)(h:YieldsIf P ops S o v a)(y:ep P ops S E rest (a.put o.dst v)):ep P ops S E (o::rest) a:=⟨v,h,y⟩
theorem ep.done{E:Act->Prop}{a:Act}(h:E a):ep P ops S E [] a:=h
theorem YieldsIf.val{o:Oper}{v:Value}{a:Act}(y:Region.wanted o (yielded ops a.tmps)=true)(h:∀w,S w->(execOp a.eval o).run P w= .ok (.value v) w):YieldsIf P ops S o v a:= .inl ⟨y,h⟩
theorem YieldsIf.load{o:Oper}{v:Value}{a:Act}(z:Region.wanted o (yielded ops a.tmps)=true)(ty:TypeId)(x:Operand)(U:o.op= .load ty x)(y:Addr)(J:a.eval x= .pointer (some y))(h:∀w,S w->(loadVar ty y).run P w= .ok v w):YieldsIf P ops S o v a:=
 YieldsIf.val z λw G=>by
  unfold execOp;simp only[U,J,Instr.loadAt,Instr.sureAddr,bV,eM,b9,h w G]
end
end Go.Proofs.YtcecbdeamjigiaaGreatDoor
namespace Go.Proofs.YtcecbdeamjigiaaGreatDoor
open Go.RowKit Go.Shelf
variable{W w:World}{n:bM}{own y:List Nat}{T U V b cap g:Nat}{a:Option Addr}{E:List (ByteArray×Int)}{v:Value}{B l:List Int}{ps:List (Int×Int)}
attribute [local go_sem] Oper.semAt_some
theorem Tryz.info_r8:(Tryz.prog.info? 188).map (λi=>(i.zero,i.size,i.bytes))=some (some (.agg #[.int .u64 0,.int .u64 0,.int .u64 0,.int .u64 0,.int .u64 0,.int .u64 0,.int .u64 0,.int .u64 0]),8,64):=by kernel_rfl
theorem Ol (n:Nat)(V:n<=100000)(m:Int)(J:m=(n:Int))(w:World):(Instr.makeSlice 237 (.int .i64 m) (.int .i64 m)).run Tryz.prog w=
  .ok (.slice (some ⟨w.heap.size,0,none⟩) n n) (w.alloc (.cells (madeCells #[.int .u64 0,.int .u64 0,.int .u64 0,.int .u64 0,.int .u64 0,.int .u64 0,.int .u64 0,.int .u64 0] (n*8)) 188)):=by
 subst J;obtain⟨U,G,z,y,h⟩:=cJ Tryz.info_r8;have :=run_make (P:= Tryz.prog) w 237 188 U _ Tryz.underlying237 G z .i64 .i64 (n:Int) (n:Int) (by omega) (by omega) (by rw[h];omega) (by omega);rw[y,aH] at this;exact this
theorem Om (n:Nat):madeCells #[Value.int .u64 0,.int .u64 0,.int .u64 0,.int .u64 0,.int .u64 0,.int .u64 0,.int .u64 0,.int .u64 0] (n*8)=(aR (List.replicate (8*n) 0)).toArray:=by
 apply Array.toList_inj.1;apply b8;intro j;simp only[madeCells,Array.toList_map,Array.toList_range,bD,aR,je,aY];by_cases h:j<n*8
 ·rw[b7 h,aB (by omega)]
  have y:j%8<8:=fJ _ (by omega);show some ((#[Value.int .u64 0,.int .u64 0,.int .u64 0,.int .u64 0,.int .u64 0,.int .u64 0,.int .u64 0,.int .u64 0]:Array Value)[j%8]!)=_;generalize j%8=q at *;rcases (show q=0\/q=1\/q=2\/q=3\/q=4\/q=5\/q=6\/q=7 by omega) with rfl|rfl|rfl|rfl|rfl|rfl|rfl|rfl<;>rfl
 ·rw[aO (by simpa using h),aA (by omega)]
  rfl
structure B0 (w5 wx:World) (n:bM) (own:List Nat) (gB wB fB:Nat) (b:Nat) (pre:List Nat):Prop where
 keep:ay [gB,wB,fB] w5 wx
 rows:∃C,yq n.E own b pre C/\bm wx gB (aR C).toArray 188
 row:bm wx wB (aR (nC n own b pre.length)).toArray 188
 fill:bm wx fB #[.int .i64 ((eL n.E b+pre.length:Nat):Int)] 3
def XP (D:Nat):Deferred:={ target:= .collected D,args:= #[] }
theorem jN {P:Program}{n:Nat}{U:Func}{tmps:Array Value}{R:Ending->World->Prop}:∀(y:List Nat) (W:World),y.Nodup->(∀D∈y,W.heap[D]? =some (.deferred (some [])))->
  (∀z,ay y W z->∃v,(results U tmps).run P z= .ok v z/\R (.returned v) z)->LeavesInM Fence.wide n P U tmps R (y.map XP) .returning W
 | [],W,_,_,h=>h W (ay.refl _ _)
 |D::y,W,hn,hm,h=>by
  have J:=hm D (by simp);have aa:=(Array.getElem?_eq_some_iff.1 J).1;have G:ay [D] W (W.putObj D (.deferred none)):=ay.of_grown (grownBy_putObj' W D _) λk G=> .inl (by cases G;simp)
  refine⟨by simp,.inl ⟨D,_,rfl,run_takeDeferred J,?_⟩⟩;rw[List.nodup_cons] at hn;refine jN y _ hn.2 (λD' V=> ?_) λz Z=>h z ?_
  ·have h2:=hm D' (by simp[V])
   refine(World.putObj_heap_other (λe=>hn.1 (by rw[<-e];exact V))).trans h2
  ·exact(G.mono (by simp)).trans' (Z.mono λk G _=>gJ _ G)
theorem B0.turn{J A:World}{Z:Nat}(h:B0 J A n own Z U V b y){row:Option Nat}{B:Nat}(G:A.grownBy W row)(z:∀r,row=some r->B<=r/\∃o:Obj,A.heap[r]? =some o/\o.isCells=false)(hB:J.heap.size<=B):B0 J W n own Z U V b y:=by
 obtain⟨h1,⟨C,h2,h3⟩,h4,h5⟩:=h;exact⟨h1.turn G (λr e=>(z r e).1) hB,⟨C,h2,h3.turn G λr e=>(z r e).2⟩,h4.turn G λr e=>(z r e).2,h5.turn G λr e=>(z r e).2⟩
def Oo (E:List (ByteArray×Int)) (h y b p:Nat):Addr:=if p=0 then ⟨y,2+b,none⟩ else ⟨h,8*(eL E b+p-1),none⟩
theorem B0.link{w5:World}{G fB f:Nat}(h:B0 w5 W n own U G fB b y)(hb:b<4)(V:f=eL n.E b+y.length)(QH:f<own.length)(aa:U≠G):
  ∃z Z C1 ac,Oo n.E U G b y.length=⟨z,Z,none⟩/\(z=U\/z=G)/\W.cell? ⟨z,Z,none⟩=some (.int .u64 ac)/\W.frozen? ⟨z,Z,none⟩=false/\8*f+7<C1.length/\
   (∀x,yq n.E own b (y++[x]) (BX C1 (8*f+1) (dR (tZ (dA n.E b) x))))/\
   bm (W.drew.setCell ⟨z,Z,none⟩ (.int .u64 ((own.getD f 0:Nat):Int))) U (aR C1).toArray 188/\bm (W.drew.setCell ⟨z,Z,none⟩ (.int .u64 ((own.getD f 0:Nat):Int))) G (aR (nC n own b (y.length+1))).toArray 188 :=by
 obtain⟨C,hC,QJ⟩:=h.rows;by_cases J:y.length=0
 ·refine⟨G,2+b,C,(nC n own b y.length).getD (2+b) 0,by rw[Oo,aB J],.inr rfl,by rw[h.row.cell,aC,cC (by rw[tA];omega)],h.row.frozen _,by rw[hC.len];omega,λx=>hC.step x f V QH (by rw[aB J]),QJ.drew.other aa _,?_⟩
  have :=h.row.drew.set (2+b) (.int .u64 ((own.getD f 0:Nat):Int));rw[ag,jw] at this;have e:(nC n own b y.length).set (2+b) ((own.getD f 0:Nat):Int)=nC n own b (y.length+1):=by
   rw[J] at V ⊢;rw[V];exact Sg n own b hb
  rw[e] at this;exact this
 ·have hl:8*(eL n.E b+y.length-1)<C.length:=by rw[hC.len];omega
  refine⟨U,8*(eL n.E b+y.length-1),C.set (8*(f-1)) ((own.getD f 0:Nat):Int),C.getD (8*(eL n.E b+y.length-1)) 0,by rw[Oo,aA J],.inl rfl,by rw[QJ.cell,aC,cC hl],QJ.frozen _,by rw[cG,hC.len];omega,λx=>hC.step x f V QH (by rw[aA J]),?_,?_⟩
  ·have :=QJ.drew.set (8*(eL n.E b+y.length-1)) (.int .u64 ((own.getD f 0:Nat):Int))
   rw[ag,jw] at this;rw[V];rw[V] at this;exact this
  ·rw[<-Oh n own b y.length J]
   exact h.row.drew.other (λe=>aa e.symm) _
theorem Oq{len:Nat}{l:List (ByteArray×Int)}(h:bz w (.slice a len cap) g l)(x:Nat):bz w (Xt a len x) g (tZ l x):=by
 obtain⟨a',c',V,h2,h3,Z⟩:=h;cases V;by_cases y:l.length=0
 ·have G:(tZ l x).length=0:=by rw[kF,y];omega
  refine⟨?_,?_,?_,?_,?_,λh=>absurd G h⟩
  ·exact match a with | some ⟨g,off,_⟩=>some ⟨g,off+x*3*2,none⟩|none=>none
  ·exact 0
  ·rw[G]
   cases a with
   |none=>rfl
   |some a=>simp[Xt,y]
  ·rw[G];exact aG _
  ·unfold maxLen;omega
 ·obtain⟨hg,off,rfl,z⟩:=Z y
  refine⟨some ⟨g,off+x*3*2,none⟩,min 3 (l.length-3*x),by rw[kF];rfl,by rw[kF];exact aG _,by unfold maxLen;omega,λ_=>⟨hg,_,rfl,λj hj=> ?_⟩⟩;rw[kF] at hj;have J:=z (3*x+j) (by omega);have e:l[3*x+j]? =(tZ l x)[j]? :=by
   unfold tZ;rw[fA (by omega),bX]
  have U:eh (tZ l x) j=eh l (3*x+j):=by simp only[eh,aj];rw[e]
  have W:gT (tZ l x) j=gT l (3*x+j):=by simp only[gT,aj];rw[e]
  rw[U,W,show off+x*3*2+j*2=off+(3*x+j)*2 by omega];exact J
theorem AG (l:List (ByteArray×Int))(x j:Nat)(h:j<(tZ l x).length):3*x+j<l.length/\eh (tZ l x) j=eh l (3*x+j)/\gT (tZ l x) j=gT l (3*x+j):=by
 rw[kF] at h;have e:l[3*x+j]? =(tZ l x)[j]? :=by
  unfold tZ;rw[fA (by omega),bX]
 exact⟨by omega,by simp only[eh,aj];rw[e],by simp only[gT,aj];rw[e]⟩
theorem AH{k:Nat}(h:k<(dA E b).length):∃j,j<E.length/\eh (dA E b) k=eh E j/\gT (dA E b) k=gT E j:=by
 have z:(eh (dA E b) k,gT (dA E b) k)∈E:=(List.mem_filter.1 (Ru h)).1;obtain⟨j,y,e⟩:=bR z;have :E.getD j (ByteArray.empty,0)=E[j]:=by simp[y]
 exact⟨j,y,by rw[eh,eh,this,e];rfl,by rw[gT,gT,this,e];rfl⟩
theorem Zi (h:rR E)(b x:Nat):rR (tZ (dA E b) x):=by
 refine⟨by rw[kF];omega,λk z=> ?_,λk z=> ?_⟩
 ·obtain⟨y,U,W⟩:=AG _ _ _ z
  obtain⟨j,G,V,J⟩:=AH y;rw[U,V];exact h.size j G
 ·obtain⟨y,U,W⟩:=AG _ _ _ z
  obtain⟨j,G,V,J⟩:=AH y;rw[W,J];exact h.ino j G
theorem KY (n:bM)(v:Value)(g:Nat)(hB:n.B.length=13)(ht:uG n)(hE:bz w v g n.E)(aT:rR n.E)(cm:n.E.length<=1000)(vo:Value)(go:Nat)(own:List Nat)(hO:Reads w vo go (cW own))(qm:eL n.E 4=own.length)(rq:∀c∈own,c<256):
  Calls Tryz.prog 214 #[.agg (aU n v),vo] w (l8 w (BV n own) (tz n.E own 4)):=by
 have nM:own.length<=4000:=by
  have U:=iI n.E 0;have V:=iI n.E 1;have h3:=iI n.E 2;have h4:=iI n.E 3;simp only[eL,dN] at qm;omega
 obtain⟨ao,co,rfl,Ir,cF,VH⟩:=oJ hO;have HH:=ar (AA n v hB ht);obtain⟨W0,aq⟩:∃W0,W0=((w.alloc (.cells (aU n v) 110)).alloc (.cells #[.slice ao own.length co] 134)).alloc (.cells (aR (List.replicate 8 0)).toArray 188):=⟨_,rfl⟩;have aw:bm W0 w.heap.size (aU n v) 110 :=by
  rw[aq];exact((bm.new w _ _).alloc _).alloc _
 have aC:bm W0 (w.heap.size+1) #[.slice ao own.length co] 134 :=by
  have :=bm.new (w.alloc (.cells (aU n v) 110)) #[.slice ao own.length co] 134;have e:(w.alloc (.cells (aU n v) 110)).heap.size=w.heap.size+1:=by simp
  rw[e] at this;rw[aq];exact this.alloc _
 have KW:Hid (bm W0 (w.heap.size+2) (aR (List.replicate 8 0)).toArray 188):=by
  have :=bm.new ((w.alloc (.cells (aU n v) 110)).alloc (.cells #[.slice ao own.length co] 134)) (aR (List.replicate 8 0)).toArray 188;have e:((w.alloc (.cells (aU n v) 110)).alloc (.cells #[.slice ao own.length co] 134)).heap.size=w.heap.size+2:=by simp
  rw[e,<-aq] at this;exact this
 have fS:Hid (ay [] w W0):=by
  rw[aq];exact(((ay.refl [] w).alloc _).alloc _).alloc _
 have vv:=ar (cH aw hB);have FR:Hid (∀G,ay [] W0 G->G.cell? ⟨w.heap.size,17,none⟩=some v):=λG J=>by rw[(aw.keep J (by simp)).cell];exact vk _ hB
 have Ot:Hid (∀G,ay [] W0 G->G.cell? ⟨w.heap.size+1,0,none⟩=some (.slice ao own.length co)):=λG J=>by rw[(aC.keep J (by simp)).cell];rfl
 have GP:Hid (∀G,ay [] w G->Calls Tryz.prog 213 #[v] G (ri G n.E)):=λG J=>Ew (hE.keep J (by simp)) (by omega) aT.size
 have p8:=jd;have nv:=ar aq;have nu:=ar aw;have qa:=ar aC;have YU:Hid (qc n=nC n own 0 0):=(Oe n own).symm;have Sb:=yf n;generalize qc n=H at *;generalize aU n v=Z at *;clear aw aC aq hB hE hO ht;generalize sG:(aR (List.replicate 8 0)).toArray=Z8 at *;have xH:=ar sG;clear sG;refine(callsIn_wide (n:=3)).1 (callsIn_of_wp_marks Tryz.func214 rfl trivial (wpIn_wide.2 ?_) rfl);simp only[Tryz.ntmps214,bU,bH,cp,Nat.reduceAdd,Nat.reduceSub,Array.replicate_succ,Array.replicate_zero,List.push_toArray,List.append_toArray,bW,List.cons_append];go_wp2_with((with_reducible show wpList _ _ _ (⟨_,.load 110 (.tmp 2),_,_,_,_⟩::_) _ _);rw[<-nv.out];refine eU rfl 110 (.tmp 2) rfl _ rfl _ vv.out ?_);refine(HH.out _).mono ?_;rintro e w1 ⟨rfl,dc⟩;obtain⟨w2,aW,AE,af⟩:=br (P:= Tryz.prog) (ty:= 188) (cs:=aR H) (by rw[bc,Sb];exact gH) (bm.new w1 Z8 188) (by rw[<-xH.out];simp[bc,Sb]) (eu _);have mY:ay [] W0 w2:=(dc.alloc (.cells Z8 188)).trans af (by intro x hx;rw[au] at hx;have :=dc.size;omega);have bE:=ar aW;have XJ:=ar AE;have fj:=ar mY;have c3:=Ot.out w2 mY;have cz:w.heap.size+2<w1.heap.size:=bC KW.out.lt dc.size;have cr:w1.heap.size<w2.heap.size:=AE.lt;have rO:=Ol own.length (by omega) (own.length:Int) rfl w2;rw[Om] at rO;obtain⟨W3,ae⟩:∃W3,W3=((w2.alloc (.cells (aR (List.replicate (8*own.length) 0)).toArray 188)).alloc (.cells #[.slice (some ⟨w2.heap.size,0,none⟩) own.length own.length] 237)).alloc (.cells #[.int .i64 0] 3):=⟨_,rfl⟩;have pF:ay [] w2 W3:=by
  rw[ae];exact(((ay.refl [] w2).alloc _).alloc _).alloc _
 have yr:ay [] W0 W3:=mY.trans' pF;have bI:=FR.out W3 yr;rw[ae] at bI;have bZ:=ar (Ot.out W3 yr);have lS:=ar (fS.out.trans' yr);have VL:Hid (bm W3 w2.heap.size (aR (List.replicate (8*own.length) 0)).toArray 188):=by
  rw[ae];exact((bm.new w2 _ _).alloc _).alloc _
 have bs:Hid (bm W3 (w2.heap.size+1) #[.slice (some ⟨w2.heap.size,0,none⟩) own.length own.length] 237):=by
  have :=bm.new (w2.alloc (.cells (aR (List.replicate (8*own.length) 0)).toArray 188)) #[.slice (some ⟨w2.heap.size,0,none⟩) own.length own.length] 237;have e:(w2.alloc (.cells (aR (List.replicate (8*own.length) 0)).toArray 188)).heap.size=w2.heap.size+1:=by simp
  rw[e] at this;rw[ae];exact this.alloc _
 have bf:Hid (bm W3 (w2.heap.size+1+1) #[.int .i64 0] 3):=by
  have :=bm.new ((w2.alloc (.cells (aR (List.replicate (8*own.length) 0)).toArray 188)).alloc (.cells #[.slice (some ⟨w2.heap.size,0,none⟩) own.length own.length] 237)) #[.int .i64 0] 3;have e:((w2.alloc (.cells (aR (List.replicate (8*own.length) 0)).toArray 188)).alloc (.cells #[.slice (some ⟨w2.heap.size,0,none⟩) own.length own.length] 237)).heap.size=w2.heap.size+1+1:=by simp
  rw[e] at this;rw[ae];exact this
 have ba:=ar (AE.keep pF (by simp));have aY:=ar (KW.out.keep yr (by simp));have bb:=ar (qa.out.keep yr (by simp));have av:=ar ae;clear aW AE af mY dc pF yr HH KW qa nu vv FR Ot ae;generalize bQ:w1.heap.size=g6 at *;go_wp2_with(first|(with_reducible refine gS 188 bE.out ?_));clear bI c3 rO bE XJ fj p8 bQ;refine((GP.out _ (av.out▸lS.out)).mono ?_);rintro e w5 ⟨S,rfl,jG,hS⟩;rw[<-av.out] at jG;have oH:=ar (lS.out.trans' jG);have zz:Hid (∀b,b<4->∃a cap g,S b= .slice a (dA n.E b).length cap/\(dA n.E b).length<=cap/\cap<=maxLen/\((dA n.E b).length≠0->∃g off,a=some ⟨g,off,none⟩)/\bz w5 (.slice a (dA n.E b).length cap) g (dA n.E b)/\W3.heap.size<=g):=λb hb=>by
  obtain⟨g,U,V⟩:=hS b hb;obtain⟨a,cap,h3,h4,h5,h6⟩:=U;refine⟨a,cap,g,h3,h4,h5,λh0=> ?_,h3▸⟨a,cap,h3,h4,h5,h6⟩,by rw[av.out];exact V⟩;obtain⟨-,off,h7,-⟩:=h6 h0;exact⟨g,off,h7⟩
 have a8:=ar (VL.out.keep jG (by simp));have bF:=ar (bs.out.keep jG (by simp));have bu:=ar (bf.out.keep jG (by simp));have aI:=ar (ba.out.keep jG (by simp));have bJ:=ar (aY.out.keep jG (by simp));have cf:=ar (bb.out.keep jG (by simp));have cA:W3.heap.size<=w5.heap.size:=jG.size;have cv:w2.heap.size+3<=W3.heap.size:=by rw[av.out];simp
 clear jG hS GP VL bs bf ba aY bb bZ fS nv av;generalize w2.heap.size=z at *;have wU:Hid (B0 w5 w5 n own z g6 (z+1+1) 0 []):=⟨ay.refl _ _,⟨_,yq.start n.E own,a8.out⟩,by have :=aI.out;rw[YU.out] at this;exact this,bu.out⟩;have bt:∀b,b<4->eL n.E b+dN n.E b<=own.length:=λb hb=>by
  have :=qg n.E (show b+1<=4 by omega);rw[eL,qm] at this;exact this
 have Zj:=ar bt;clear bt;have B1:z≠g6:=by omega
 go_wp2_with fail;refine wp_loop (λa G=>∃(k:Nat) (Ds:List Nat) (u9 u10 u11 u22 u23 u24 u25 u26 u27 u28 u29 u51:Value),k<=4/\a={ tmps:= #[.agg Z,.slice ao own.length co,.pointer (some ⟨w.heap.size,0,none⟩),.pointer (some ⟨w.heap.size+1,0,none⟩),.pointer (some ⟨w.heap.size+1+1,0,none⟩),.slice none 0 0,.pointer (some ⟨g6,0,none⟩),.pointer (some ⟨z+1,0,none⟩),.pointer (some ⟨z+1+1,0,none⟩),u9,u10,u11,undef,.agg Z,.agg (aR H).toArray,.slice ao own.length co,.int .i64 (own.length:Int),.slice (some ⟨z,0,none⟩) own.length own.length,.pointer (some ⟨w.heap.size,17,none⟩),v,.agg (lD S),.int .i64 (k:Int),u22,u23,u24,u25,u26,u27,u28,u29,undef,undef,undef,undef,undef,undef,undef,undef,undef,undef,undef,undef,undef,undef,undef,undef,undef,undef,undef,undef,undef,u51,undef,undef],defers:=Ds.map XP }/\
   Hid (B0 w5 G n own z g6 (z+1+1) k []/\Ds.Nodup/\∀D∈Ds,w5.heap.size<=D/\G.heap[D]? =some (.deferred (some [])))) (λa _=>4-(intOf (a.tmps.getD 21 undef)).toNat) ⟨0,[],_,_,_,_,_,_,_,_,_,_,_,_,by omega,rfl,wU.out,List.nodup_nil,λD hD=>by cases hD⟩ ?_
 rintro a wr ⟨k,Ds,u9,u10,u11,u22,u23,u24,u25,u26,u27,u28,u29,u51,az,rfl,HP⟩;clear wU;by_cases J:k<4
 ·have cn:(k:Int)<4:=by omega
  obtain⟨ak,KZ,gk,XG,a6,rO,bj,aP,aK⟩:=zz.out k J;have zW:=λw=>vy S J w
  rw[XG] at zW;obtain⟨ji,hj,cx,zi,cq,cC⟩:∃ji:Int,2+(k:Int)=ji/\wrap64 ji=ji/\0<=ji/\ji<8/\ji.toNat=2+k:=⟨_,rfl,by unfold wrap64;omega,by omega,by omega,by omega⟩;obtain⟨kn,xG,cG,Zk⟩:∃kn:Int,(k:Int)+1=kn/\wrap64 kn=kn/\Hid (kn=((k+1:Nat):Int)):=⟨_,rfl,by unfold wrap64;omega,(by show _=_;omega)⟩;have bO:=ar aK;have ce:=ar aP;have bS:=ar bj;have xa:=ar a6;have XQ:=ar rO;have HK:=ar J;have nK:=ar az;clear XG aK aP bj a6 rO J az;generalize ye:(k:Int)=ki at *;have XR:=ar ye;clear ye;go_wp2_with fail;refine(RF _ _ _ _).mono ?_;rintro e wL ⟨rfl,ap⟩;have Zl:(wr.alloc (.cells #[.pointer (some ⟨g6,2+k,none⟩)] 273)).heap.size=wr.heap.size+1:=by simp
  have Dg:Hid (bm wL wr.heap.size #[.pointer (some ⟨g6,2+k,none⟩)] 273):=by
   rw[ap];exact((bm.new wr _ _).alloc _).alloc _
  have Dr:Hid (bm wL (wr.heap.size+1) #[.slice ak (dA n.E k).length KZ] 32):=by
   rw[ap,<-Zl];exact(bm.new _ _ _).alloc _
  have Af:Hid (bm wL (wr.heap.size+1+1) #[.int .i64 3] 3):=by
   have :=bm.new ((wr.alloc (.cells #[.pointer (some ⟨g6,2+k,none⟩)] 273)).alloc (.cells #[.slice ak (dA n.E k).length KZ] 32)) #[.int .i64 3] 3;have e:((wr.alloc (.cells #[.pointer (some ⟨g6,2+k,none⟩)] 273)).alloc (.cells #[.slice ak (dA n.E k).length KZ] 32)).heap.size=wr.heap.size+1+1:=by simp
   rw[e] at this;rw[ap];exact this
  have Vj:ay [] wr wL:=by
   rw[ap];exact(((ay.refl [] wr).alloc _).alloc _).alloc _
  have cI:wL.heap.size=wr.heap.size+3:=by rw[ap];simp
  rw[Zl];clear ap Zl;obtain⟨Dt,EA,rO⟩:=HP.out;have bq:B0 w5 wL n own z g6 (z+1+1) k []:=⟨Dt.keep.trans' (Vj.mono (by simp)),by obtain⟨C,U,V⟩:=Dt.rows;exact⟨C,U,V.keep Vj (by simp)⟩,Dt.row.keep Vj (by simp),Dt.fill.keep Vj (by simp)⟩;have cD:w5.heap.size<=wr.heap.size:=Dt.keep.size;have aO:Hid (∀D∈Ds,w5.heap.size<=D/\D<wr.heap.size/\wL.heap[D]? =some (.deferred (some []))):=λD hD=>by
   obtain⟨U,V⟩:=rO D hD;have h3:=(Array.getElem?_eq_some_iff.1 V).1;exact⟨U,h3,(Vj.block D h3 (by simp)).trans V⟩
  have bR:=ar bq;have XA:=ar EA;clear Dt bq rO Vj HP EA;generalize wr.heap.size=lB at *;go_wp2_with fail;refine(wpIn_wide (n:=3)).1 ?_;refine wpIn_rangeFunc_ownG (F:=Fence.wide) rfl (by omega) (gf:= 234) (lb:= #[.pointer (some ⟨lB+1,0,none⟩),.pointer (some ⟨lB+1+1,0,none⟩)]) rfl trivial (enters_of Tryz.func234 (by kernel_rfl) rfl)
   (Hw (3-1) (by omega) ak (dA n.E k).length KZ (cu (iI _ _) (by omega)) xa.out bS.out (lB+1) (lB+1+1) wL Dr.out Af.out)
   (λU V=>⟨V.1.trans U.1,V.2.trans U.2⟩) (λW l o o' U V _ _=>⟨World.putObj_heap_other (by omega),World.putObj_heap_other (by omega)⟩) (Below.refl _ _) (λ_=>rfl)
   (λac W=>B0 w5 W n own z g6 (z+1+1) k ac/\bm W lB #[.pointer (some (Oo n.E z g6 k ac.length))] 273/\ay [z,g6,z+1+1,lB] wL W)
   (λ_ _ _=>False)
   (λac A A' row h hg hr=>⟨h.1.turn hg hr (by omega),h.2.1.turn hg (λr e=>(hr r e).2),h.2.2.turn hg (λr e=>(hr r e).1) (aG _)⟩)
   (λ_ _ _ _ _ h _ _=>h)
   ⟨bR.out,by have :=Dg.out;exact this,ay.refl _ _⟩
   (λx=>{ tmps:= #[.agg Z,.slice ao own.length co,.pointer (some ⟨w.heap.size,0,none⟩),.pointer (some ⟨w.heap.size+1,0,none⟩),.pointer (some ⟨w.heap.size+1+1,0,none⟩),.slice none 0 0,.pointer (some ⟨g6,0,none⟩),.pointer (some ⟨z+1,0,none⟩),.pointer (some ⟨z+1+1,0,none⟩),.int .i64 ki,.slice ak (dA n.E k).length KZ,.pointer (some ⟨lB,0,none⟩),Xt ak (dA n.E k).length x,.agg Z,.agg (aR H).toArray,.slice ao own.length co,.int .i64 (own.length:Int),.slice (some ⟨z,0,none⟩) own.length own.length,.pointer (some ⟨w.heap.size,17,none⟩),v,.agg (lD S),.int .i64 ki,.bool true,.int .i64 ki,.slice ak (dA n.E k).length KZ,.int .i64 ki,.int .i64 ji,.pointer (some ⟨g6,2+k,none⟩),.slice ak (dA n.E k).length KZ,.func (.func 234) #[] #[.pointer (some ⟨lB+1,0,none⟩),.pointer (some ⟨lB+1+1,0,none⟩)],Xt ak (dA n.E k).length x,undef,undef,undef,undef,undef,undef,undef,undef,undef,undef,undef,undef,undef,undef,undef,undef,undef,undef,undef,undef,u51,undef,undef],defers:=[] }) ?assign ?body ?done ?stop
  case assign=>
   intro l x W K hK
   gi_wp2
   exact hK
  case stop=>
   rintro D c ac W _ _ h _;exact h.elim
  case done=>
   rintro D ys W hD rfl ⟨Du,Ou,su⟩ EB;have tX:(List.range (((dA n.E k).length+2)/3)).length=dN n.E k:=eJ;have MO:B0 w5 W n own z g6 (z+1+1) (k+1) []:=by
    obtain⟨U,⟨C,V,h3⟩,h4,h5⟩:=Du;rw[tX] at h4 h5;exact⟨U,⟨C,V.next,h3⟩,by rw[Og] at h4;exact h4,h5⟩
   have lX:Hid (B0 w5 W n own z g6 (z+1+1) (k+1) []/\(D::Ds).Nodup/\∀D'∈D::Ds,w5.heap.size<=D'/\W.heap[D']? =some (.deferred (some []))):=by
    refine⟨MO,List.nodup_cons.2 ⟨λhm=> ?_,XA.out⟩,λD' FZ=> ?_⟩
    ·have :=(aO.out D hm).2.1
     omega
    ·rcases aS.1 FZ with rfl|hm
     ·exact⟨by omega,EB⟩
     ·obtain⟨U,V,h3⟩:=aO.out D' hm
      exact⟨U,(su.block D' (by omega) (by
       have h4:D'≠z/\D'≠g6/\D'≠z+1+1/\D'≠lB:=by omega
       simp only[aS,aV,bL];omega)).trans h3⟩
   clear Du Ou su EB MO tX;go_wp2_with fail;refine⟨⟨k+1,D::Ds,_,_,_,_,_,_,_,_,_,_,_,_,HK.out,by rw[<-Zk.out];rfl,lX.out⟩,?_⟩;have U:=Zk.out;have V:=XR.out;have h3:=HK.out;simp[intOf];omega
  case body=>
   rintro l ac x W ⟨Du,Ou,su⟩ kD;obtain⟨f,hf⟩:∃f,f=eL n.E k+ac.length:=⟨_,rfl⟩;have QH:f<own.length:=by
    have U:=Zj.out k HK.out;have V:ac.length<dN n.E k:=kD;omega
   obtain⟨lg,lo,C1,bP,C4,b8,bn,bD,bA,bG,VM,VN⟩:=Du.link HK.out hf QH B1;obtain⟨bo,KX,rfl,aB⟩:=VH.out f QH;rw[C4] at Ou;have Si:own.getD f 0<256:=rq _ (by rw[aj,aD QH];exact bp QH);have Iw:=Du.fill;rw[<-hf] at Iw;obtain⟨xi,Iy,bY⟩:∃xi:Int,((own.getD f 0:Nat):Int)=xi/\IntKind.u64.wrap xi=xi:=⟨_,rfl,by rw[kr (by omega) (by omega)]⟩;obtain⟨fi,XS,ct,cw,Kk,cE⟩:∃fi:Int,((f:Nat):Int)=fi/\0<=fi/\fi<(own.length:Int)/\fi.toNat=f/\wrap64 (fi+1)=fi+1:=⟨_,rfl,by omega,by omega,by omega,by unfold wrap64;omega⟩;rw[Iy] at aB VM VN;rw[XS] at Iw;have bg:Hid (∀G,ay [z,g6] W G->G.cell? ⟨lB,0,none⟩=some (.pointer (some ⟨lg,lo,none⟩))/\G.cell? ⟨w.heap.size+1,0,none⟩=some (.slice (some ⟨go,KX,none⟩) own.length co)/\G.cell? ⟨z+1+1,0,none⟩=some (.int .i64 fi)/\G.cell? ⟨go,KX+f,none⟩=some (.int .i64 xi)):=λG J=>by
    refine⟨by rw[(Ou.keep J (by simp<;>omega)).cell];rfl,by rw[((cf.out.keep Du.keep (by simp<;>omega)).keep J (by simp<;>omega)).cell];rfl,by rw[(Iw.keep J (by simp<;>omega)).cell];rfl,?_⟩;have jG:=oH.out;have U:go<w5.heap.size:=bC bo jG.size;have V:go<W.heap.size:=bC U Du.keep.size;refine(aL (a:=⟨go,KX+f,none⟩) ?_).trans aB;show G.heap[go]? =w.heap[go]?;exact((J.block go V (by simp<;>omega)).trans (Du.keep.block go U (by simp<;>omega))).trans (jG.block go bo (by simp))
   have ck:W.drew.cell? ⟨lg,lo,none⟩=some (.int .u64 bP):=bn;have b7:W.drew.frozen? ⟨lg,lo,none⟩=false:=bD;have aJ:W.drew.setCell ⟨lg,lo,none⟩ (.int .u64 xi)=(W.setCell ⟨lg,lo,none⟩ (.int .u64 xi)).drew:=rfl;obtain⟨W1,ax⟩:∃W1,W1=(W.setCell ⟨lg,lo,none⟩ (.int .u64 xi)).drew:=⟨_,rfl⟩;rw[aJ,<-ax] at VM VN;have aZ:ay [z,g6] W W1:=by
    rw[ax];exact((ay.refl _ _).setCell (.inl (by rcases b8 with h|h<;>simp[h])) _).drew
   have bh:=ar Du;have bT:=ar Ou;have pM:=ar su;have b9:=ar Iw;have bB:=ar VM;have bN:=ar VN;have Dp:=ar aZ;have aM:=ar ax;have b5:=ar bG;have Sj:=ar bA;have HF:=ar hf;have Aj:=ar XS;have pY:=ar kD;clear Du Ou su Iw VM VN aZ ax aJ bG bA hf kD C4 aB Iy XS bn bD Si;refine wpIn_block (wpIn_seq_k λK XT=> ?_);refine ql (r:=some l) (S:=λG=>ay [z,g6] W G) (l:=[_,_,_,_,_,_]) (tl:=[_,_]) (by kernel_rfl) rfl (by kernel_rfl) (by rintro⟨a,w,h⟩;exact h) (by kernel_rfl) (by kernel_rfl) (by kernel_rfl) (λd _ _ _ _ h=>by cases d<;>exact h) (ay.refl _ _).drew ?_;repeat (refine ep.cons ?_ (YieldsIf.val rfl ?h) ?_;(case h=>(intro G hx;obtain⟨U,V,h3,h4⟩:=bg.out G hx;go_simp;rfl));simp only[Act.put,ag,ah,ai])
   refine ep.done ?_;unfold jC;go_wp2_with fail;refine⟨(ay.refl _ _).drew,?_⟩;unfold jC;go_wp2_with fail;rw[<-aM.out];refine⟨Dp.out,?_⟩;unfold jC;refine XT _ _ ?_;clear XT K bg ck b7 bY aM a8 aI bu
   -- the entries' words
   have aH:=Dp.out;have VO:ay [z,g6,z+1+1] w5 W1:=bh.out.keep.trans' (Dp.out.mono (by simp<;>omega));have Zm:bm W1 (z+1) #[.slice (some ⟨z,0,none⟩) own.length own.length] 237 :=bF.out.keep VO (by simp<;>omega);have Zo:bm W1 (z+1+1) #[.int .i64 fi] 3 :=b9.out.keep aH (by simp<;>omega);have bl:=bT.out.keep aH (by simp<;>omega);have cg:Hid (∀G,ay [z] W1 G->G.cell? ⟨z+1,0,none⟩=some (.slice (some ⟨z,0,none⟩) own.length own.length)/\G.cell? ⟨z+1+1,0,none⟩=some (.int .i64 fi)):=λG J=>by
    exact⟨by rw[(Zm.keep J (by simp<;>omega)).cell];rfl,by rw[(Zo.keep J (by simp<;>omega)).cell];rfl⟩
   have BI:∀G,(Instr.sliceAt 188 (.pointer (some ⟨z,f*8,none⟩)) (some (.int .i64 1)) none none).run Tryz.prog G= .ok (.slice (some ⟨z,f*8+1,none⟩) 7 7) G:=λG=>by show Sem.run _ _ _=_;kernel_rfl
   have BM:Hid (∀G,ay [] W1 G->Calls Tryz.prog 209 #[Xt ak (dA n.E k).length x] G (gC G (dR (tZ (dA n.E k) x)))):=λG J=>by
    refine uH (E:=tZ (dA n.E k) x) (g:=gk) ?_ (Zi aT k x);refine(((Oq ce.out x).keep VO ?_).keep J (by simp));intro _;have :=bO.out;simp;omega
   have cy:=ar VO;have bK:=ar Zm;have cd:=ar Zo;have b6:=ar bl;clear aH VO Zm Zo bl;refine wpIn_seq_k λK XT=> ?_
   refine ql (r:=some l) (S:=λG=>ay [z] W1 G) (l:=[_,_,_,_,_]) (tl:=[_,_]) (by kernel_rfl) rfl (by kernel_rfl) (by rintro⟨a,w,h⟩;exact h) (by kernel_rfl) (by kernel_rfl) (by kernel_rfl) (λd _ _ _ _ h=>by cases d<;>exact h) (ay.refl _ _).drew ?_;repeat (refine ep.cons ?_ (YieldsIf.val rfl ?h) ?_;(case h=>(intro G hx;obtain⟨U,V⟩:=cg.out G hx;go_simp;rfl));simp only[Act.put,ag,ah,ai])
   refine ep.done ?_;unfold jC;go_wp2_with fail;refine(BM.out _ (ay.refl _ _).drew).mono ?_;rintro e W2 ⟨va,ga,rfl,GQ,sk,aN⟩;have af:ay [] W1 W2:=((ay.refl _ _).drew).trans' aN;obtain⟨aa,ca,rfl,-,-,-⟩:=fM GQ;have Xq:(dR (tZ (dA n.E k) x)).length<=6:=by rw[iZ,kF];omega
   obtain⟨vc,VP,zt,bk,aQ⟩:=mz (o:=f*8+1) (n:=7) (cap:=7) (bB.out.keep af (by simp)) GQ (by omega) (by have :=Sj.out;omega);have UC:=ar zt;have fj:Hid (ay [z] W1 W2):=af.mono (by simp);have Ov:Hid (ay [z] W1 VP):=(af.mono (l':=[z]) (by simp)).trans' aQ;have VL:Hid (bm VP z (aR (BX C1 (8*f+1) (dR (tZ (dA n.E k) x)))).toArray 188):=by
    rw[Nat.mul_comm 8 f];exact bk
   generalize bX:dR (tZ (dA n.E k) x)=ws at *;clear af aN GQ sk zt bk aQ Xq BM bB;go_wp2_with fail;refine⟨fj.out,?_⟩;unfold jC;go_wp2_with(first|((with_reducible show wpList _ _ _ (⟨some 44,_,_,_,_,_⟩::_) _ _);refine gj rfl (.tmp 41) (.tmp 43) 69 69 rfl _ _ rfl rfl (UC.out _) ?_));refine⟨Ov.out,?_⟩;unfold jC;refine XT _ _ ?_;clear XT K;have VQ:=b6.out.keep Ov.out (by simp<;>omega);have Zp:=cd.out.keep Ov.out (by simp<;>omega);have a7:=bK.out.keep Ov.out (by simp<;>omega);have e1:VP.cell? ⟨z+1,0,none⟩=some (.slice (some ⟨z,0,none⟩) own.length own.length):=by rw[a7.cell];rfl
   have e2:VP.cell? ⟨z+1+1,0,none⟩=some (.int .i64 fi):=by rw[Zp.cell];rfl
   have e3:VP.cell? ⟨lB,0,none⟩=some (.pointer (some ⟨lg,lo,none⟩)):=by rw[VQ.cell];rfl
   have e4:VP.frozen? ⟨lB,0,none⟩=false:=VQ.frozen 0;have bv:=VQ.set 0 (.pointer (some ⟨z,f*8,none⟩));have VR:=Zp.other (a:=⟨lB,0,none⟩) (by show z+1+1≠lB;omega) (.pointer (some ⟨z,f*8,none⟩));have e5:(VP.setCell ⟨lB,0,none⟩ (.pointer (some ⟨z,f*8,none⟩))).cell? ⟨z+1+1,0,none⟩=some (.int .i64 fi):=by rw[VR.cell];rfl
   have e6:(VP.setCell ⟨lB,0,none⟩ (.pointer (some ⟨z,f*8,none⟩))).frozen? ⟨z+1+1,0,none⟩=false:=VR.frozen 0;have bV:=ar bv;have cj:=ar VR;clear VQ Zp a7 bv VR
   gi_wp2
   have Iu:ay [z,g6,z+1+1,lB] W ((VP.setCell ⟨lB,0,none⟩ (.pointer (some ⟨z,f*8,none⟩))).setCell ⟨z+1+1,0,none⟩ (.int .i64 (fi+1))):=
    (((Dp.out.mono (l':=[z,g6,z+1+1,lB]) (by simp<;>omega)).trans' (Ov.out.mono (by simp<;>omega))).setCell (.inl (by simp)) _).setCell (.inl (by simp)) _
   have cB:wL.heap.size<=W.heap.size:=pM.out.size;have aF:(ac++[x]).length=ac.length+1:=by simp
   refine⟨KeepsFrom.of_keeps Iu (λj hj YN=> .inl ?_),⟨Iu.block (lB+1) (by omega) (by simp<;>omega),Iu.block (lB+1+1) (by omega) (by simp<;>omega)⟩,⟨?_,?_,?_,?_⟩,?_,pM.out.trans' Iu⟩
   ·simp only[aS,aV,bL] at hj
    rcases hj with rfl|rfl|rfl|rfl<;>omega
   ·refine bh.out.keep.trans Iu λy hy=> ?_
    simp only[aS,aV,bL] at hy ⊢;rcases hy with rfl|rfl|rfl|rfl
    ·exact .inl (.inl rfl)
    ·exact .inl (.inr (.inl rfl))
    ·exact .inl (.inr (.inr rfl))
    ·exact .inr (by omega)
   ·refine⟨_,b5.out x,?_⟩
    rw[bX];exact(VL.out.other (a:=⟨lB,0,none⟩) (by show z≠lB;omega) _).other (a:=⟨z+1+1,0,none⟩) (by show z≠z+1+1;omega) _
   ·rw[aF]
    exact((bN.out.keep Ov.out (by simp<;>omega)).other (a:=⟨lB,0,none⟩) (by show g6≠lB;omega) _).other (a:=⟨z+1+1,0,none⟩) (by show g6≠z+1+1;omega) _
   ·have :=cj.out.set 0 (.int .i64 (fi+1))
    rw[aF,show((eL n.E k+(ac.length+1):Nat):Int)=fi+1 by rw[<-Aj.out,HF.out];omega];exact this
   ·have :=bV.out.other (a:=⟨z+1+1,0,none⟩) (by show lB≠z+1+1;omega) (.int .i64 (fi+1))
    have e:Oo n.E z g6 k (ac++[x]).length=⟨z,f*8,none⟩:=by
     rw[aF,Oo,aA (by omega),HF.out,show 8*(eL n.E k+(ac.length+1)-1)=(eL n.E k+ac.length)*8 by omega]
    rw[e];exact this
 ·obtain rfl:k=4:=by omega
  obtain⟨Dt,EA,rO⟩:=HP.out;have rW:bm wr.drew (w.heap.size+2) Z8 188 :=(bJ.out.keep Dt.keep (by simp<;>omega)).drew;have aX:bm wr g6 (aR (nC n own 4 0)).toArray 188 :=Dt.row;have bw:Hid (∀G,ay [w.heap.size+2] wr G->(loadVar 188 ⟨g6,0,none⟩).run Tryz.prog G= .ok (.agg (aR (nC n own 4 0)).toArray) G/\G.cell? ⟨z+1,0,none⟩=some (.slice (some ⟨z,0,none⟩) own.length own.length)):=λG J=>by
   exact⟨ea (aX.keep J (by simp<;>omega)) (tA _ _ _ _),by rw[((bF.out.keep Dt.keep (by simp<;>omega)).keep J (by simp<;>omega)).cell];rfl⟩
  obtain⟨wS,hS,uK,Ez⟩:=br (P:= Tryz.prog) (ty:= 188) (cs:=aR (nC n own 4 0)) (by rw[bc,tA];exact gH) rW (by rw[<-xH.out];simp[bc,tA]) (eu _);have HS:=ar hS;have qf:Hid (ay [w.heap.size+2] wr wS):=((ay.refl _ _).drew).trans' Ez;have lX:Hid (∀W',ay Ds wS W'->(loadVar 188 ⟨w.heap.size+2,0,none⟩).run Tryz.prog W'= .ok (.agg (aR (nC n own 4 0)).toArray) W'/\l8 w (BV n own) (tz n.E own 4) (.returned (.tuple #[.agg (aR (nC n own 4 0)).toArray,.slice (some ⟨z,0,none⟩) own.length own.length])) W'):=λW' J=>by
   have hD:∀q,q<w5.heap.size->q∉Ds:=λq hq hm=>by
    have :=(rO q hm).1;omega
   refine⟨ea (bm.keep uK J (hD _ (by omega))) (tA _ _ _ _),_,z,rfl,?_,by omega,?_⟩
   ·obtain⟨C,U,V⟩:=Dt.rows
    exact U.breads qm (aG _) (by unfold maxLen;omega) ((V.keep qf.out (by simp<;>omega)).keep J (hD _ (by omega)))
   ·have U:ay [] w wr:=oH.out.trans Dt.keep (by intro q hq;simp at hq;omega)
    have V:ay [] w wS:=U.trans qf.out (by intro q hq;simp at hq;omega);exact V.trans J λq hq=> .inr (by have :=(rO q hq).1;omega)
  have XA:=ar EA;have XQ:Hid (∀D∈Ds,wS.heap[D]? =some (.deferred (some []))):=λD hD=>by
   obtain⟨U,V⟩:=rO D hD;exact(qf.out.block D (Array.getElem?_eq_some_iff.1 V).1 (by simp<;>omega)).trans V
  clear Dt EA rO rW aX hS uK Ez HP J az;go_wp2_with fail;refine wp_region_noPanic ?_;refine tC (S:=λG=>ay [w.heap.size+2] wr G) (l:=[_,_]) (tl:=[_,_]) (by kernel_rfl) rfl (by kernel_rfl) (by kernel_rfl) (by kernel_rfl) (λd _ _ _ _ h=>by cases d<;>exact h) (ay.refl _ _).drew ?_;refine ep.cons _ (YieldsIf.load rfl 188 (.tmp 6) rfl _ rfl λG hx=>(bw.out G hx).1) ?_;simp only[Act.put,ag,ah,ai];refine ep.cons ?_ (YieldsIf.val rfl ?h) ?_;(case h=>(intro G hx;obtain⟨-,U⟩:=bw.out G hx;go_simp;rfl));simp only[Act.put,ag,ah,ai];refine ep.done ?_;unfold jC;go_wp2_with(first|(with_reducible refine gS 188 HS.out ?_));refine⟨qf.out,?_⟩;unfold jC;go_wp2_with fail;refine⟨qf.out,?_⟩;unfold jC;refine NoPanic.normal ?_;go_wp2_with fail;refine jN Ds wS XA.out XQ.out λW' J=> ?_
  obtain⟨U,V⟩:=lX.out W' J;exact⟨_,dn Tryz.results214 rfl U rfl,V⟩
end Go.Proofs.YtcecbdeamjigiaaGreatDoor
namespace Go.Proofs.YtcecbdeamjigiaaGreatDoor
open Go.RowKit
variable{W w:World}{n:bM}{own y:List Nat}{T U V b cap g:Nat}{a:Option Addr}{E:List (ByteArray×Int)}{v:Value}{B l:List Int}{ps:List (Int×Int)}
def gq (w:List Int):bM:=⟨w.getD 0 0%256,w.getD 0 0/256%256,w.getD 0 0/65536%65536,wrap64 (w.getD 1 0),List.replicate 13 0,[]⟩
theorem Ow (x:Nat)(h:x<18446744073709551616):bits .and .u64 (x:Int) 255=((x%256:Nat):Int)/\bits .and .u64 ((x:Int)/256) 255=((x/256%256:Nat):Int)/\bits .and .u64 ((x:Int)/65536) 65535=((x/65536%65536:Nat):Int):=by
 have z:=Nat.div_le_self x 256;have y:=Nat.div_le_self x 65536;refine⟨?_,?_,?_⟩
 ·rw[show(255:Int)=((255:Nat):Int) from rfl,fI x 255 h (by omega),show x &&& 255=x%2^8 from dp x 8]
 ·rw[show(x:Int)/256=((x/256:Nat):Int) by omega,show(255:Int)=((255:Nat):Int) from rfl,fI (x/256) 255 (by omega) (by omega),show x/256 &&& 255=x/256%2^8 from dp _ 8]
 ·rw[show(x:Int)/65536=((x/65536:Nat):Int) by omega,show(65535:Int)=((65535:Nat):Int) from rfl,fI (x/65536) 65535 (by omega) (by omega),show x/65536 &&& 65535=x/65536%2^16 from dp _ 16]
theorem yt (l:List Int)(hl:l.length=8)(h0:0<=l.getD 0 0/\l.getD 0 0<18446744073709551616)(h1:0<=l.getD 1 0/\l.getD 1 0<18446744073709551616)(w:World):
  Calls Tryz.prog 137 #[.agg (aR l).toArray] w λe w'=>e= .returned (.agg (aU (gq l) (.slice none 0 0)))/\ay [] w w':=by
 have z:=(bm.new w (aR l).toArray 188).alloc (.cells (aU cB (.slice none 0 0)) 110);have U:bm ((w.alloc (.cells (aR l).toArray 188)).alloc (.cells (aU cB (.slice none 0 0)) 110)) (w.heap.size+1) (aU cB (.slice none 0 0)) 110 :=by
  have :=bm.new (w.alloc (.cells (aR l).toArray 188)) (aU cB (.slice none 0 0)) 110;have e:(w.alloc (.cells (aR l).toArray 188)).heap.size=w.heap.size+1:=by simp
  rw[e] at this;exact this
 have c0:((w.alloc (.cells (aR l).toArray 188)).alloc (.cells (aU cB (.slice none 0 0)) 110)).cell? ⟨w.heap.size,0,none⟩=some (.int .u64 (l.getD 0 0)):=by
  rw[z.cell,aC,cC (by omega)]
 have c1:((w.alloc (.cells (aR l).toArray 188)).alloc (.cells (aU cB (.slice none 0 0)) 110)).cell? ⟨w.heap.size,1,none⟩=some (.int .u64 (l.getD 1 0)):=by
  rw[z.cell,aC,cC (by omega)]
 obtain⟨w2,hS,J,V⟩:=br (P:= Tryz.prog) (ty:= 110) (cs:=lL (gq l) (.slice none 0 0)) (by rw[fC];exact gZ) U rfl (jg rfl);have G:=cH (n:=gq l) (v:= .slice none 0 0) J rfl;have HK:Hid (ay [] w w2):=(((ay.refl [] w).alloc _).alloc _).trans V (by simp);have W:=ar hS;have pw:=ar G;have p8:=eV;clear z U hS G J V;have HT:Hid ((lL (gq l) (.slice none 0 0)).toArray=aU (gq l) (.slice none 0 0)):=rfl;rw[HT.out] at W;obtain⟨x,hx⟩:∃x:Nat,l.getD 0 0=(x:Int):=⟨(l.getD 0 0).toNat,by omega⟩;obtain⟨y,hy⟩:∃y:Nat,l.getD 1 0=(y:Int):=⟨(l.getD 1 0).toNat,by omega⟩;have hI:aU (gq l) (.slice none 0 0)= #[.int .i64 ((x%256:Nat):Int),.int .i64 ((x/256%256:Nat):Int),.int .i64 ((x/65536%65536:Nat):Int),.int .i64 (wrap64 (y:Int)),.int .i64 0,.int .i64 0,.int .i64 0,.int .i64 0,.int .i64 0,.int .i64 0,.int .i64 0,.int .i64 0,.int .i64 0,.int .i64 0,.int .i64 0,.int .i64 0,.int .i64 0,.slice none 0 0]:=by
  unfold gq;rw[hx,hy];rfl
 have h:aU cB (.slice none 0 0)= #[.int .i64 0,.int .i64 0,.int .i64 0,.int .i64 0,.int .i64 0,.int .i64 0,.int .i64 0,.int .i64 0,.int .i64 0,.int .i64 0,.int .i64 0,.int .i64 0,.int .i64 0,.int .i64 0,.int .i64 0,.int .i64 0,.int .i64 0,.slice none 0 0]:=rfl;rw[hI] at W pw HT;rw[hI];rw[h] at W c0 c1;rw[h] at p8;clear HT h;generalize (aR l).toArray=Z at *;rw[hx] at c0 h0;rw[hy] at c1 h1;obtain⟨p1,p2,p3⟩:=Ow x (by omega);clear hx hy;have q1:x%256<256:=fJ _ (by decide);have q2:x/256%256<256:=fJ _ (by decide);have q3:x/65536%65536<65536:=fJ _ (by decide);have aa:Hid (0<=y):=et y;generalize x%256=a at *;generalize x/256%256=b at *;generalize x/65536%65536=c at *;go_enter Tryz.func137,Tryz.ntmps137;go_wp2_with(first|(with_reducible refine gS 110 W.out ?_));exact aK (dP Tryz.results137 rfl pw.out) rfl ⟨rfl,HK.out⟩
theorem MP (y:bm w g (aU n v) T)(z:n.B.length=13)(h:l.length=13):
  ∃w',(storeVar 108 ⟨g,4,none⟩ (.agg (zs l).toArray)).run Tryz.prog w= .ok () w'/\bm w' g (aU { n with B:=l } v) T/\ay [g] w w':=by
 refine⟨_,ig g 4 (zs l) _ (by rw[dJ,h];exact jf) y (by rw[aU,bU,fC,dJ,z,h];omega) (jY l),?_,(ay.refl _ _).setRow (by simp) _⟩;have e:((aU n v).toList.take 4++zs l++(aU n v).toList.drop (4+(zs l).length)).toArray=aU { n with B:=l } v:=by
  have G:(aU n v).toList.drop (4+(zs l).length)=[v]:=by
   have :(aU n v).toList=[.int .i64 n.F,.int .i64 n.K,.int .i64 n.L,.int .i64 n.S]++(zs n.B++[v]):=rfl;rw[this,<-List.drop_drop,List.drop_left' (by rfl),List.drop_left' (by rw[dJ,dJ,z,h])]
  rw[G];rfl
 rw[e];exact jK y
theorem F0{u:Value}(y:bm w g (aU n v) T)(h:n.B.length=13):bm (w.setCell ⟨g,17,none⟩ u) g (aU { n with E:=E } u) T:=by
 have :=y.set 17 u;have e:(aU n v).setIfInBounds 17 u=aU { n with E:=E } u:=by
  have z:aU n v=(([.int .i64 n.F,.int .i64 n.K,.int .i64 n.L,.int .i64 n.S]:List Value)++(zs n.B++[v])).toArray:=rfl;rw[z,ag,cZ _ _ (by simp),cZ _ _ (by rw[dJ,h];simp),dJ,h];rfl
 rw[e] at this;exact this
theorem Zq (h:∀k,0<=l.getD k 0):cW (l.map Int.toNat)=zs l:=by
 apply cr (by simp[cW,zs]);intro j G z;have y:j<l.length:=by simpa[zs] using z
 have :=h j;rw[aj,aD y,eG] at this;simp[cW,zs];omega
theorem zA{z:Nat}(h:eF w b z B ps)(y:dD (az B ps))(n:Nat)(U:(bb (az B ps)).length<n):
  Calls Tryz.prog 148 #[.pointer (some ⟨b,0,none⟩),.int .i64 (n:Int)] w λe w'=>e= .returned (.tuple #[.slice none 0 0,.int .i64 7])/\w=w':=by
 have G:=ar (Ei h y);generalize (bb (az B ps)).length=f at *;have J:¬(n:Int)<0:=by omega
 have V:(f:Int)<(n:Int):=by omega
 clear h y;go_enter Tryz.func148,Tryz.ntmps148;go_wp2_with fail;refine G.out.mono ?_;rintro e w' ⟨rfl,rfl⟩;go_wp2_with fail;go_ret2;exact⟨rfl,rfl⟩
def xb (w:World) (b y:Nat) (B:List Int) (ps:List (Int×Int)) (l:List Nat) (e:Ending) (w':World):Prop:=
 ∃v g,e= .returned (.tuple #[v,.int .i64 0])/\Reads w' v g (cW l)/\w.heap.size<=g/\g<w'.heap.size/\(∃h,(h=y\/(w.heap.size<=h/\h<w'.heap.size))/\h≠g/\eF w' b h B (ps++cL (az B ps) l)/\ay [b,y] w w')
theorem yu (X:List Int)(l:List Nat)(k:Nat)(h:k<l.length):cL X (l.take (k+1))=cL X (l.take k)++(dG (az X (cL X (l.take k))) (l.getD k 0) true++fg (l.getD k 0)):=by
 rw[bt h,Hl];simp[h]
theorem EC{J:Nat}(h:eF w b J B ps)(eT:dD (az B ps))(hT:kI w)(Df:J<w.heap.size)(pn:ps.length<=900000)(n:Nat)(hn:n<=(bb (az B ps)).length):
  Calls Tryz.prog 148 #[.pointer (some ⟨b,0,none⟩),.int .i64 (n:Int)] w (xb w b J B ps ((bb (az B ps)).take n)):=by
 have HF:=ar (Ei h eT);have xS:=xX (az B ps);have VS:=ar (Bn h eT hT n (by omega));have Ay:Hid (∀c∈(bb (az B ps)).take n,c≠0/\c<256):=λc z=>by
  have :=iX.1 (bA z);exact⟨this.2.1,this.1⟩
 have y:Hid (((bb (az B ps)).take n).length=n):=by show _=_;rw[aI,cy hn]
 have HS:=ar h;have sf:=ar eT;have ai:Hid ((az B ps).length=3128):=h.raw.lx;have au:=h.raw.lt;have zY:=ar pn;generalize (bb (az B ps)).take n=l at *;generalize (bb (az B ps)).length=f at *;clear h eT hT pn;have h0:¬(n:Int)<0:=by omega
 have h1:¬(f:Int)<(n:Int):=by omega
 go_enter Tryz.func148,Tryz.ntmps148;go_wp2_with fail;refine HF.out.mono ?_;rintro e w' ⟨rfl,rfl⟩;go_wp2_with fail;refine VS.out.mono ?_;rintro e w1 ⟨v,g,rfl,hr,ae,av,dc⟩;clear HF VS h1 h0;have af:=hr;obtain⟨a,cap,rfl,q1,q2,-⟩:=af;rw[fO,y.out] at hr ⊢;rw[fO,y.out] at q1;have HR:=ar hr;have iH:=ar dc;have hz:=dc.size;clear hr dc;unfold maxLen at q2;go_wp2_with fail;go_loopg [20] n (λgh s20 wx=>∃k:Nat,k+gh=n/\s20= .int .i64 (k:Int)/\Hid (ij w1 b J B (ps++cL (az B ps) (l.take k)) wx))
 case atStart=>exact⟨0,by omega,rfl,by show ij _ _ _ _ _ _;rw[eX,show cL (az B ps) []=[] from rfl,bq];exact ij.refl (HS.out.keep iH.out (by simp) (by simp))⟩
 case round=>
  obtain⟨k,hk,rfl,HQ⟩:=hrel;have B1:∀x,x∈[b,J]->g≠x:=by
   intro x hx;simp only[aS,aV,bL] at hx;omega
  obtain⟨lv,p1,p2,U⟩:=HQ.out;have Uu:=ar (HR.out.keep U (λhm=>B1 g hm rfl));have ap:=U.size;cases gk with
  |zero=>
   obtain rfl:k=n:=by omega
   have HM:Hid (xb w b J B ps l (.returned (.tuple #[.slice a k cap,.int .i64 0])) wr):=by
    rw[aQ (by rw[y.out];omega)] at p2;exact⟨_,g,rfl,Uu.out,ae,by omega,lv,by omega,by omega,p2,(iH.out.mono (by simp)).trans U λx hx=> .inl hx⟩
   have ac:¬(k:Int)<(k:Int):=by omega
   clear p1 p2 U B1 hk;go_wp2_with fail;go_ret2;exact HM.out
  |succ gg=>
   have xG:k<n:=by omega
   have ac:(k:Int)<(n:Int):=by omega
   have ez:(0:Int)<=(k:Int):=by omega
   have Z:k<l.length:=by rw[y.out];exact xG
   have z:=Ay.out (l.getD k 0) (by rw[aj,aD Z];exact bp _);have aa:=kA (l.take k) (az B ps) sf.out ai.out λc z=>Ay.out c (bA z)
   have G:=oA (l.take k) (az B ps) λc z=>Ay.out c (bA z)
   have lR:(l.take k).length<=255:=by rw[aI];omega
   have YW:=ar (yu (az B ps) l k Z);obtain⟨a',ak,ag,r1,r2,r3⟩:=Uu.out;cases ag;obtain⟨aq,off,rfl,r4⟩:=r3 (by intro e;have :=ck List.length e;rw[fO,cp] at this;omega);have ah:=(r4 k (by rw[fO];exact Z)).trans (mV Z);generalize l.getD k 0=c at *;have Sk:Hid (Calls Tryz.prog 139 #[.pointer (some ⟨b,0,none⟩),.int .i64 (c:Int),.bool true] wr (iy wr b lv B ((ps++cL (az B ps) (l.take k))++dG (az (az B ps) (cL (az B ps) (l.take k))) c true))):=by
    have :=Hn p2 (by rw[bo];exact aa.1) (by rw[aF,G];have :=zY.out;omega) (c:Int) true;rw[bo,aH] at this;exact this
   have V:∀(w':World) (gA:Nat),eF w' b gA B ((ps++cL (az B ps) (l.take k))++dG (az (az B ps) (cL (az B ps) (l.take k))) c true)->Hid (Calls Tryz.prog 174 #[.pointer (some ⟨b,0,none⟩),.int .i64 (c:Int)] w' (iy w' b gA B (ps++cL (az B ps) (l.take (k+1))))):=by
    intro w' gA sH;have :=Kz sH (by rw[aF,aF,G,Ef _ c z.1 z.2];have :=zY.out;omega) c z.2;rw[YW.out];show Calls _ _ _ _ _;simpa only[bf] using this
   have P1:=ar p1;have P3:=ar U;have W:=ar V;clear p1 p2 U B1 z aa G lR r1 r2 r3 r4 Z Uu HQ V;go_wp2_with fail;refine Sk.out.mono ?_;rintro e w2 ⟨rfl,wM,s1,s2,s3⟩;have HE:=(W.out w2 wM s2);have S1:=ar s1;have S3:=ar s3;clear s1 s2 s3 W Sk;go_wp2_with fail;refine HE.out.mono ?_;rintro e w3 ⟨rfl,t1⟩;have HO:Hid (ij w1 b J B (ps++cL (az B ps) (l.take (k+1))) w3):=ij.trans P1.out P3.out (ij.trans S1.out S3.out t1);clear t1;go_wp2_with fail;go_roundg gg;case measure=>omega
   case rel=>exact⟨k+1,by omega,by go_num,HO⟩
def eZ (i:Int):Int:=if i<0\/32<=i then -1 else 824+i*8
theorem ja (i:Int)(w:World):Calls Tryz.prog 134 #[.int .i64 i] w λe w'=>e= .returned (.int .i64 (eZ i))/\w=w':=by
 rcases (show i<0\/32<=i\/(0<=i/\i<32) by omega) with h|h|⟨G,z⟩
 ·rw[eZ,aB (.inl h)]
  go_enter Tryz.func134,Tryz.ntmps134;go_wp2;go_ret;exact⟨rfl,rfl⟩
 ·rw[eZ,aB (.inr h)]
  have y:¬i<0:=by omega
  go_enter Tryz.func134,Tryz.ntmps134;go_wp2;go_ret;exact⟨rfl,rfl⟩
 ·rw[eZ,aA (by omega)]
  go_enter Tryz.func134,Tryz.ntmps134;go_wp2;go_ret;exact⟨rfl,rfl⟩
def dw (n:bM) (own:List Nat):List Int:=(own.take (aZ n.E.length)).map (λx:Nat=>(x:Int))++n.B.drop (aZ n.E.length)
def ew (n:bM) (own:List Nat):Nat:=if aZ n.E.length<own.length then own.getD (aZ n.E.length) 0 else 0
def oM (E:List (ByteArray×Int)) (l:List Int) (k:Nat):List (Int×Int):=(List.range k).flatMap λj=>ir (1080+8*(l.getD j 0).toNat) (fT E j) 8
def mG (n:bM) (own:List Nat):List (Int×Int):=if aZ n.E.length<own.length then ir (1080+8*ew n own) ((dw n own).drop 5) 8 else []
def rr (i:Nat) (n:bM) (own:List Nat):List (Int×Int):=
 oM n.E (dw n own) (aZ n.E.length)++(mG n own++ir (824+8*i) (fE n (dw n own) (ew n own)) 8)
def l9 (X:List Int) (i:Nat) (n:bM) (own:List Nat):List (Int×Int):=cL X own++rr i n own
theorem vE (E:List (ByteArray×Int))(l:List Int)(k:Nat):oM E l (k+1)=oM E l k++ir (1080+8*(l.getD k 0).toNat) (fT E k) 8:=by
 unfold oM;rw[dL,List.flatMap_append];simp
theorem ub (E:List (ByteArray×Int))(l:List Int)(k:Nat):(oM E l k).length=8*k:=by
 induction k with
 |zero=>rfl
 |succ k ih=>rw[vE,aF,ih,mA];omega
theorem MQ (l:List Nat):zs (l.map λx:Nat=>(x:Int))=cW l:=by simp[zs,cW,Function.comp_def]
theorem iA (h:bP n):n.E.length<=24/\aZ n.E.length<=6/\(n.E.length≠0->n.K=2/\lM n):=by
 have :n.E.length<=24/\(n.E.length≠0->n.K=2/\lM n):=by
  rcases h.2.2 with h|h
  ·have :=h.2.2.1
   exact⟨by omega,λh=>absurd this h⟩
  ·exact⟨h.2.1,λ_=>h⟩
 refine⟨this.1,?_,this.2⟩;unfold aZ;omega
theorem py (h:bP n):uG n:=by
 obtain⟨hF,z,y⟩:=h;refine⟨by omega,?_,by omega,?_⟩
 ·rcases y with y|y
  ·have :=y.1;omega
  ·have :=y.1;omega
 ·rcases y with y|y
  ·have :=y.2.1;omega
  ·have :=y.2.2.1;have :=y.2.1;omega
theorem Iz (h:bP n)(z:∀k,k<n.E.length->(eh n.E k).size<=9223372036854775807):rR n.E:=by
 have y:=iA h;refine⟨by omega,z,λk G=> ?_⟩;have :=((y.2.2 (by omega)).2.2.2.2 k G).2.1;omega
theorem ud (h:bP n)(z:n.B.length=13):∀k,0<=n.B.getD k 0/\n.B.getD k 0<256:=by
 intro k;by_cases y:k<13
 ·rcases h.2.2 with h|h
  ·exact(h.2.2.2.2 k y).1
  ·rw[h.2.2.2.1,aj,aY]
   split<;>simp
 ·rw[aj,aO (by omega)]
  simp
theorem qo (h:n.B.length=13)(z:aZ n.E.length<=13)(y:aZ n.E.length<=own.length):(dw n own).length=13:=by
 simp[dw,h];omega
theorem qp (y:aZ n.E.length<=own.length)(k:Nat):(dw n own).getD k 0=if k<aZ n.E.length then ((own.getD k 0:Nat):Int) else n.B.getD k 0:=by
 unfold dw;simp only[aj,fK,bJ,aI,cy y,bD,bN,bX];by_cases h:k<aZ n.E.length
 ·rw[aB h,aB h,aB h,aD (by omega)]
  rfl
 ·rw[aA h,aA h,show aZ n.E.length+(k-aZ n.E.length)=k by omega]
theorem yv (h:bP n)(z:n.B.length=13)(G:aZ n.E.length<=own.length)(y:∀c∈own,c≠0/\c<256):∀k,0<=(dw n own).getD k 0/\(dw n own).getD k 0<256:=by
 intro k;rw[qp G];split
 ·rename_i hk
  have :=y (own.getD k 0) (by rw[aj,aD (by omega)];exact bp _);omega
 ·exact ud h z k
theorem Ox{n m mc:Nat}{h:List Int}(J:bm w b (zs h).toArray T)(Z:Reads w (.slice a own.length U) V (cW own))(hm:m<=n)(Kk:m<=h.length)(BI:m<=own.length):
  ∃v w',(∀ty,(Builtin.copy_ #[134,134] ty #[.slice (some ⟨b,0,none⟩) n cap,.slice a m mc]).run Tryz.prog w= .ok v w')/\bm w' b (zs ((own.take m).map (λx:Nat=>(x:Int))++h.drop m)).toArray T/\ay [b] w w':=by
 by_cases h0:m=0
 ·subst h0
  refine⟨_,w,λty=>run_copy_none (P:= Tryz.prog) w 134 134 ty 3 (some ⟨b,0,none⟩) a n cap 0 mc Tryz.underlying134 lz (by simp),?_,ay.refl _ _⟩;simpa using J
 ·obtain⟨W,z,hv,r1,r2,r3⟩:=Z
  obtain⟨rfl,rfl⟩:a=W/\U=z:=by injection hv with h1 h2 h3;exact⟨h1,h3⟩
  obtain⟨hg,off,rfl,r4⟩:=r3 (by intro e;have :=ck List.length e;rw[fO,cp] at this;omega);have G:(cW (own.take m)).length=min m n:=by rw[fO,aI];omega
  refine⟨_,_,λty=>run_copy_row (P:= Tryz.prog) w 134 134 ty 3 b 0 n cap ⟨V,off,none⟩ m mc (zs h).toArray T (cW (own.take m)) Tryz.underlying134 lz J G ?_ ?_ ?_,?_,(ay.refl _ _).setRow (by simp) _⟩
  ·intro j u y
   have hj:j<m:=by
    have :=(List.getElem?_eq_some_iff.1 y).1;rw[G] at this;omega
   rw[mV (by rw[aI];omega)] at y;rw[add_plain,r4 j (by rw[fO];omega),mV (by omega),<-y];simp[hj]
  ·rw[G,bU,dJ];omega
  ·intro u y
   rw[<-MQ] at y;exact jY _ u y
  ·have e:((zs h).toArray.toList.take 0++cW (own.take m)++(zs h).toArray.toList.drop (0+(cW (own.take m)).length)).toArray=(zs ((own.take m).map (λx:Nat=>(x:Int))++h.drop m)).toArray:=by
    rw[G,cy hm,x9,MQ];simp[zs,List.map_drop]
   rw[e];exact jK J
theorem K0 (a:Option Addr)(n cap c:Nat)(G:c<=cap)(w:World):
  (Instr.sliceAt 134 (.slice a n cap) none (some (.int .i64 (c:Int))) none).run Tryz.prog w= .ok (.slice a c cap) w:=by
 have h: Tryz.prog.underlying 134 =some (.slice (Tryz.prog.elem 134)):=by kernel_rfl
 have z: Tryz.prog.elem 134 = 3 :=by kernel_rfl
 have y:(sizeOf 3).run Tryz.prog w= .ok 1 w:=by kernel_rfl
 rw[run_sliceAt_slice _ _ _ _ _ _ h,run_slice_h _ _ _ _ _ h .i64 (c:Int) (by omega) (by omega),z,y];cases a with
 |none=>simp[sliced]
 |some x=>cases x;simp[sliced,Addr.add]
theorem Oy (b:Nat)(w:World):(Instr.sliceAt 108 (.pointer (some ⟨b,0,none⟩)) none none none).run Tryz.prog w= .ok (.slice (some ⟨b,0,none⟩) 13 13) w:=by show Sem.run _ _ _=_;kernel_rfl
theorem Zr (h:bm w g (aU n v) T)(y:n.B.length=13):(loadVar 108 ⟨g,4,none⟩).run Tryz.prog w= .ok (.agg (zs n.B).toArray) w:=
 eD h y λ_ z=>ya v (by omega)
end Go.Proofs.YtcecbdeamjigiaaGreatDoor
