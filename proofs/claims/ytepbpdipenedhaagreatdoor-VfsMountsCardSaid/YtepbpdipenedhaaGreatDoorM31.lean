/- Lemmas. -/
import Derived.Test.YtepbpdipenedhaaGreatDoorM19
set_option maxHeartbeats 4000000
set_option maxRecDepth 100000
namespace Go.Proofs.YtepbpdipenedhaaGreatDoor
open Go.Proofs.Tryz
section
open Go.RowKit
variable{b gp k n:Nat}{P:Program}{Q:Exit->Act->World->Prop}{a:Act}{A w z:World}{T:List (bT×Value)}{B:List Int}{ps:List (Int×Int)}{own:Nat->List Nat}
def ac7 {α:Type} (n:Nat) (P:Program) (gf:Nat) (lb:Array Value) (U:α->Array Value) (Rd:Nat->α->World->Prop) (S Sp:List α->Prop) (N:Nat) (C:List Nat) (w:World):Prop:=
 ∀(l:Nat) (J G:List α->World->Prop) (W:World),ay [] w W->w.heap.size<=l->l<W.heap.size->
  (∀h A z,J h A->ay [] A z->J h z)->(∀h A z,G h A->ay [] A z->G h z)->
  (∀h x A,J h A->h.length<N->Rd l x A->YieldAt Fence.wide (n-1) P l (U x) A λe z=>
   (e=true/\J (h++[x]) z/\ay (l::C) A z)\/(e=false/\G (h++[x]) z))->
  J [] W->
  CallsIn Fence.wide n P gf (#[.func (.yield l) #[] #[]]++lb) W λe V=>(∃v,e=(v:Value))/\((∃xs,S xs/\J xs V)\/(∃h,Sp h/\G h V))
def vU {α:Type} (C:List Nat) (I:List α->World->Prop) (h:Code->List α->World->Prop) (xs:List α) (W:World):Exit->Act->World->Prop
 | .normal,_,W'=>ay C W W'/\I xs W'
 | .ret,_,W'=>ay C W W'/\h .ret xs W'
 | .exit id,_,W'=>ay C W W'/\h (.exit id) xs W'
 | .goto t,_,W'=>ay C W W'/\h (.goto t) xs W'
 | .panic _,_,_=>False
 | .outgrown,_,_=>False
theorem rZ (W:World)(l:Nat)(o:Obj):ay [l] W (W.putObj l o):=
 ⟨rfl,rfl,rfl,by simp,λk _ h=>World.putObj_heap_other (by simpa using h)⟩
theorem tV{α:Type}{g:Operand}{ps:Array Tmp}{assign body:Code}(h1:1<=n){gf:Nat}{lb:Array Value}(hg:a.eval g= .func (.func gf) #[] lb)(eg:∀args w,(callFunc gf args).run P w= .ok (.enter gf args) w)
  {ax:α->Array Value} {Rd:Nat->α->World->Prop} {S Sp:List α->Prop} {N:Nat} {C:List Nat} (az:ac7 (n-1) P gf lb ax Rd S Sp N C w) (hC:∀k∈C,k<w.heap.size) (aC:∀x,(ax x).size=ps.size)
  (I:List α->World->Prop) (Ix:Code->List α->World->Prop) (hI:∀G A J,I G A->Below w.heap.size A J->I G J) (af:∀c G A J,Ix c G A->Below w.heap.size A J->Ix c G J) (h0:I [] w)
  (aJ:∀l x A J,Rd l x A->ay [l] A J->Rd l x J) (Ax:α->Act->World->Prop) (aD:∀l x a' A J,w.heap.size<=l->(∃r,A.heap[l]? =some (.loop r))->Ax x a' A->ay [l] A J->Ax x a' J)
  (aF:∀(l:Nat) (x:α) (W:World) (K:Act->World->Prop),Rd l x W->w.heap.size<W.heap.size->(∀a' W',ay [] W W'->Ax x a' W'->K a' W')->
   assign.wpIn (Fence.wide.inRound l) (n-1-1) P (Exit.then K (λ_ _ _=>False)) { tmps:=(ps.zip (ax x)).foldl (λt (p,v)=>t.setIfInBounds p v) a.tmps,defers:=[] } W)
  (aL:∀l x A J,Rd l x A->ay [] A J->Rd l x J)
  (ar:∀(l:Nat) (G:List α) (x:α) (a':Act) (W:World),w.heap.size<l->l<W.heap.size->I G W->G.length<N->Rd l x W->Ax x a' W->body.wpIn (Fence.wide.inRound l) (n-1-1) P (vU C I Ix (G++[x]) W) a' W)
  (ak:∀(D:Nat) (xs:List α) (W:World),w.heap.size<=D->S xs->I xs W->W.heap[D]? =some (.deferred (some []))->Q .normal { a with defers:={ target:= .collected D,args:= #[] }::a.defers } W)
  (aA:∀(D:Nat) (c:Code) (G:List α) (W:World),w.heap.size<=D->Sp G->Ix c G W->W.heap[D]? =some (.deferred (some []))->c.wpIn Fence.wide n P Q { a with defers:={ target:= .collected D,args:= #[] }::a.defers } W):
  (Code.rangeFunc g ps assign body).wpIn Fence.wide n P Q a w:=by
 refine wpIn_rangeFunc λfn aI=> ?_
 let U:LoopState->Option Code->Obj:=λst pe=> .loop { state:=st,pending:=pe,fn,tmps:=a.tmps,params:=ps,assign,body,defers:=w.heap.size }
 have e0:(w.alloc (.deferred (some []))).heap.size=w.heap.size+1:=aX _ _;have aj:∀{A J:World},w.heap.size<=A.heap.size->ay [w.heap.size+1] A J->Below w.heap.size A J:=λhA hk=>hk.below hA λk hk=>by rw[au] at hk;omega
 have ai:∀{A J:World},w.heap.size<=A.heap.size->ay [] A J->Below w.heap.size A J:=λhA hk=>hk.below hA λk hk=>by simp at hk
 obtain⟨W1,ac⟩:∃W1,(w.alloc (.deferred (some []))).alloc (U .ready none)=W1:=⟨_,rfl⟩;have r1:W1.heap[w.heap.size+1]? =some (U .ready none):=by rw[<-ac,<-e0];exact World.alloc_heap_new _ _
 have d1:W1.heap[w.heap.size]? =some (.deferred (some [])):=by rw[<-ac];exact(jL _ _ _ (by rw[e0];omega)).trans (World.alloc_heap_new w _)
 have k1:ay [] w W1:=by rw[<-ac];exact((ay.refl [] w).alloc _).alloc _
 have s1:W1.heap.size=w.heap.size+2:=by rw[<-ac,aX,e0]
 refine⟨w.heap.size+1,[{ target:= .collected w.heap.size,args:= #[] }],W1,{ target:= .fn (.func gf) lb,args:= #[.func (.yield (w.heap.size+1)) #[] #[]] },W1,gf,#[.func (.yield (w.heap.size+1)) #[] #[]]++lb,W1,by rw[<-ac];exact run_enterLoop_outer _ _ _ _ _,?_,λ_ _=>trivial,?_,λ_=>h1,?_⟩
 ·simp only[resolve,hg]
  simp[go_sem]
 ·simp[invoke,go_sem,eg]
 refine(az (w.heap.size+1) (λG A=>I G A/\A.heap[w.heap.size+1]? =some (U .ready none)/\A.heap[w.heap.size]? =some (.deferred (some [])))
  (λG A=>∃c,Ix c G A/\A.heap[w.heap.size+1]? =some (U .done (some c))/\A.heap[w.heap.size]? =some (.deferred (some []))) W1 k1 (by omega) (by omega) ?_ ?_ ?_ ⟨hI _ _ _ h0 (ai (aH _) k1),r1,d1⟩).mono ?_
 ·rintro G A J ⟨i1,i2,i3⟩ hk
  have l2:=(Array.getElem?_eq_some_iff.1 i2).1;exact⟨hI _ _ _ i1 (ai (by omega) hk),(hk.block _ l2 (by simp)).trans i2,(hk.block _ (by omega) (by simp)).trans i3⟩
 ·rintro G A J ⟨c,i1,i2,i3⟩ hk
  have l2:=(Array.getElem?_eq_some_iff.1 i2).1;exact⟨c,af _ _ _ _ i1 (ai (by omega) hk),(hk.block _ l2 (by simp)).trans i2,(hk.block _ (by omega) (by simp)).trans i3⟩
 ·rintro G x A ⟨i1,i2,i3⟩ hN hr
  have l2:=(Array.getElem?_eq_some_iff.1 i2).1;refine⟨fn,_,assign,body,run_yield i2 (aC x),roundIn_of_wpIn aI (aF _ x A _ hr (by omega) λa' A2 aa aG=> ?_)⟩;have j2:A2.heap[w.heap.size+1]? =some (U .ready none):=(aa.block _ l2 (by simp)).trans i2;have j3:A2.heap[w.heap.size]? =some (.deferred (some [])):=(aa.block _ (by omega) (by simp)).trans i3;have l3:w.heap.size+1<A2.heap.size:=(Array.getElem?_eq_some_iff.1 j2).1;refine⟨_,run_beginRound j2 rfl,?_⟩;have ae:=rZ A2 (w.heap.size+1) (U .busy none);obtain⟨A3,ag⟩:∃A3,A2.putObj (w.heap.size+1) (U .busy none)=A3:=⟨_,rfl⟩;have m2:A3.heap[w.heap.size+1]? =some (U .busy none):=by rw[<-ag];exact World.putObj_heap_same l3
  have m3:A3.heap[w.heap.size]? =some (.deferred (some [])):=by rw[<-ag];exact(World.putObj_heap_other (by omega)).trans j3
  rw[ag] at ae;have l4:w.heap.size+1<A3.heap.size:=(Array.getElem?_eq_some_iff.1 m2).1;show body.wpIn _ _ _ _ a' (A2.putObj (w.heap.size+1) (U .busy none));rw[ag];have aB:I G A3:=hI _ _ _ (hI _ _ _ i1 (ai (by omega) aa)) (aj (by omega) ae);refine wpIn_mono (ar _ G x a' A3 (by omega) l4 aB hN (aJ _ _ _ _ (aL _ _ _ _ hr aa) ae) (aD _ _ _ _ _ (by omega) ⟨_,j2⟩ aG ae)) ?_;have ah:∀(z:Option Code) (V:World),ay C A3 V->(Instr.endRound (w.heap.size+1) z).run P V= .ok (.bool z.isNone) (V.putObj (w.heap.size+1) (U (if z.isNone then .ready else .done) z))/\
    Below w.heap.size V (V.putObj (w.heap.size+1) (U (if z.isNone then .ready else .done) z))/\(V.putObj (w.heap.size+1) (U (if z.isNone then .ready else .done) z)).heap[w.heap.size+1]? =some (U (if z.isNone then .ready else .done) z)/\
    (V.putObj (w.heap.size+1) (U (if z.isNone then .ready else .done) z)).heap[w.heap.size]? =some (.deferred (some []))/\ay ((w.heap.size+1)::C) A (V.putObj (w.heap.size+1) (U (if z.isNone then .ready else .done) z)):=λz V av=>by
   have n2:V.heap[w.heap.size+1]? =some (U .busy none):=(av.block _ l4 λhm=>by have :=hC _ hm;omega).trans m2;have n3:V.heap[w.heap.size]? =some (.deferred (some [])):=(av.block _ (by omega) λhm=>by have :=hC _ hm;omega).trans m3;have l5:=(Array.getElem?_eq_some_iff.1 n2).1;have fW:=rZ V (w.heap.size+1) (U (if z.isNone then .ready else .done) z);refine⟨run_endRound (P:=P) z n2,aj (by omega) fW,World.putObj_heap_same l5,(World.putObj_heap_other (by omega)).trans n3,?_⟩;have q1:ay ((w.heap.size+1)::C) A A3:=(aa.mono (l':=(w.heap.size+1)::C) (by simp)).trans ae (by simp);have q2:ay ((w.heap.size+1)::C) A V:=q1.trans av λx hx=> .inl (by simp[hx])
   exact q2.trans fW (by simp)
  rintro e a3 V hp;cases e with
  |normal=>
   obtain⟨f1,f2,f3,f4,f5⟩:=ah none V hp.1;exact⟨_,_,f1,.inl ⟨rfl,⟨hI _ _ _ hp.2 f2,f3,f4⟩,f5⟩⟩
  |ret=>
   obtain⟨f1,f2,f3,f4,f5⟩:=ah (some .ret) V hp.1;exact⟨_,_,f1,.inr ⟨rfl,.ret,af _ _ _ _ hp.2 f2,f3,f4⟩⟩
  |exit id=>
   obtain⟨f1,f2,f3,f4,f5⟩:=ah (some (.exit id)) V hp.1;exact⟨_,_,f1,.inr ⟨rfl,.exit id,af _ _ _ _ hp.2 f2,f3,f4⟩⟩
  |goto t=>
   obtain⟨f1,f2,f3,f4,f5⟩:=ah (some (.goto t)) V hp.1;exact⟨_,_,f1,.inr ⟨rfl,.goto t,af _ _ _ _ hp.2 f2,f3,f4⟩⟩
  |panic ch=>exact hp.elim
  |outgrown=>exact hp.elim
 ·rintro e A ⟨⟨v,rfl⟩,h⟩
  rcases h with ⟨xs,hS,i1,i2,i3⟩|⟨G,aK,c,i1,i2,i3⟩
  ·have l2:=(Array.getElem?_eq_some_iff.1 i2).1
   have fW:=rZ A (w.heap.size+1) (U .exhausted none);exact⟨none,_,run_endLoop (P:=P) i2 (by simp),ak _ xs _ (aH _) hS (hI _ _ _ i1 (aj (by omega) fW)) ((World.putObj_heap_other (by omega)).trans i3)⟩
  ·have l2:=(Array.getElem?_eq_some_iff.1 i2).1
   have fW:=rZ A (w.heap.size+1) (U .exhausted (some c));exact⟨some c,_,run_endLoop (P:=P) i2 (by simp),aA _ c G _ (aH _) aK (af _ _ _ _ i1 (aj (by omega) fW)) ((World.putObj_heap_other (by omega)).trans i3)⟩
theorem Dr{z:Array Oper}{S:World->Prop}{r:Option Nat}{U:Nat}(V:P.follows .mixedOrders=true)(W:¬LetsOut Q)(J:Bp z=true)(G:xk .any z z.size z.size=true)(hQ:∀d v c a w,Q (.panic c) (Act.put a d v) w->Q (.panic c) a w)(hS:S w.drew)
  (nb:Region.ready .any z (eN z.size z.size)=[]) (h:aU P z S (Q .normal) z.toList a):(Code.region U z true).wpIn { Fence.wide with round:=r } n P Q a w:=by
 refine xW V W (Bq J) ?_;rw[<-mU];refine oK (S:=λ_=>S) (F:=z.size) (L:=z.size) _ _ _ ?_ _ hS;refine JJ (m:=z.size) G (aH _) (aH _) hQ (E:=λa=>∀w,S w->Q .normal a w) (λa h=> ?_) z.toList 0 a (by simp) (aH _) (λk hk=>by simp) (aU.toB _ _ h);rw[jg];exact⟨nb,h⟩
section
variable {P:Program} {n:Nat} {r:Option Nat} {ops:Array Oper} {Q:Exit->Act->World->Prop} {rest:List Oper} {o:Oper} {a:Act} {w:World}
theorem p9 (U:Region.wanted o (yielded ops a.tmps)=true)(ty:TypeId)(x:Operand)(G:o.op= .load ty x)(z:Addr)(V:a.eval x= .pointer (some z))(v:Value)
  (J:(loadVar ty z).run P w= .ok v w) (h:wpListIn { Fence.wide with round:=r } n P ops Q rest (a.put o.dst v) w):wpListIn { Fence.wide with round:=r } n P ops Q (o::rest) a w:=by
 unfold wpListIn;rw[aB U];refine wq (λc e=>by rw[G] at e;cases e) ?_;unfold Oper.wp execOp;simp only[G,V,Instr.loadAt,Instr.sureAddr,ck,fO,cL,J];exact h
theorem jS (V:Region.wanted o (yielded ops a.tmps)=true)(ty:TypeId)(x y:Operand)(G:o.op= .store ty x y)(z:Addr)(W:a.eval x= .pointer (some z))(v:Value)(U:a.eval y=v)(w':World)
  (J:(storeVar ty z v).run P w= .ok () w') (h:wpListIn { Fence.wide with round:=r } n P ops Q rest (a.put o.dst undef) w'):wpListIn { Fence.wide with round:=r } n P ops Q (o::rest) a w:=by
 unfold wpListIn;rw[aB V];refine wq (λc e=>by rw[G] at e;cases e) ?_;unfold Oper.wp execOp;simp only[G,W,U,Instr.storeAt,Instr.sureAddr,ck,fO,cL,J];exact h
end
end
section
open Go.RowKit Go.Shelf
variable{b gp k n:Nat}{P:Program}{Q:Exit->Act->World->Prop}{a:Act}{A w z:World}{T:List (bT×Value)}{B:List Int}{ps:List (Int×Int)}{own:Nat->List Nat}
attribute [local go_sem] kf
structure GX where
 i:Nat
 n:bT
 v:Value
def Wk (x:GX):Array Value:= #[.int .i64 (x.i:Int),.agg (aM x.n x.v)]
def lW (x:GX):Nat×bT:=(x.i,x.n)
theorem KA (T:List (bT×Value)):∀k,(kO T k).length<=k
 |0=>aH _
 |k+1=>by
  have :=KA T k;unfold kO;rw[aC];split<;>simp<;>omega
def RdG (T:List (bT×Value)) (l:Nat) (x:GX) (A:World):Prop:=
 x.i<32/\x.n=nT T x.i/\x.n.F≠0/\x.n.B.length=13/\∃g,l<g/\bD A x.v g x.n.E
theorem RdG.keep{l:Nat}{x:GX}(h:RdG T l x A){m:List Nat}(G:ay m A z)(hm:∀k∈m,k<=l):RdG T l x z:=by
 obtain⟨h1,h2,U,V,g,W,J⟩:=h;exact⟨h1,h2,U,V,g,W,J.keep G λ_ hg=>by have :=hm _ hg;omega⟩
theorem RQ (b:Nat)(w:World):Calls prog 130 #[b] w λe w'=>
  e= .returned (.func (.func 162) #[] #[w.heap.size])/\w'=w.alloc (.cells #[b] 50):=by
 go_in;go_wp2_with fail;go_ret;exact⟨rfl,rfl⟩
theorem acw (n l V b gp:Nat)(B:List Int)(ps:List (Int×Int))(T:List (bT×Value))(own:Nat->List Nat)(hn:1<=n)(C:List Nat)(hC:∀k∈C,k≠V/\k≠b/\k≠gp)(J Jx:List GX->World->Prop)
  (hJ:∀z A A',J z A->ay [] A A'->J z A') (hl:l≠V/\l≠b/\l≠gp)
  (hY:∀z x A,J z A->z.length<32->RdG T l x A->YieldAt Fence.wide (n-1) prog l (Wk x) A λe A'=>
   (e=true/\J (z++[x]) A'/\ay (l::C) A A')\/(e=false/\Jx (z++[x]) A'))
  (W:World) (av:l<W.heap.size) (ak:bh W V #[b] 50) (hs:gU W b gp B ps T own) (h0:J [] W):
  CallsIn Fence.wide n prog 162 #[.func (.yield l) #[] #[],V] W λe W'=>(∃v,e=(v:Value))/\
   ((∃xs:List GX,xs.map lW=kO T 32/\J xs W')\/(∃z:List GX,(z≠[]/\∀x∈z,lW x∈kO T 32)/\Jx z W')):=by
 have rG:=dz;obtain⟨Z0,C7⟩:∃Z0,aM cg (.slice none 0 0)=Z0:=⟨_,rfl⟩;have Ld:Hid (Z0.size=18):=by show _=_;rw[<-C7];rfl
 rw[C7] at rG;clear C7;obtain⟨HC,Ex⟩:=hh2 hC hl;have ax:Hid (([]:List GX).map lW=kO T 0/\J [] W/\gU W b gp B ps T own/\bh W V #[b] 50/\l<W.heap.size):=⟨rfl,h0,hs,ak,av⟩;clear hC hl h0 hs ak av;refine callsIn_of_wp func162 rfl trivial ?_ rfl;simp only[ntmps162,bN,cr,cC,Nat.reduceAdd,Nat.reduceSub,fZ,gi,iI,gQ,bQ,ia]
 gi_wp2
 gi_loopw [7] (λi wr=>∃(k:Nat) (z:List GX),k<=32/\i= .int .i64 (k:Int)/\Hid (z.map lW=kO T k/\J z wr/\gU wr b gp B ps T own/\bh wr V #[b] 50/\l<wr.heap.size))
  (λi _=>32-(intOf i).toNat)
 case atStart=>exact⟨0,[],by omega,rfl,ax.out⟩
 case round=>
  clear ax;obtain⟨k,z,hk,rfl,G⟩:=hrel;by_cases ac:k<32
  ·have xI:(k:Int)<32:=by omega
   have c0:wr.cell? V=some (.pointer (some ⟨b,0,none⟩)):=by rw[G.out.2.2.2.1.cell];rfl
   have HG:=ar (G.out.2.2.1.get ac)
   gi_wp2
   refine⟨trivial,callsIn_wide.2 (HG.out.mono ?_)⟩;rintro e w3 ⟨v,g,va,ga,r,rfl,hB,hE,hg,hO,xp,ag,hr⟩;obtain⟨w4,p1,p2,p3⟩:=cu (n:=nT T k) (v:=v) (bh.new w3 Z0 111) Ld.out hB hE.one;have tZ:=ar p1;have U:ay [] wr w4:=ag.trans' (((ay.refl [] w3).alloc _).trans p3 (by intro x hx;rw[au] at hx;omega));obtain⟨qb,aC⟩:=hh2 U (b9 p2 hB);have aa:=hJ _ _ _ G.out.2.1 U;have Iw:Hid (gU w4 b gp B ps T own/\bh w4 V #[b] 50/\l<w4.heap.size):=⟨G.out.2.2.1.keep0 U,G.out.2.2.2.1.keep U (by simp),by have :=G.out.2.2.2.2;have :=U.size;omega⟩;have WV:bD w4 v g (nT T k).E:=hE.keep (((ay.refl [w3.heap.size] w3).alloc (.cells Z0 111)).trans' p3) (λh0=>hE.apart (l:=[w3.heap.size]) (λx hx=>by rw[au] at hx;omega) h0);have XU:Hid ((nT T k).F≠0->kO T (k+1)=kO T k++[(k,nT T k)]):=λh=>by show kO T k++_=_;rw[aA h]
   have af:Hid ((nT T k).F=0->kO T (k+1)=kO T k):=λh=>by show kO T k++_=_;rw[aB h,br]
   by_cases h0:r=0
   ·subst h0
    have hF:(nT T k).F≠0:=by
     rcases hr with ⟨-,h⟩|⟨h,-⟩|⟨h,-⟩
     ·exact h
     ·omega
     ·omega
    have ai:z.length<32:=by
     have h1:=cN List.length G.out.1;rw[bZ] at h1;have h2:=KA T k;omega
    obtain⟨fn,tmps,assign,body,hy,hR⟩:=hY z ⟨k,nT T k,v⟩ w4 aa ai ⟨ac,rfl,hF,hB,g,by have :=G.out.2.2.2.2;omega,WV⟩;have Ga:Hid ((z++[(⟨k,nT T k,v⟩:GX)]).map lW=kO T (k+1)):=by
     show _=_;rw[XU.out hF,eu,G.out.1];rfl
    have ah:Hid (∀A',ay (l::C) w4 A'->gU A' b gp B ps T own/\bh A' V #[b] 50/\l<A'.heap.size):=λA' hk=>by
     have hc:=HC.out;have ae:=Ex.out;refine⟨Iw.out.1.keep hk λq hq=> .inr ?_,Iw.out.2.1.keep hk λhm=> ?_,bS Iw.out.2.2 hk.size⟩
     ·rcases aL.1 hq with rfl|hq
      ·exact⟨ae.2.1,ae.2.2⟩
      ·exact⟨(hc q hq).2.1,(hc q hq).2.2⟩
     ·rcases aL.1 hm with e|hm
      ·exact ae.1 e.symm
      ·exact(hc V hm).1 rfl
    unfold Wk at hy
    dsimp only at hy
    clear hr hF aa WV Iw hE hB hg hO xp ag U p1 p2 p3 XU af G c0 ai ac;generalize aM (nT T k) v=ZN at *
    gi_wp2_with (first|((with_reducible show wpListIn _ _ _ _ _ (⟨_,.store 111 (.tmp 4) (.tmp 14),_,_,_,_⟩::_) _ _);refine jS (r:=none) rfl 111 (.tmp 4) (.tmp 14) rfl _ rfl _ rfl _ tZ.out ?_)|((with_reducible show wpListIn _ _ _ _ _ (⟨_,.load 111 (.tmp 4),_,_,_,_⟩::_) _ _);refine p9 (r:=none) rfl 111 (.tmp 4) rfl _ rfl _ aC.out ?_))
    refine hR.mono ?_;rintro e W5 (⟨rfl,aj,kR⟩|⟨rfl,az⟩)
    ·have HF:Hid ((z++[(⟨k,nT T k,v⟩:GX)]).map lW=kO T (k+1)/\J (z++[⟨k,nT T k,v⟩]) W5/\gU W5 b gp B ps T own/\bh W5 V #[b] 50/\l<W5.heap.size):=⟨Ga.out,aj,ah.out _ kR⟩
     clear aj kR Ga ah
     gi_wp2
     go_roundw
     case rel=>exact⟨k+1,_,by omega,by go_num,HF.out⟩
     case measure=>simp[intOf];omega
    ·have HF:Hid ((z++[(⟨k,nT T k,v⟩:GX)])≠[]/\∀x∈z++[(⟨k,nT T k,v⟩:GX)],lW x∈kO T 32):=by
      refine⟨by simp,λx hx=> ?_⟩;have h1:lW x∈(z++[(⟨k,nT T k,v⟩:GX)]).map lW:=bF.2 ⟨x,hx,rfl⟩;rw[Ga.out] at h1;obtain⟨a1,a2,a3⟩:=o9.1 h1;exact o9.2 ⟨by omega,a2,a3⟩
     clear Ga ah
     gi_wp2
     refine aI (results_none rfl _ _ _) rfl ?_;exact⟨⟨_,rfl⟩,.inr ⟨_,HF.out,az⟩⟩
   ·have b0:(r==0)=false:=by simpa using h0
    have hF:(nT T k).F=0:=by
     rcases hr with ⟨h,-⟩|⟨-,h,-⟩|⟨-,h,-⟩
     ·exact absurd h h0
     ·exact h
     ·exact h
    have HF:Hid (z.map lW=kO T (k+1)/\J z w4/\gU w4 b gp B ps T own/\bh w4 V #[b] 50/\l<w4.heap.size):=⟨by rw[af.out hF];exact G.out.1,aa,Iw.out⟩;clear hr hF aa WV Iw hE hB hg hO xp ag U p1 p2 p3 h0 XU af G c0;generalize aM (nT T k) v=ZN at *
    gi_wp2_with ((with_reducible show wpListIn _ _ _ _ _ (⟨_,.store 111 (.tmp 4) (.tmp 14),_,_,_,_⟩::_) _ _);refine jS (r:=none) rfl 111 (.tmp 4) (.tmp 14) rfl _ rfl _ rfl _ tZ.out ?_)
    refine⟨λ_ h=>(by cases h),?_⟩
    gi_wp2
    go_roundw
    case rel=>exact⟨k+1,_,by omega,by go_num,HF.out⟩
    case measure=>simp[intOf];omega
  ·obtain rfl:k=32:=by omega
   have HF:=ar (And.intro G.out.1 G.out.2.1);clear G ac hk
   gi_wp2
   go_end0;exact⟨⟨_,rfl⟩,.inl ⟨z,HF.out.1,HF.out.2⟩⟩
theorem Dt (hn:1<=n){w:World}{G b U:Nat}{B:List Int}{ps:List (Int×Int)}{T:List (bT×Value)}{own:Nat->List Nat}(hs:gU w b U B ps T own)(z:bh w G #[b] 50){C:List Nat}(hC:∀k∈C,k≠G/\k≠b/\k≠U):
  ac7 n prog 162 #[G] Wk (RdG T) (λxs=>xs.map lW=kO T 32) (λh=>h≠[]/\∀x∈h,lW x∈kO T 32) 32 C w:=by
 intro l J Jx W hk hl V hJ _ hY h0;have h1:=z.lt;have h2:=hs.lt;exact acw n l G b U B ps T own hn C hC J Jx hJ ⟨by omega,by omega,by omega⟩ hY W V (z.keep hk (by simp)) (hs.keep0 hk) h0
end
section
open Go.RowKit
variable{b gp k n:Nat}{P:Program}{Q:Exit->Act->World->Prop}{a:Act}{A w z:World}{T:List (bT×Value)}{B:List Int}{ps:List (Int×Int)}{own:Nat->List Nat}
theorem Wl (G:k<32){b:Int}:b∈o8 T (k:Int)↔∃j,j<(nT T k).E.length/\jq (nT T k).E j=b:=by
 unfold o8;rw[aB,aG];constructor
 ·intro h
  obtain⟨j,z,e⟩:=bY h;rw[bZ] at z;rw[ic] at e;exact⟨j,z,by rw[<-e];simp[jq,z]⟩
 ·rintro⟨j,z,e⟩
  refine bF.2 ⟨(nT T k).E[j],bG z,?_⟩;rw[<-e];simp[jq,z]
end
section
open Go.RowKit Go.Shelf
variable{b gp k n:Nat}{P:Program}{Q:Exit->Act->World->Prop}{a:Act}{A w z:World}{T:List (bT×Value)}{B:List Int}{ps:List (Int×Int)}{own:Nat->List Nat}
attribute [local go_sem] kf
theorem bh.low{c:Array Value}{T:Nat}(h:bh A k c T)(J:Below n A z)(G:k<n):bh z k c T:=(J.block k G).trans h
theorem ay.below_trans{l:List Nat}{G:World}(h:ay l w A)(z:Below n A G)(V:w.heap.size<=n):ay l w G:=
 ⟨z.os.trans h.os,z.tape.trans h.tape,z.output.trans h.output,cE h.size z.size,λk J U=>(z.block k (by omega)).trans (h.block k J U)⟩
theorem Ij (h:gU w b gp B ps T own):
  Calls prog 128 #[b] w λe w'=>e=(dK (dQ 32 (lX T))).toArray/\ay [] w w':=by
 have bv:=N9;have rG:=dz;obtain⟨Z0,C7⟩:∃Z0,aM cg (.slice none 0 0)=Z0:=⟨_,rfl⟩;have Ld:Hid (Z0.size=18):=by show _=_;rw[<-C7];rfl
 rw[C7] at rG;clear C7;have HS:=ar h;clear h;generalize Yx:(dK (dQ 32 λ_=>0)).toArray=ZC at *;have ax:=ar Yx;clear Yx;refine(callsIn_wide (n:=5)).1 (callsIn_of_wp_marks func128 rfl trivial (wpIn_wide.2 ?_) rfl);simp only[ntmps128,bN,cr,cC,Nat.reduceAdd,Nat.reduceSub,fZ,gi,iI,gQ,bQ,ia];go_wp2_with fail;refine Rr (RQ b _) λw2 U=> ?_;go_wp2_with fail;rw[<-U];have aS:w2.heap.size=w.heap.size+3:=by rw[U];simp
 have Mk:bh w2 (w.heap.size+1) ZC 182 :=by
  have :=(bh.new (w.alloc (.cells ZC 182)) ZC 182).alloc (.cells #[b] 50);rw[aX] at this;rw[U];exact this
 have jP:bh w2 w.heap.size ZC 182 :=by
  rw[U];exact((bh.new w ZC 182).alloc _).alloc _
 have sw:bh w2 (w.heap.size+1+1) #[b] 50 :=by
  have :=bh.new ((w.alloc (.cells ZC 182)).alloc (.cells ZC 182)) #[b] 50;rw[aX,aX] at this;rw[U];exact this
 have ac:ay [] w w2:=by
  rw[U];exact(((ay.refl [] w).alloc _).alloc _).alloc _
 have aJ:=HS.out.keep0 ac;have aI:=HS.out.lt;have xc:=Dt (n:=5-1) (by omega) aJ sw (C:=[w.heap.size+1]) (λk J=>by rw[au] at J;subst J;omega);have aj:=HS.out.gots.elen;have ak:=HS.out.gots.tabS;have ah:=HS.out.gots.tabN;clear U aJ sw;refine(wpIn_wide (n:=5)).1 ?_;refine tV (by omega) (gf:= 162) (lb:= #[.pointer (some ⟨w.heap.size+1+1,0,none⟩)]) rfl (enters_of func162 (by kernel_rfl) rfl) xc (λk J=>by rw[au] at J;subst J;omega) (λ_=>rfl)
  (λG A=>ay [] w A/\bh A (w.heap.size+1) (dK (dQ 32 λq=>xD (G.map lW) q)).toArray 182/\bh A w.heap.size ZC 182/\∀q,xD (G.map lW) q<=24*G.length)
  (λ_ _ _=>False)
  (λG A A' h hb=>⟨h.1.below_trans hb (by omega),h.2.1.low hb (by omega),h.2.2.1.low hb (by omega),h.2.2.2⟩)
  (λ_ _ _ _ h _=>h)
  ⟨ac,by have :=Mk;rw[<-ax.out] at this;exact this,jP,λq=>fC _⟩
  (λl x A A' h J=>h.keep J λk J=>by rw[au] at J;omega)
  (λx a' W=>∃g5,bh W g5 (aM x.n x.v) 111/\w2.heap.size<=g5/\a'={ tmps:= #[.pointer (some ⟨b,0,none⟩),undef,.pointer (some ⟨w.heap.size,0,none⟩),.pointer (some ⟨w.heap.size+1,0,none⟩),undef,.pointer (some ⟨g5,0,none⟩),undef,undef,.pointer (some ⟨b,0,none⟩),.func (.func 162) #[] #[(w.heap.size+1+1:Nat)],.int .i64 (x.i:Int),.agg (aM x.n x.v),undef,undef,undef,undef,undef,undef,undef,undef,undef,undef,undef,undef,undef,undef,undef],defers:=[] })
  (λl x a' A A' _ hr h J=>by
   obtain⟨g5,h1,h2,h3⟩:=h;obtain⟨r,hr⟩:=hr;refine⟨g5,h1.keep J λhm=> ?_,h2,h3⟩;rw[au] at hm;subst hm;rw[h1] at hr;cases hr)
  ?assign (λl x A A' h J=>h.keep J (by simp)) ?body ?done ?stop
 case stop=>
  rintro D c G W _ _ h _;exact h.elim
 case assign=>
  rintro l x W K ⟨h1,h2,h3,h4,g,h5,h6⟩ bo hK;obtain⟨w4,p1,p2,p3⟩:=cu (n:=x.n) (v:=x.v) (bh.new W Z0 111) Ld.out h4 h6.one;have tZ:=ar p1;have aH:ay [] W w4:=((ay.refl [] W).alloc _).trans p3 (by intro x hx;rw[au] at hx;omega);have HF:=ar (hK _ w4 aH ⟨W.heap.size,p2,by omega,rfl⟩);clear p1 p2 p3 aH hK h1 h2 h3 h4 h5 h6;unfold Wk;generalize aM x.n x.v=ZN at *
  gi_wp2_with ((with_reducible show wpListIn _ _ _ _ _ (⟨_,.store 111 (.tmp 5) (.tmp 11),_,_,_,_⟩::_) _ _);refine jS (r:=some l) rfl 111 (.tmp 5) (.tmp 11) rfl _ rfl _ rfl _ tZ.out ?_)
  exact HF.out
 case body=>
  rintro l G x a' W hl bp ⟨kp,Ms,AU,az⟩ hN ⟨aF,aa,bf,bg,g,hg,hE⟩ ⟨g5,rU,aY,rfl⟩;have ba:x.n.E.length<=24:=by rw[aa];exact aj x.i
  have Ra:Hid (∀j,j<x.n.E.length->0<=jq x.n.E j/\jq x.n.E j<32):=λj hj=>by
   have hm:=ah (x.i:Int) (jq x.n.E j) ((Wl aF).2 ⟨j,by rw[<-aa];exact hj,by rw[aa]⟩);exact hm
  have nG:Hid (∀V,ay [w.heap.size+1] W V->bh V (w.heap.size+1) (dK (dQ 32 λq=>xD (G.map lW) q+zH x.n.E x.n.E.length q)).toArray 182->vU [w.heap.size+1] (λG A=>ay [] w A/\bh A (w.heap.size+1) (dK (dQ 32 λq=>xD (G.map lW) q)).toArray 182/\bh A w.heap.size ZC 182/\∀q,xD (G.map lW) q<=24*G.length) (λ_ _ _=>False) (G++[x]) W .normal { tmps:= #[],defers:=[] } V):=λV J hb=>by
   have e:∀q,xD ((G++[x]).map lW) q=xD (G.map lW) q+zH x.n.E x.n.E.length q:=λq=>by
    rw[eu,Ee];rfl
   refine⟨J,kp.trans J (by intro y hy;rw[au] at hy;omega),?_,AU.keep J (by simp),λq=> ?_⟩
   ·rw[tG λq _=>e q]
    exact hb
   ·have h1:=az q
    have h2:=S6 x.n.E x.n.E.length q;rw[e,aC,ka];omega
  obtain⟨an,cn,hv,bw,Us,ag⟩:=hE.open;have aG:W.cell? ⟨g5,17,none⟩=some (.slice an x.n.E.length cn):=by rw[rU.cell,<-hv];exact(gG _ bg).f5
  have ae:=ar ag;have aU:Hid (ay [w.heap.size+1] W W/\bh W (w.heap.size+1) (dK (dQ 32 λq=>xD (G.map lW) q+zH x.n.E 0 q)).toArray 182):=⟨ay.refl _ _,by
   rw[tG (f':=λq=>xD (G.map lW) q) λq _=>by rw[Vu,dB]];exact Ms⟩
  have aL:=ar az;have bn:Hid (g<W.heap.size\/x.n.E.length=0):=by
   by_cases h0:x.n.E.length=0
   ·exact .inr h0
   ·exact .inl (ag 0 (by omega)).1
  have aZ:Hid (l<g/\w.heap.size+2<l):=⟨hg,by omega⟩;have bq:=Ed;have aP:Hid (G.length<32):=hN;clear kp Ms AU az hN hE hv ag aF aa bf hg aj ak ah rU aY Mk jP ac aS aI HS;generalize aM x.n x.v=ZN,xD (G.map lW)=fP at *;obtain⟨mE,aD⟩:∃mE,x.n.E.length=mE:=⟨_,rfl⟩;have aW:=ar aD;rw[aD] at aG ae Ra nG ba;clear aD;generalize x.n.E=E at *
  gi_wp2
  gi_loopw [15] (λi wr=>∃j:Nat,j<=mE/\i= .int .i64 (j:Int)/\Hid (ay [w.heap.size+1] W wr/\bh wr (w.heap.size+1) (dK (dQ 32 λq=>fP q+zH E j q)).toArray 182))
   (λi _=>mE-(intOf i).toNat)
  case atStart=>exact⟨0,by omega,rfl,aU.out⟩
  case round=>
   clear aU aG;obtain⟨j,hj,rfl,HI⟩:=hrel;by_cases af:j<mE
   ·have Qe:(j:Int)<(mE:Int):=by omega
    have Cf:(0:Int)<=(j:Int):=by omega
    obtain⟨bj,off,rfl,d1,d2⟩:=ae.out j af;have av:=HI.out.1.block g bj (by rw[au];have :=aZ.out;omega);have bk:Hid ((loadVar 87 ⟨g,off+j*2,none⟩).run prog wr= .ok (.agg #[.string (eX E j),(jq E j:Int)]) wr):=
     AE ((aO (w:=W) (a:=⟨g,off+j*2,none⟩) av).trans d1) ((aO (w:=W) (a:=⟨g,off+j*2+1,none⟩) av).trans d2)
    obtain⟨bb,bt⟩:=Ra.out j af;have aN:=λq=>Vv (E:=E) (j:=j) (by rw[aW.out];exact af) q
    have aT:=λq=>S6 E j q
    generalize jq E j=yi at *;obtain⟨y,rfl⟩:=cy bb;have bc:y<32:=by omega
    obtain⟨w6,p1,p2,p3⟩:=BG (eX E j) (y:Int) (bh.new wr #[.string ⟨#[]⟩,(0:Int)] 87) rfl;have jW:ay [] wr w6:=((ay.refl [] wr).alloc _).trans p3 (by intro x hx;rw[au] at hx;omega);have c1:w6.cell? ⟨wr.heap.size,1,none⟩=some (.int .i64 (y:Int)):=by rw[p2.cell];rfl
    have tY:=HI.out.2.keep jW (by simp);have c2:=LM tY (j:=y) bc;obtain⟨z,hz⟩:∃z,fP y+zH E j y=z:=⟨_,rfl⟩;rw[hz] at c2;have bu:z<=1000:=by have :=aL.out y;have :=aT y;have :=aP.out;omega
    have PE:Hid (∀x:Int,x=((z+1:Nat):Int)->bh (w6.setCell ⟨w.heap.size+1,y,none⟩ (.int .i64 x)) (w.heap.size+1) (dK (dQ 32 λq=>fP q+zH E (j+1) q)).toArray 182):=λx hx=>N8 tY y (λq hq=>by
     rw[aN q];by_cases e:q=y
     ·subst e;rw[aB rfl,aB rfl];omega
     ·rw[aA e,aA];omega) (by rw[hx,hz])
    have f2:=tY.frozen y;have nL:Hid (ay [w.heap.size+1] W w6):=HI.out.1.trans' (jW.mono (by simp));have Gx:=ar p1;have br:(0:Int)<=(y:Int):=by omega
    clear HI av d1 d2 aN aT hz p1 p2 p3 jW tY nG Ra ae aL aP;generalize eX E j=sj at *
    gi_wp2_with (first|((with_reducible show wpListIn _ _ _ _ _ (⟨_,.load 87 (.tmp 17),_,_,_,_⟩::_) _ _);refine p9 (r:=some l) rfl 87 (.tmp 17) rfl _ rfl _ bk.out ?_)|((with_reducible show wpListIn _ _ _ _ _ (⟨_,.store 87 (.tmp 7) (.tmp 18),_,_,_,_⟩::_) _ _);refine jS (r:=some l) rfl 87 (.tmp 7) (.tmp 18) rfl _ rfl _ rfl _ Gx.out ?_))
    go_roundw
    case rel=>exact⟨j+1,by omega,by go_num,nL.out.setCell (.inl (by simp)) _,PE.out _ (by go_num)⟩
    case measure=>simp[intOf];omega
   ·obtain rfl:j=mE:=by omega
    have HF:=ar (nG.out _ HI.out.1 HI.out.2);clear HI nG Ra ae hj af
    gi_wp2
    exact HF.out
 case done=>
  rintro D xs W hD aQ ⟨kp,Ms,AU,-⟩ JV;rw[aQ,tG (λq _=>Y1 ak 32 q)] at Ms;have aK:Hid ((loadVar 182 (w.heap.size+1:Nat)).run prog W= .ok (.agg (dK (dQ 32 (lX T))).toArray) W):=Ob Ms;obtain⟨wS,p1,p2,p3⟩:=Ki (f':=lX T) (show bh W w.heap.size (dK (dQ 32 λ_=>0)).toArray 182 by rw[ax.out];exact AU);have Uc:=ar p1;have aV:Hid (wS.heap[D]? =some (.deferred (some []))):=(p3.block D (Array.getElem?_eq_some_iff.1 JV).1 (by rw[au];omega)).trans JV;have qT:Hid (∀V,ay [D] wS V->(loadVar 182 w.heap.size).run prog V= .ok (.agg (dK (dQ 32 (lX T))).toArray) V/\ay [] w V):=λV J=>⟨Ob (p2.keep J (by rw[au];omega)),(kp.trans p3 (by intro y hy;rw[au] at hy;omega)).trans J (by intro y hy;rw[au] at hy;omega)⟩
  clear kp Ms AU JV aQ p1 p2 p3 Mk jP ac aS aI HS ax aj ak ah;obtain⟨ZR,ai⟩:∃ZR,(dK (dQ 32 (lX T))).toArray=ZR:=⟨_,rfl⟩;rw[ai] at aK Uc qT;have bl:=ar ai;clear ai;go_wp2_with(with_reducible first|refine gL 182 aK.out ?_|refine gS 182 Uc.out ?_);refine mC [D] wS (by simp) (λD' aR=>by rw[au] at aR;subst aR;exact aV.out) λV J=> ?_
  obtain⟨h1,h2⟩:=qT.out V J;exact⟨_,bA results128 rfl h1,by rw[<-bl.out],h2⟩
end
section
open Go.RowKit
variable{b gp k n:Nat}{P:Program}{Q:Exit->Act->World->Prop}{a:Act}{A w z:World}{T:List (bT×Value)}{B:List Int}{ps:List (Int×Int)}{own:Nat->List Nat}
theorem L5 (h:eK w b gp B ps)(aj:In64 (az B ps)){n:bT}(v:Value)(hB:n.B.length=13)(hR:cm n)(hK:n.K=1):
  Calls prog 134 #[b,aM n v] w (dt w (j5 (az B ps) n)):=by
 have hS:0<=n.S/\n.S<=832:=by
  rcases hR.2.2 with h|h
  ·exact h.2.1
  ·omega
 have U:=vA hR hB;have HG:Hid (∀wx,ay [] w wx->∀i:Nat,i<3128->Calls prog 127 #[b,(i:Int)] wx λe w'=>e= .returned (.int .u64 (((az B ps).getD i 0).toNat:Int))/\wx=w'):=λwx hk i hi=>by
  have :=pz (h.keep hk (by simp) (by simp)) (i:Int);rw[N7 hi] at this;rwa[jF (aj i).1]
 have HP:Hid (∀(r:Bool) w',(r=true↔(n.S%64≠0->n.B.getD (n.S/64).toNat 0≠0->∀j:Nat,n.S%64<=(j:Int)->j<64->rJ ((az B ps).getD (1080+8*(n.B.getD (n.S/64).toNat 0).toNat+j/8) 0).toNat (j%8)=0))->ay [] w w'->dt w (j5 (az B ps) n) (.returned (.bool r)) w'):=λr w' hr hk=>⟨r,rfl,hr.trans (Vw hB hR hK).symm,hk⟩
 have z:=bh.new w (aM n v) 111;have cJ:=(ay.refl [] w).alloc (.cells (aM n v) 111);generalize az B ps=X at *;generalize j5 X n=pT at *;obtain⟨s,hs⟩:=cy hS.1;have c3:(w.alloc (.cells (aM n v) 111)).cell? ⟨w.heap.size,3,none⟩=some (.int .i64 (s:Int)):=by rw[z.cell,<-hs];exact(gG v hB).f3
 have hm:(s:Int).tmod 64=((s%64:Nat):Int):=rfl;have hd:(s:Int).tdiv 64=((s/64:Nat):Int):=rfl;have Tx:s<=832:=by omega
 have J:Hid (∀(r:Bool) w',(r=true↔(s%64≠0->n.B.getD (s/64) 0≠0->∀j:Nat,s%64<=j->j<64->rJ (X.getD (1080+8*(n.B.getD (s/64) 0).toNat+j/8) 0).toNat (j%8)=0))->ay [] w w'->dt w pT (.returned (.bool r)) w'):=λr w' hr hk=>HP.out r w' (hr.trans (by
  rw[hs,show((s:Int)/64).toNat=s/64 by omega];constructor
  ·intro h h0 z j hj
   exact h (by omega) z j (by omega)
  ·intro h h0 z j hj
   exact h (by omega) z j (by omega))) hk
 clear HP hs h aj hS;by_cases h0:s%64=0
 ·have HF:=ar (J.out true _ ⟨λ_ h=>absurd h0 h,λ_=>rfl⟩ cJ)
  rw[h0] at hm;clear J HG z cJ U h0;generalize aM n v=Z at *;go_in;go_wp2_with fail;go_ret;exact HF.out
 ·have hq:s/64<13:=by omega
  have c4:(w.alloc (.cells (aM n v) 111)).cell? ⟨w.heap.size,4+s/64,none⟩=some (.int .i64 (n.B.getD (s/64) 0)):=by rw[z.cell];exact(gG v hB).f4 _ hq
  have hy:=U (s/64);have Rw:Hid (s%64≠0):=h0;have xC:s%64<64:=iz _ (by omega);have fI:=ar cJ;generalize n.B.getD (s/64) 0=y at *;obtain⟨q,af⟩:∃q,s/64=q:=⟨_,rfl⟩;rw[af] at c4 hd hq;have aD:(q:Int)<13:=by omega
  have aO:(0:Int)<=(q:Int):=by omega
  have LG:((s%64:Nat):Int)≠0:=by omega
  obtain⟨r,ae⟩:∃r,s%64=r:=⟨_,rfl⟩;rw[ae] at hm xC Rw J LG;have aL:((r:Int)==0)=false:=by simpa using LG
  clear z cJ U h0 af ae Tx LG;generalize aM n v=Z at *;by_cases W:y=0
  ·subst W
   have HF:=ar (J.out true _ ⟨λ_ _ h=>absurd rfl h,λ_=>rfl⟩ fI.out);clear J HG hy;go_in;go_wp2_with fail;go_ret;exact HF.out
  ·obtain⟨V,rfl⟩:=cy hy.1
   rw[aG] at J;have aJ:(((V:Nat):Int)==0)=false:=by simpa using W
   have aI:V<256:=by omega
   have aB:Hid (((V:Nat):Int)≠0):=W;have DX:=ar (λw=>ky (V:Int) w);rw[show iO (V:Int)=((1080+8*V:Nat):Int) by unfold iO;rw[aA];omega] at DX;have HQ:Hid (∀k:Nat,k<64->1080+8*V+k/8<3128):=λk hk=>by omega
   clear hy W;generalize 1080+8*V=Q at *;go_in;go_wp2_with fail;go_loopg [7] (64-r) (λgh s7 wx=>∃k:Nat,k+gh=64/\s7= .int .i64 (k:Int)/\Hid (ay [] w wx/\r<=k/\∀j,r<=j->j<k->rJ (X.getD (Q+j/8) 0).toNat (j%8)=0))
   case atStart=>exact⟨r,by omega,rfl,fI.out,aH _,λj h1 h2=>by omega⟩
   case round=>
    clear c3 c4 hm hd;obtain⟨k,hk,rfl,HI⟩:=hrel;cases gk with
    |zero=>
     obtain rfl:k=64:=by omega
     have HF:=ar (J.out true _ ⟨λ_ _ _=>HI.out.2.2,λ_=>rfl⟩ HI.out.1);clear HI J HG DX HQ;go_wp2_with fail;go_ret;exact HF.out
    |succ gg=>
     have ag:k<64:=by omega
     have xI:(k:Int)<64:=by omega
     have hp:=HQ.out k ag;obtain⟨p,G⟩:∃p,Q+k/8=p:=⟨_,rfl⟩;have nG:Hid (rJ (X.getD p 0).toNat (k%8)=0->r<=k+1/\∀j,r<=j->j<k+1->rJ (X.getD (Q+j/8) 0).toNat (j%8)=0):=λz=>⟨by have :=HI.out.2.1;omega,λj h1 h2=>by
      by_cases e:j=k
      ·rw[e,G];exact z
      ·exact HI.out.2.2 j h1 (by omega)⟩
     have j6:Hid (rJ (X.getD p 0).toNat (k%8)≠0->¬(r≠0->((V:Nat):Int)≠0->∀j:Nat,r<=j->j<64->rJ (X.getD (Q+j/8) 0).toNat (j%8)=0)):=λz hh=>z (by
      have :=hh Rw.out aB.out k HI.out.2.1 ag;rwa[G] at this)
     have aa:=ar HI.out.1;rw[G] at hp;have aP:(Q:Int)+((k/8:Nat):Int)=(p:Int):=by rw[<-G];omega
     have aF:(k:Int).tmod 8=((k%8:Nat):Int):=rfl;have F8:(k:Int).tdiv 8=((k/8:Nat):Int):=rfl;have ax:k%8<8:=iz _ (by omega);have aN:((k%8:Nat):Int)<8:=by omega
     have Cf:(0:Int)<=((k%8:Nat):Int):=by omega
     have aQ:IntKind.i64.wrap (p:Int)=(p:Int):=fR _ (by omega);have aC:wrap64 (p:Int)=(p:Int):=by unfold wrap64;omega
     clear HI HQ G;generalize k/8=d8,k%8=j8 at *;have av:=ar (DX.out wr);go_wp2_with fail;refine C' av.out ?_;obtain⟨ak,ai⟩:=hh2 (HG.out wr aa.out p hp) (Bf (X.getD p 0).toNat wr);clear DX av HG;generalize (X.getD p 0).toNat=WD at *;go_wp2_with fail;refine C' ak.out ?_;clear ak;go_wp2_with fail;refine Rr ai.out λw2 ah=> ?_;obtain⟨w3,p1,p2,p3⟩:=xY (uX 0 0) (l8 WD) (bh.new w2 (pk (pE 0 0)).toArray 203);have c8:w3.cell? ⟨w2.heap.size,j8,none⟩=some (.int .u8 ((rJ WD j8:Nat):Int)):=by
      rw[p2.cell,<-uP WD j8 ax];simpa using Be (l:=lQ WD) (j:=j8) (by rw[l8];omega)
     have py:=ar p1;rw[<-Al 0] at py;have oI:Hid (ay [] w w3):=(aa.out.trans' ah).trans' (((ay.refl [] w2).alloc _).trans p3 (by intro x hx;rw[au] at hx;omega));have aK:=Ch WD j8;clear ai ah p1 p2 p3 aa;generalize (pk (lQ WD)).toArray=ZB,rJ WD j8=bv at *;by_cases ac:bv=0
     ·subst ac
      have HN:=ar (nG.out rfl);clear nG j6 J;go_wp2_with(with_reducible refine gS 203 py.out ?_);go_roundg gg;case measure=>omega
      case rel=>exact⟨k+1,by omega,by go_num,oI.out,HN.out⟩
     ·have DN:(((bv:Nat):Int) != 0)=true:=bne_iff_ne.2 (by omega)
      have HF:=ar (J.out false _ ⟨(λh=>by cases h),λhh=>absurd hh (j6.out ac)⟩ oI.out);clear nG j6 J ac;go_wp2_with(with_reducible refine gS 203 py.out ?_);go_ret;exact HF.out
end
section
open Go.RowKit Go.Shelf
variable{b gp k n:Nat}{P:Program}{Q:Exit->Act->World->Prop}{a:Act}{A w z:World}{T:List (bT×Value)}{B:List Int}{ps:List (Int×Int)}{own:Nat->List Nat}
attribute [local go_sem] kf
theorem Wm{X:List Int}(h:rH X T own){xs:List GX}(z:xs.map lW=kO T 32):(∀x∈xs,tE x.i x.n (lX T x.i))↔yu T:=by
 constructor
 ·intro J i hi
  rcases h.form i with ⟨W,-,-⟩|⟨-,U,-⟩
  ·have G:(i,nT T i)∈kO T 32:=o9.2 ⟨hi,rfl,W⟩
   rw[<-z] at G;obtain⟨x,V,e⟩:=bF.1 G;have :=J x V
   injection e with e1 e2
   rwa[e1,e2] at this
  ·rw[U]
   exact⟨(λh=>by cases h),(λh=>by cases h)⟩
 ·intro J x V
  have G:lW x∈kO T 32:=by rw[<-z];exact bF.2 ⟨x,V,rfl⟩
  obtain⟨W,U,-⟩:=o9.1 G;have :=J x.i W;rwa[<-show x.n=nT T x.i from U] at this
theorem EU (h:gU w b gp B ps T own):
  Calls prog 84 #[b] w (dt w (yu T)):=by
 have bj:=N9;have rG:=dz;obtain⟨Z0,C7⟩:∃Z0,aM cg (.slice none 0 0)=Z0:=⟨_,rfl⟩;have Ld:Hid (Z0.size=18):=by show _=_;rw[<-C7];rfl
 rw[C7] at rG;clear C7;have HS:=ar h;clear h;generalize Yx:(dK (dQ 32 λ_=>0)).toArray=ZC at *;have ba:=ar Yx;clear Yx;have Ra:Hid (∀z,ay [] w z->Calls prog 128 #[b] z λe w'=>e=(dK (dQ 32 (lX T))).toArray/\ay [] z w'):=λz G=>Ij (HS.out.keep0 G)
 have aG:=(ay.refl [] w).alloc (.cells #[false] 4);obtain⟨aI,jK,EH⟩:=hh3 (Ra.out _ aG) aG (bh.new w #[false] 4);clear Ra aG;obtain⟨ZR,aC⟩:∃ZR,(dK (dQ 32 (lX T))).toArray=ZR:=⟨_,rfl⟩;rw[aC] at aI;have aZ:=ar aC;clear aC;refine(callsIn_wide (n:=5)).1 (callsIn_of_wp_marks func84 rfl trivial (wpIn_wide.2 ?_) rfl);simp only[ntmps84,bN,cr,cC,Nat.reduceAdd,Nat.reduceSub,fZ,gi,iI,gQ,bQ,ia];go_wp2_with fail;refine Rr aI.out λw2 ac=> ?_;obtain⟨w3,p1,p2,p3⟩:=Ki (f':=lX T) (show bh (w2.alloc (.cells ZC 182)) w2.heap.size (dK (dQ 32 λ_=>0)).toArray 182 by rw[ba.out];exact bh.new w2 _ _);rw[aZ.out] at p1;obtain⟨py,qI⟩:=hh2 p1 p2;have nE:ay [] w2 w3:=((ay.refl [] w2).alloc _).trans p3 (by intro x U;rw[au] at U;omega);obtain⟨ak,oI⟩:=hh2 (EH.out.keep (ac.trans' nE) (by simp)) (jK.out.trans' (ac.trans' nE));clear p1 p2 p3 nE ac aI EH jK;have br:=qI.out.lt;go_wp2_with(with_reducible refine gS 182 py.out ?_);generalize w2.heap.size=cb at *;refine Rr (RQ b _) λw4 af=> ?_;go_wp2_with fail;rw[<-af];have bo:w4.heap.size=w3.heap.size+1:=by rw[af];simp
 have wP:ay [] w3 w4:=by rw[af];exact(ay.refl [] w3).alloc _
 have Mk:bh w4 cb (dK (dQ 32 (lX T))).toArray 182 :=qI.out.keep wP (by simp);have jP:bh w4 w.heap.size #[false] 4 :=ak.out.keep wP (by simp);have sw:bh w4 w3.heap.size #[b] 50 :=by rw[af];exact bh.new w3 _ _
 have ae:ay [] w w4:=oI.out.trans' wP;have aO:=HS.out.keep0 ae;have bg:=HS.out.lt;have bl:=oI.out.size;have bk:w.heap.size≠cb:=λe=>by
  have V:w3.heap[cb]? =some (.cells #[false] 4 (0,0)):=by rw[<-e];exact ak.out
  have h3:=Option.some.inj (V.symm.trans qI.out)
  injection h3 with q1 q2
  exact absurd q2 (by decide)
 have xc:=Dt (n:=5-1) (by omega) aO sw (C:=[w.heap.size]) (λk G=>by rw[au] at G;subst G;have :=ak.out.lt;omega);have aA:∀xs:List GX,xs.map lW=kO T 32->((∀x∈xs,tE x.i x.n (lX T x.i))↔yu T):=λxs h=>Wm HS.out.gots h
 have aF:∀i,(nT T i).F≠0->(nT T i).K=1\/(nT T i).K=2:=λi hi=>by
  rcases HS.out.gots.form i with ⟨-,-,V⟩|⟨V,-⟩
  ·exact V.right.2.2.imp (·.1) (·.1)
  ·exact absurd V hi
 have bt:=ak.out.lt;clear af aO sw qI ak oI py;refine(wpIn_wide (n:=5)).1 ?_;refine tV (by omega) (gf:= 162) (lb:= #[.pointer (some ⟨w3.heap.size,0,none⟩)]) rfl (enters_of func162 (by kernel_rfl) rfl) xc (λk G=>by rw[au] at G;subst G;omega) (λ_=>rfl)
  (λJ A=>ay [] w A/\bh A cb (dK (dQ 32 (lX T))).toArray 182/\bh A w.heap.size #[false] 4/\∀x∈J,tE x.i x.n (lX T x.i))
  (λc J A=>c= .ret/\ay [] w A/\bh A w.heap.size #[false] 4/\∃x∈J,¬tE x.i x.n (lX T x.i))
  (λJ A A' h hb=>⟨h.1.below_trans hb (by omega),h.2.1.low hb (by omega),h.2.2.1.low hb (by omega),h.2.2.2⟩)
  (λc J A A' h hb=>⟨h.1,h.2.1.below_trans hb (by omega),h.2.2.1.low hb (by omega),h.2.2.2⟩)
  ⟨ae,Mk,jP,λx U=>by cases U⟩
  (λl x A A' h G=>h.keep G λk G=>by rw[au] at G;omega)
  (λx a' W=>∃g5,bh W g5 (aM x.n x.v) 111/\w4.heap.size<=g5/\a'={ tmps:= #[.pointer (some ⟨b,0,none⟩),undef,.pointer (some ⟨w.heap.size,0,none⟩),.pointer (some ⟨cb,0,none⟩),.int .i64 (x.i:Int),.pointer (some ⟨g5,0,none⟩),.pointer (some ⟨b,0,none⟩),.agg ZR,.pointer (some ⟨b,0,none⟩),.func (.func 162) #[] #[w3.heap.size],.int .i64 (x.i:Int),.agg (aM x.n x.v),undef,undef,undef,undef,undef,undef,undef],defers:=[] })
  (λl x a' A A' _ hr h G=>by
   obtain⟨g5,V,h2,h3⟩:=h;obtain⟨r,hr⟩:=hr;refine⟨g5,V.keep G λhm=> ?_,h2,h3⟩;rw[au] at hm;subst hm;rw[V] at hr;cases hr)
  ?assign (λl x A A' h G=>h.keep G (by simp)) ?body ?done ?stop
 case assign=>
  rintro l x W K ⟨V,h2,h3,h4,g,h5,h6⟩ bb hK;obtain⟨w5,p1,p2,p3⟩:=cu (n:=x.n) (v:=x.v) (bh.new W Z0 111) Ld.out h4 h6.one;have rz:=ar p1;have kR:ay [] W w5:=((ay.refl [] W).alloc _).trans p3 (by intro x U;rw[au] at U;omega);have HF:=ar (hK _ w5 kR ⟨W.heap.size,p2,by omega,rfl⟩);clear p1 p2 p3 kR hK V h2 h3 h4 h5 h6;unfold Wk;generalize aM x.n x.v=ZN at *
  gi_wp2_with ((with_reducible show wpListIn _ _ _ _ _ (⟨_,.store 111 (.tmp 5) (.tmp 11),_,_,_,_⟩::_) _ _);refine jS (r:=some l) rfl 111 (.tmp 5) (.tmp 11) rfl _ rfl _ rfl _ rz.out ?_)
  exact HF.out
 case body=>
  rintro l J x a' W hl bc ⟨kp,Ms,AU,aa⟩ hN ⟨aX,aB,aP,aR,g,hg,hE⟩ ⟨g5,rU,bf,rfl⟩;have aJ:=aF x.i (by rw[<-aB];exact aP);rw[<-aB] at aJ;have bq:g5≠w.heap.size:=by have :=ae.size;omega
  obtain⟨pb,av⟩:∃pb:Bool,(pb=true↔tE x.i x.n (lX T x.i)):=by
   by_cases hp:tE x.i x.n (lX T x.i)
   ·exact⟨true,λ_=>hp,λ_=>rfl⟩
   ·exact⟨false,(λh=>by cases h),λh=>absurd h hp⟩
  have aK:Hid (∀z,Calls prog 131 #[(x.i:Int),aM x.n x.v,(lX T x.i:Int)] z λe w'=>e=pb/\ay [] z w'):=λz=>(Vx x.v aR aJ x.i (lX T x.i) z).mono λe w' ⟨r,V,h2,h3⟩=>⟨by rw[V,Bool.eq_iff_iff.2 (h2.trans av.symm)],h3⟩
  have uY:Hid (∀z,ay [] W z->(loadVar 111 (g5:Nat)).run prog z= .ok (.agg (aM x.n x.v)) z):=λz G=>b9 (rU.keep G (by simp)) aR
  have I3:Hid (∀z,ay [] W z->z.cell? ⟨cb,x.i,none⟩=some (.int .i64 (lX T x.i:Int))):=λz G=>LM (Ms.keep G (by simp)) aX
  have jG:(x.i:Int)<32:=by omega
  have bn:(0:Int)<=(x.i:Int):=by omega
  have JL:Hid (∀z,ay [] W z->z.cell? w.heap.size=some (.bool false)/\z.frozen? w.heap.size=false):=λz G=>by
   have hb:=AU.keep G (by simp);exact⟨by rw[hb.cell];rfl,hb.frozen 0⟩
  have nG:Hid (pb=true->∀z,ay [] W z->vU [w.heap.size] (λJ A=>ay [] w A/\bh A cb (dK (dQ 32 (lX T))).toArray 182/\bh A w.heap.size #[false] 4/\∀x∈J,tE x.i x.n (lX T x.i)) (λc J A=>c= .ret/\ay [] w A/\bh A w.heap.size #[false] 4/\∃x∈J,¬tE x.i x.n (lX T x.i)) (J++[x]) W .normal { tmps:= #[],defers:=[] } z):=λhp z G=>
   ⟨G.mono (by simp),kp.trans' G,Ms.keep G (by simp),AU.keep G (by simp),λy hy=>by
    rcases aT.1 hy with hy|hy
    ·exact aa y hy
    ·rw[au] at hy
     subst hy;exact av.1 hp⟩
  have j6:Hid (pb=false->∀z,ay [] W z->vU [w.heap.size] (λJ A=>ay [] w A/\bh A cb (dK (dQ 32 (lX T))).toArray 182/\bh A w.heap.size #[false] 4/\∀x∈J,tE x.i x.n (lX T x.i)) (λc J A=>c= .ret/\ay [] w A/\bh A w.heap.size #[false] 4/\∃x∈J,¬tE x.i x.n (lX T x.i)) (J++[x]) W .ret { tmps:= #[],defers:=[] } (z.setCell ⟨w.heap.size,0,none⟩ (.bool false))):=λhp z G=>
   ⟨(G.mono (l':=[w.heap.size]) (by simp)).setCell (.inl (by simp)) _,rfl,(kp.trans' G).setCell (.inr (aH _)) _,(AU.keep G (by simp)).set 0 (.bool false),x,by simp,λh=>by rw[av.2 h] at hp;cases hp⟩
  have um:Hid (ay [] W W.drew):=(ay.refl _ _).drew;clear kp Ms AU aa hN aB aP hE rU aJ av aA aF Mk jP ae xc;generalize aM x.n x.v=ZN,(lX T x.i:Int)=cI at *;refine wpIn_block (wpIn_seq_k λK aL=> ?_);refine Dr (r:=some l) (S:=λz=>ay [] W z) (by kernel_rfl) (by rintro⟨a,w,h⟩;exact h) (by kernel_rfl) (by kernel_rfl) (λd _ _ _ _ h=>by cases d<;>exact h) um.out (by kernel_rfl) ?_;repeat (
   (first
   |(refine aU.cons (.bool pb) (bR.call rfl 131 #[(x.i:Int),ZN,cI] ?he ?h) ?_;(case he=>(intro wz;go_simp));(case h=>exact λz U=>(aK.out z).mono λe w' he=>⟨he.1,U.trans' he.2⟩))
   |(refine aU.cons (.agg ZN) (bR.load rfl 111 (.tmp 5) rfl _ rfl λz U=>uY.out z U) ?_)
   |(refine aU.cons ?_ (bR.val rfl ?h) ?_;(case h=>(intro z U;have bp:=I3.out z U;clear U;go_simp;rfl))));simp only[Act.put,ag,ah,ai])
  refine aU.done λz U=> ?_
  refine aL _ _ ?_;obtain⟨aD,Qs⟩:=hh2 (λh=>nG.out h z U) (λh=>j6.out h z U);obtain⟨aW,aY⟩:=JL.out z U;clear aL U nG j6 JL I3 uY aK um;cases pb
  ·have HF:=ar (Qs.out rfl)
   clear aD Qs
   gi_wp2
   exact HF.out
  ·have HF:=ar (aD.out rfl)
   clear aD Qs
   gi_wp2
   exact HF.out
 case stop=>
  rintro D c J W hD ax ⟨rfl,kp,AU,x,U,aS⟩ JV;have aN:¬yu T:=λh=>aS (by
   obtain⟨V,h2,-⟩:=o9.1 (ax.2 x U);have :=h x.i V;rwa[<-show x.n=nT T x.i from h2] at this)
  have az:=ar JV;have qT:Hid (∀W',ay [D] W W'->W'.cell? w.heap.size=some (.bool false)/\dt w (yu T) (.returned false) W'):=λW' G=>⟨by rw[(AU.keep G (by rw[au];omega)).cell];rfl,false,rfl,⟨(λh=>by cases h),λh=>absurd h aN⟩,kp.trans G (by intro y hy;rw[au] at hy;omega)⟩
  clear kp AU aS U ax JV aN;refine wpIn_wide.2 ?_;go_wp2_with fail;refine mC [D] W (by simp) (λD' aj=>by rw[au] at aj;subst aj;exact az.out) λW' G=> ?_
  obtain⟨V,h2⟩:=qT.out W' G;exact⟨.bool false,by simp[results,results84,go_sem,V],h2⟩
 case done=>
  rintro D xs W hD aV ⟨kp,Ms,AU,aa⟩ JV;have hr:=(aA xs aV).1 aa;have aW:W.cell? w.heap.size=some (.bool false):=by rw[AU.cell];rfl
  have aY:=AU.frozen 0;have aQ:=AU.set 0 (.bool true);have ac:ay [w.heap.size] W (W.setCell ⟨w.heap.size,0,none⟩ (.bool true)):=(ay.refl _ _).setCell (.inl (by simp)) _;have az:Hid ((W.setCell ⟨w.heap.size,0,none⟩ (.bool true)).heap[D]? =some (.deferred (some []))):=(ac.block D (Array.getElem?_eq_some_iff.1 JV).1 (by rw[au];omega)).trans JV;have qT:Hid (∀W',ay [D] (W.setCell ⟨w.heap.size,0,none⟩ (.bool true)) W'->W'.cell? w.heap.size=some (.bool true)/\dt w (yu T) (.returned true) W'):=λW' G=>⟨by rw[(aQ.keep G (by rw[au];omega)).cell];rfl,true,rfl,⟨λ_=>hr,λ_=>rfl⟩,(kp.trans ac (by intro y hy;rw[au] at hy;omega)).trans G (by intro y hy;rw[au] at hy;omega)⟩
  clear kp Ms AU aa JV hr aQ ac aV aA aF Mk jP ae xc;go_wp2_with fail;refine mC [D] _ (by simp) (λD' aj=>by rw[au] at aj;subst aj;exact az.out) λW' G=> ?_
  obtain⟨V,h2⟩:=qT.out W' G;exact⟨.bool true,by simp[results,results84,go_sem,V],h2⟩
end
end Go.Proofs.YtepbpdipenedhaaGreatDoor
