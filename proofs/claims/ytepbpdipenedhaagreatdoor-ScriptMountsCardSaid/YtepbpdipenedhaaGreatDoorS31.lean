/- Lemmas. -/
import Derived.Test.YtepbpdipenedhaaGreatDoorS30
set_option maxHeartbeats 4000000
set_option maxRecDepth 100000
namespace Go.Proofs.YtepbpdipenedhaaGreatDoor
open Go.Proofs.Tryz
open Go.RowKit
variable{A w y:World}{b gp k n:Nat}{P:Program}{Q:Exit->Act->World->Prop}{a:Act}{T:List (bN×Value)}{B:List Int}{ps:List (Int×Int)}{own:Nat->List Nat}
theorem Mj (f:Int):aU (vF f) (.slice none 0 0)= #[.int .i64 f,.int .i64 2,.int .i64 1,.int .i64 0,.int .i64 0,.int .i64 0,.int .i64 0,.int .i64 0,.int .i64 0,.int .i64 0,.int .i64 0,.int .i64 0,.int .i64 0,.int .i64 0,.int .i64 0,.int .i64 0,.int .i64 0,.slice none 0 0]:=rfl
def Laid (w:World) (b gn gl gf:Nat) (d:Int) (w':World):Prop:=
 ∃Y,Kh Y xY/\(bp Y).length=255/\dQ w' b gn gl gf (calm Y d)/\ay [b,gn,gl,gf] w w'
theorem aaq{gn gl gf:Nat}{xs:List Int}{d:Int}(h:dQ w b gn gl gf (calm xs d))(h0:0<=d)(hd:d<100000000000000000)(hx:xs.length=3128)(hT:lC w){f:Int}(hf:f=1\/f=2):
  Calls prog 24 #[.pointer (some ⟨b,0,none⟩),.int .i64 f] w λe w'=>e= .returned (.int .i64 0)/\Laid w b gn gl gf (d+3520) w':=by
 have HN:=ar (Bq (w:=w) (v:= .slice none 0 0) (g:=0) (ws:=[]) ⟨none,0,rfl,aG _,by simp[maxLen],λh=>absurd rfl h⟩);have HL:=ar (λwx (Z:ay [] w wx)=>C0 (h.keep Z (by simp) (by simp)) hx);have ho:=h.old (by show xs.length≠0;omega)
 -- Aim, the puts, the root, settle
 have af:Hid (∀U J,w.heap.size<=J->ay [] w U->eT U J J (jy []) []->Calls prog 47 #[.pointer (some ⟨J,0,none⟩),.int .i64 f] U λe w2=>e= .returned (.int .i64 0)/\Hid (∃V,(w.heap.size<=V/\V<w2.heap.size)/\eT w2 J V (jy []) [(1,f),(2,0)]/\ay [] w w2)):=λU J hb Z hs=>by
  refine(aad hs ⟨hs.raw.lt,hs.raw.lt⟩ (by simp) f (JS hs (uh 1))).mono ?_;rintro e w2 ⟨r,qs,V,rfl,hg,G,z,-,hr⟩;have hz:(az (jy []) []).getD 1 0=0:=uh 1;have hq:r=0/\qs=[(1,f),(2,0)]:=by
   rcases hr with ⟨-,h1,-⟩|⟨h1,-,⟨h2,-⟩|⟨-,h2⟩⟩
   ·exact absurd hf h1
   ·rw[hz] at h2;omega
   ·exact⟨h1,h2⟩
  obtain⟨rfl,rfl⟩:=hq;refine⟨rfl,V,by have :=Z.size;have :=z.size;have :=hs.raw.lt;omega,G,Z.trans z λy hy=> .inr (by simp only[aQ,aS,bD,or_self] at hy;omega)⟩
 have LG:Hid (∀U J V ps (i x:Int),Mw i=true->ps.length<=10->w.heap.size<=J->(w.heap.size<=V/\V<U.heap.size)->ay [] w U->eT U J V (jy []) ps->Calls prog 48 #[.pointer (some ⟨J,0,none⟩),.int .i64 i,.int .u64 x] U λe w2=>e= .returned (.tuple #[])/\Hid (∃ib,(w.heap.size<=ib/\ib<w2.heap.size)/\eT w2 J ib (jy []) (ps++[(i,x)])/\ay [] w w2)):=λU J V ps i x hi hp hb hg Z hs=>by
  refine(o7 hs (by omega) i x).mono ?_;rintro e w2 ⟨rfl,ib,ah,G,z⟩;rw[Ae,aB hi] at G;refine⟨rfl,ib,by have :=Z.size;have :=z.size;omega,G,Z.trans z λy hy=> .inr (by simp only[aQ,aS,bD] at hy;omega)⟩
 have N2:Hid (∀U J V,w.heap.size<=J->(w.heap.size<=V/\V<U.heap.size)->ay [] w U->eT U J V (jy []) (uS f)->Calls prog 49 #[.pointer (some ⟨J,0,none⟩),.int .i64 0,.agg (aU (vF f) (.slice none 0 0))] U λe w2=>e= .returned (.int .i64 0)/\Hid (∃ib Y,Kh Y xY/\(bp Y).length=255/\ay [] w w2/\Calls prog 51 #[.pointer (some ⟨J,0,none⟩)] w2 λe w3=>∃v,e= .returned v/\Hid (Calls prog 50 #[.pointer (some ⟨b,0,none⟩),v] w3 λe w4=>e= .returned (.int .i64 0)/\Hid (ib=ib/\Laid w b gn gl gf (d+3520) w4)))):=λU J V hb hg Z hs=>by
  have au:J<U.heap.size/\V<U.heap.size:=⟨hs.raw.lt,hg.2⟩;refine(za hs (XS hf).st.w64 (λwx hx=>hT.keep (Z.trans hx λy hy=> .inr (by simp only[aQ,aS,bD] at hy;omega))) au.2 (by simp[uS]) 0 (vF f) (.slice none 0 0) 0 rfl (br.nil _ _) (λk Z=>by simp[vF] at Z) (λh=>absurd rfl h)).mono ?_;rintro e w2 ⟨r,qs,ib,rfl,ah,G,z,-,hr⟩;obtain⟨rfl,T,own,Hd,ye,h8⟩:=Wx hf hr;have po:ay [] w w2:=Z.trans z λy hy=> .inr (by simp only[aQ,aS,bD] at hy;omega)
  refine⟨rfl,ib,_,⟨h8,T,own,Hd⟩,ye,po,?_⟩;refine(Mi G).mono ?_;rintro e w3 ⟨v,g,rfl,ak,ax,ai⟩;refine⟨v,rfl,?_⟩;have Ar:=po.trans' ai;show Calls _ _ _ _ _;refine(Mg (h.keep Ar (by simp) (by simp)) h0 hd hx Hd.st.len ak (by have :=po.size;intro hm;simp only[aQ,aS,bD] at hm;omega)).mono ?_;rintro e w4 ⟨rfl,h1,h2⟩;exact⟨rfl,rfl,_,⟨h8,T,own,Hd⟩,ye,h1,(Ar.mono (by simp)).trans' h2⟩
 rw[Mj] at N2;clear h h0 hd hx hT hf ho;generalize Laid w b gn gl gf (d+3520)=Q at *;go_enter func24,ntmps24;go_wp2_with fail;refine HN.out.mono ?_;rintro e U ⟨J,rfl,aa,ac,Z⟩;have uI:=ar (HL.out U Z);have HA:=ar (af.out U J aa Z ac);have DB:=ar aa;clear Z HL HN af ac aa;go_wp2_with fail;refine uI.out.mono ?_;rintro e w' ⟨rfl,rfl⟩;go_wp2_with fail;refine HA.out.mono ?_;rintro e w2 ⟨rfl,hr⟩;obtain⟨V,W,G,z⟩:=hr.out;have HP:=ar (LG.out w2 J V _ 0 7596835243318849792 (by decide) (by simp) DB.out W z G);clear hr W G z HA uI;go_wp2_with fail;refine HP.out.mono ?_;rintro e w3 ⟨rfl,hr⟩;obtain⟨av,W,G,z⟩:=hr.out;have oM:=ar (LG.out w3 J av _ 2 32 (by decide) (by simp) DB.out W z G);clear hr W G z HP LG;go_wp2_with fail;refine oM.out.mono ?_;rintro e w4 ⟨rfl,hr⟩;obtain⟨aj,W,G,z⟩:=hr.out;have HI:=ar (N2.out w4 J aj DB.out W z G);have xB:=fu;rw[C7] at xB;clear hr W G z oM N2 DB;go_wp2_with fail;refine HI.out.mono ?_;rintro e w5 ⟨rfl,hr⟩;obtain⟨-,-,-,-,-,hw⟩:=hr.out;have ae:=ar hw;clear hr hw HI;go_wp2_with fail;refine ae.out.mono ?_;rintro e w6 ⟨v,rfl,ag⟩;clear ae;go_wp2_with fail;refine ag.out.mono ?_;rintro e w7 ⟨rfl,hq⟩;clear ag;go_wp2_with fail;go_ret;exact⟨rfl,hq.out.2⟩
def XW {α:Type} (n:Nat) (P:Program) (gf:Nat) (lb:Array Value) (U:α->Array Value) (V:Nat->α->World->Prop) (S Z:List α->Prop) (N:Nat) (C:List Nat) (w:World):Prop:=
 ∀(l:Nat) (J z:List α->World->Prop) (W:World),ay [] w W->w.heap.size<=l->l<W.heap.size->
  (∀h A y,J h A->ay [] A y->J h y)->(∀h A y,z h A->ay [] A y->z h y)->
  (∀h x A,J h A->h.length<N->V l x A->YieldAt Fence.wide (n-1) P l (U x) A λe y=>
   (e= .returned (.bool true)/\J (h++[x]) y/\ay (l::C) A y)\/(e= .returned (.bool false)/\z (h++[x]) y))->
  J [] W->
  CallsIn Fence.wide n P gf (#[.func (.yield l) #[] #[]]++lb) W λe G=>(∃v,e= .returned v)/\((∃xs,S xs/\J xs G)\/(∃h,Z h/\z h G))
def rb {α:Type} (C:List Nat) (I:List α->World->Prop) (h:Code->List α->World->Prop) (xs:List α) (W:World):Exit->Act->World->Prop
 | .normal,_,W'=>ay C W W'/\I xs W'
 | .ret,_,W'=>ay C W W'/\h .ret xs W'
 | .exit id,_,W'=>ay C W W'/\h (.exit id) xs W'
 | .goto t,_,W'=>ay C W W'/\h (.goto t) xs W'
 | .panic _,_,_=>False
 | .outgrown,_,_=>False
theorem oK (W:World)(l:Nat)(o:Obj):ay [l] W (W.putObj l o):=
 ⟨rfl,rfl,rfl,by simp,λk _ h=>World.putObj_heap_other (by simpa using h)⟩
theorem pO{α:Type}{g:Operand}{ps:Array Tmp}{assign body:Code}(h1:1<=n){gf:Nat}{lb:Array Value}(hg:a.eval g= .func (.func gf) #[] lb)(eg:∀args w,(callFunc gf args).run P w= .ok (.enter gf args) w)
  {TV:α->Array Value} {Rd:Nat->α->World->Prop} {S Sp:List α->Prop} {N:Nat} {C:List Nat} (av:XW (n-1) P gf lb TV Rd S Sp N C w) (hC:∀k∈C,k<w.heap.size) (ax:∀x,(TV x).size=ps.size)
  (I:List α->World->Prop) (Ix:Code->List α->World->Prop) (hI:∀z A G,I z A->Below w.heap.size A G->I z G) (ac:∀c z A G,Ix c z A->Below w.heap.size A G->Ix c z G) (h0:I [] w)
  (aC:∀l x A G,Rd l x A->ay [l] A G->Rd l x G) (Ax:α->Act->World->Prop) (aI:∀l x a' A G,w.heap.size<=l->(∃r,A.heap[l]? =some (.loop r))->Ax x a' A->ay [l] A G->Ax x a' G)
  (WI:∀(l:Nat) (x:α) (W:World) (K:Act->World->Prop),Rd l x W->w.heap.size<W.heap.size->(∀a' W',ay [] W W'->Ax x a' W'->K a' W')->
   assign.wpIn (Fence.wide.inRound l) (n-1-1) P (Exit.then K (λ_ _ _=>False)) { tmps:=(ps.zip (TV x)).foldl (λt (p,v)=>t.setIfInBounds p v) a.tmps,defers:=[] } W)
  (aH:∀l x A G,Rd l x A->ay [] A G->Rd l x G)
  (ak:∀(l:Nat) (z:List α) (x:α) (a':Act) (W:World),w.heap.size<l->l<W.heap.size->I z W->z.length<N->Rd l x W->Ax x a' W->body.wpIn (Fence.wide.inRound l) (n-1-1) P (rb C I Ix (z++[x]) W) a' W)
  (ar:∀(D:Nat) (xs:List α) (W:World),w.heap.size<=D->S xs->I xs W->W.heap[D]? =some (.deferred (some []))->Q .normal { a with defers:={ target:= .collected D,args:= #[] }::a.defers } W)
  (az:∀(D:Nat) (c:Code) (z:List α) (W:World),w.heap.size<=D->Sp z->Ix c z W->W.heap[D]? =some (.deferred (some []))->c.wpIn Fence.wide n P Q { a with defers:={ target:= .collected D,args:= #[] }::a.defers } W):
  (Code.rangeFunc g ps assign body).wpIn Fence.wide n P Q a w:=by
 refine wpIn_rangeFunc λfn aD=> ?_
 let J:LoopState->Option Code->Obj:=λst pe=> .loop { state:=st,pending:=pe,fn,tmps:=a.tmps,params:=ps,assign,body,defers:=w.heap.size }
 have e0:(w.alloc (.deferred (some []))).heap.size=w.heap.size+1:=bO _ _;have ah:∀{A G:World},w.heap.size<=A.heap.size->ay [w.heap.size+1] A G->Below w.heap.size A G:=λhA Z=>Z.below hA λk Z=>by rw[au] at Z;omega
 have WJ:∀{A G:World},w.heap.size<=A.heap.size->ay [] A G->Below w.heap.size A G:=λhA Z=>Z.below hA λk Z=>by simp at Z
 obtain⟨W1,aa⟩:∃W1,(w.alloc (.deferred (some []))).alloc (J .ready none)=W1:=⟨_,rfl⟩;have r1:W1.heap[w.heap.size+1]? =some (J .ready none):=by rw[<-aa,<-e0];exact World.alloc_heap_new _ _
 have d1:W1.heap[w.heap.size]? =some (.deferred (some [])):=by rw[<-aa];exact(Below.heap_alloc _ _ _ (by rw[e0];omega)).trans (World.alloc_heap_new w _)
 have k1:ay [] w W1:=by rw[<-aa];exact((ay.refl [] w).alloc _).alloc _
 have s1:W1.heap.size=w.heap.size+2:=by rw[<-aa,bO,e0]
 refine⟨w.heap.size+1,[{ target:= .collected w.heap.size,args:= #[] }],W1,{ target:= .fn (.func gf) lb,args:= #[.func (.yield (w.heap.size+1)) #[] #[]] },W1,gf,#[.func (.yield (w.heap.size+1)) #[] #[]]++lb,W1,by rw[<-aa];exact run_enterLoop_outer _ _ _ _ _,?_,λ_ _=>trivial,?_,λ_=>h1,?_⟩
 ·simp only[resolve,hg]
  simp[go_sem]
 ·simp[invoke,go_sem,eg]
 refine(av (w.heap.size+1) (λz A=>I z A/\A.heap[w.heap.size+1]? =some (J .ready none)/\A.heap[w.heap.size]? =some (.deferred (some [])))
  (λz A=>∃c,Ix c z A/\A.heap[w.heap.size+1]? =some (J .done (some c))/\A.heap[w.heap.size]? =some (.deferred (some []))) W1 k1 (by omega) (by omega) ?_ ?_ ?_ ⟨hI _ _ _ h0 (WJ (aG _) k1),r1,d1⟩).mono ?_
 ·rintro z A G ⟨i1,V,i3⟩ Z
  have l2:=(Array.getElem?_eq_some_iff.1 V).1;exact⟨hI _ _ _ i1 (WJ (by omega) Z),(Z.block _ l2 (by simp)).trans V,(Z.block _ (by omega) (by simp)).trans i3⟩
 ·rintro z A G ⟨c,i1,V,i3⟩ Z
  have l2:=(Array.getElem?_eq_some_iff.1 V).1;exact⟨c,ac _ _ _ _ i1 (WJ (by omega) Z),(Z.block _ l2 (by simp)).trans V,(Z.block _ (by omega) (by simp)).trans i3⟩
 ·rintro z x A ⟨i1,V,i3⟩ hN hr
  have l2:=(Array.getElem?_eq_some_iff.1 V).1;refine⟨fn,_,assign,body,run_yield V (ax x),roundIn_of_wpIn aD (WI _ x A _ hr (by omega) λa' A2 af aF=> ?_)⟩;have j2:A2.heap[w.heap.size+1]? =some (J .ready none):=(af.block _ l2 (by simp)).trans V;have j3:A2.heap[w.heap.size]? =some (.deferred (some [])):=(af.block _ (by omega) (by simp)).trans i3;have l3:w.heap.size+1<A2.heap.size:=(Array.getElem?_eq_some_iff.1 j2).1;refine⟨_,run_beginRound j2 rfl,?_⟩;have ae:=oK A2 (w.heap.size+1) (J .busy none);obtain⟨A3,ag⟩:∃A3,A2.putObj (w.heap.size+1) (J .busy none)=A3:=⟨_,rfl⟩;have m2:A3.heap[w.heap.size+1]? =some (J .busy none):=by rw[<-ag];exact World.putObj_heap_same l3
  have m3:A3.heap[w.heap.size]? =some (.deferred (some [])):=by rw[<-ag];exact(World.putObj_heap_other (by omega)).trans j3
  rw[ag] at ae;have l4:w.heap.size+1<A3.heap.size:=(Array.getElem?_eq_some_iff.1 m2).1;show body.wpIn _ _ _ _ a' (A2.putObj (w.heap.size+1) (J .busy none));rw[ag];have aA:I z A3:=hI _ _ _ (hI _ _ _ i1 (WJ (by omega) af)) (ah (by omega) ae);refine wpIn_mono (ak _ z x a' A3 (by omega) l4 aA hN (aC _ _ _ _ (aH _ _ _ _ hr af) ae) (aI _ _ _ _ _ (by omega) ⟨_,j2⟩ aF ae)) ?_;have ai:∀(y:Option Code) (U:World),ay C A3 U->(Instr.endRound (w.heap.size+1) y).run P U= .ok (.bool y.isNone) (U.putObj (w.heap.size+1) (J (if y.isNone then .ready else .done) y))/\
    Below w.heap.size U (U.putObj (w.heap.size+1) (J (if y.isNone then .ready else .done) y))/\(U.putObj (w.heap.size+1) (J (if y.isNone then .ready else .done) y)).heap[w.heap.size+1]? =some (J (if y.isNone then .ready else .done) y)/\
    (U.putObj (w.heap.size+1) (J (if y.isNone then .ready else .done) y)).heap[w.heap.size]? =some (.deferred (some []))/\ay ((w.heap.size+1)::C) A (U.putObj (w.heap.size+1) (J (if y.isNone then .ready else .done) y)):=λy U aj=>by
   have n2:U.heap[w.heap.size+1]? =some (J .busy none):=(aj.block _ l4 λhm=>by have :=hC _ hm;omega).trans m2;have n3:U.heap[w.heap.size]? =some (.deferred (some [])):=(aj.block _ (by omega) λhm=>by have :=hC _ hm;omega).trans m3;have l5:=(Array.getElem?_eq_some_iff.1 n2).1;have eW:=oK U (w.heap.size+1) (J (if y.isNone then .ready else .done) y);refine⟨run_endRound (P:=P) y n2,ah (by omega) eW,World.putObj_heap_same l5,(World.putObj_heap_other (by omega)).trans n3,?_⟩;have q1:ay ((w.heap.size+1)::C) A A3:=(af.mono (l':=(w.heap.size+1)::C) (by simp)).trans ae (by simp);have q2:ay ((w.heap.size+1)::C) A U:=q1.trans aj λx hx=> .inl (by simp[hx])
   exact q2.trans eW (by simp)
  rintro e a3 U hp;cases e with
  |normal=>
   obtain⟨f1,f2,f3,f4,f5⟩:=ai none U hp.1;exact⟨_,_,f1,.inl ⟨rfl,⟨hI _ _ _ hp.2 f2,f3,f4⟩,f5⟩⟩
  |ret=>
   obtain⟨f1,f2,f3,f4,f5⟩:=ai (some .ret) U hp.1;exact⟨_,_,f1,.inr ⟨rfl,.ret,ac _ _ _ _ hp.2 f2,f3,f4⟩⟩
  |exit id=>
   obtain⟨f1,f2,f3,f4,f5⟩:=ai (some (.exit id)) U hp.1;exact⟨_,_,f1,.inr ⟨rfl,.exit id,ac _ _ _ _ hp.2 f2,f3,f4⟩⟩
  |goto t=>
   obtain⟨f1,f2,f3,f4,f5⟩:=ai (some (.goto t)) U hp.1;exact⟨_,_,f1,.inr ⟨rfl,.goto t,ac _ _ _ _ hp.2 f2,f3,f4⟩⟩
  |panic ch=>exact hp.elim
  |outgrown=>exact hp.elim
 ·rintro e A ⟨⟨v,rfl⟩,h⟩
  rcases h with ⟨xs,hS,i1,V,i3⟩|⟨z,aB,c,i1,V,i3⟩
  ·have l2:=(Array.getElem?_eq_some_iff.1 V).1
   have eW:=oK A (w.heap.size+1) (J .exhausted none);exact⟨none,_,run_endLoop (P:=P) V (by simp),ar _ xs _ (aG _) hS (hI _ _ _ i1 (ah (by omega) eW)) ((World.putObj_heap_other (by omega)).trans i3)⟩
  ·have l2:=(Array.getElem?_eq_some_iff.1 V).1
   have eW:=oK A (w.heap.size+1) (J .exhausted (some c));exact⟨some c,_,run_endLoop (P:=P) V (by simp),az _ c z _ (aG _) aB (ac _ _ _ _ i1 (ah (by omega) eW)) ((World.putObj_heap_other (by omega)).trans i3)⟩
theorem zn{y:Array Oper}{S:World->Prop}{r:Option Nat}{Z:Nat}(J:P.follows .mixedOrders=true)(V:¬LetsOut Q)(z:xu y=true)(G:uV .any y y.size y.size=true)(W:∀d v c a w,Q (.panic c) (Act.put a d v) w->Q (.panic c) a w)(U:S w.drew)
  (kG:Region.ready .any y (dU y.size y.size)=[]) (h:aH P y S (Q .normal) y.toList a):(Code.region Z y true).wpIn { Fence.wide with round:=r } n P Q a w:=by
 refine tC J V (xw z) ?_;rw[<-kA];refine lY (S:=λ_=>S) (F:=y.size) (L:=y.size) _ _ _ ?_ _ U;refine Ez (m:=y.size) G (aG _) (aG _) W (E:=λa=>∀w,S w->Q .normal a w) (λa h=> ?_) y.toList 0 a (by simp) (aG _) (λk hk=>by simp) (aH.toB _ _ h);rw[Nat.sub_self];exact⟨kG,h⟩
section
variable {P:Program} {n:Nat} {r:Option Nat} {ops:Array Oper} {Q:Exit->Act->World->Prop} {rest:List Oper} {o:Oper} {a:Act} {w:World}
theorem mU (J:Region.wanted o (yielded ops a.tmps)=true)(ty:TypeId)(x:Operand)(z:o.op= .load ty x)(y:Addr)(G:a.eval x= .pointer (some y))(v:Value)
  (U:(loadVar ty y).run P w= .ok v w) (h:wpListIn { Fence.wide with round:=r } n P ops Q rest (a.put o.dst v) w):wpListIn { Fence.wide with round:=r } n P ops Q (o::rest) a w:=by
 unfold wpListIn;rw[aB J];refine rz (λc e=>by rw[z] at e;cases e) ?_;unfold Oper.wp execOp;simp only[z,G,Instr.loadAt,Instr.sureAddr,bM,eZ,bX,U];exact h
theorem iM (U:Region.wanted o (yielded ops a.tmps)=true)(ty:TypeId)(x y:Operand)(G:o.op= .store ty x y)(z:Addr)(J:a.eval x= .pointer (some z))(v:Value)(V:a.eval y=v)(w':World)
  (W:(storeVar ty z v).run P w= .ok () w') (h:wpListIn { Fence.wide with round:=r } n P ops Q rest (a.put o.dst undef) w'):wpListIn { Fence.wide with round:=r } n P ops Q (o::rest) a w:=by
 unfold wpListIn;rw[aB U];refine rz (λc e=>by rw[G] at e;cases e) ?_;unfold Oper.wp execOp;simp only[G,J,V,Instr.storeAt,Instr.sureAddr,bM,eZ,bX,W];exact h
end
end Go.Proofs.YtepbpdipenedhaaGreatDoor
namespace Go.Proofs.YtepbpdipenedhaaGreatDoor
open Go.Proofs.Tryz
open Go.RowKit Go.Shelf
variable{A w y:World}{b gp k n:Nat}{P:Program}{Q:Exit->Act->World->Prop}{a:Act}{T:List (bN×Value)}{B:List Int}{ps:List (Int×Int)}{own:Nat->List Nat}
attribute [local go_sem] iW
structure GX where
 i:Nat
 n:bN
 v:Value
def Qk (x:GX):Array Value:= #[.int .i64 (x.i:Int),.agg (aU x.n x.v)]
def jP (x:GX):Nat×bN:=(x.i,x.n)
theorem Fw (T:List (bN×Value)):∀k,(jm T k).length<=k
 |0=>aG _
 |k+1=>by
  have :=Fw T k;unfold jm;rw[aD];split<;>simp<;>omega
def RdG (T:List (bN×Value)) (l:Nat) (x:GX) (A:World):Prop:=
 x.i<32/\x.n=nT T x.i/\x.n.F≠0/\x.n.B.length=13/\∃g,l<g/\br A x.v g x.n.E
theorem RdG.keep{l:Nat}{x:GX}(h:RdG T l x A){m:List Nat}(W:ay m A y)(U:∀k∈m,k<=l):RdG T l x y:=by
 obtain⟨J,z,G,h4,g,Z,V⟩:=h;exact⟨J,z,G,h4,g,Z,V.keep W λ_ hg=>by have :=U _ hg;omega⟩
theorem Mk (b:Nat)(w:World):Calls prog 130 #[.pointer (some ⟨b,0,none⟩)] w λe w'=>
  e= .returned (.func (.func 162) #[] #[.pointer (some ⟨w.heap.size,0,none⟩)])/\w'=w.alloc (.cells #[.pointer (some ⟨b,0,none⟩)] 50):=by
 go_enter func130,ntmps130;go_wp2_with fail;go_ret;exact⟨rfl,rfl⟩
theorem WK (n l V b gp:Nat)(B:List Int)(ps:List (Int×Int))(T:List (bN×Value))(own:Nat->List Nat)(hn:1<=n)(C:List Nat)(hC:∀k∈C,k≠V/\k≠b/\k≠gp)(J Jx:List GX->World->Prop)
  (hJ:∀y A U,J y A->ay [] A U->J y U) (hl:l≠V/\l≠b/\l≠gp)
  (hY:∀y x A,J y A->y.length<32->RdG T l x A->YieldAt Fence.wide (n-1) prog l (Qk x) A λe U=>
   (e= .returned (.bool true)/\J (y++[x]) U/\ay (l::C) A U)\/(e= .returned (.bool false)/\Jx (y++[x]) U))
  (W:World) (av:l<W.heap.size) (ax:bf W V #[.pointer (some ⟨b,0,none⟩)] 50) (hs:fX W b gp B ps T own) (Z:J [] W):
  CallsIn Fence.wide n prog 162 #[.func (.yield l) #[] #[],.pointer (some ⟨V,0,none⟩)] W λe W'=>(∃v,e= .returned v)/\
   ((∃xs:List GX,xs.map jP=jm T 32/\J xs W')\/(∃y:List GX,(y≠[]/\∀x∈y,jP x∈jm T 32)/\Jx y W')):=by
 have xB:=fu;obtain⟨Z0,ze⟩:∃Z0,aU cX (.slice none 0 0)=Z0:=⟨_,rfl⟩;have De:Hid (Z0.size=18):=by show _=_;rw[<-ze];rfl
 rw[ze] at xB;clear ze;have HC:=ar hC;have Er:=ar hl;have ak:Hid (([]:List GX).map jP=jm T 0/\J [] W/\fX W b gp B ps T own/\bf W V #[.pointer (some ⟨b,0,none⟩)] 50/\l<W.heap.size):=⟨rfl,Z,hs,ax,av⟩;clear hC hl Z hs ax av;refine callsIn_of_wp func162 rfl trivial ?_ rfl;simp only[ntmps162,bH,bF,b9,Nat.reduceAdd,Nat.reduceSub,fk,fo,gG,fx,bT,fL]
 gi_wp2
 gi_loopw [7] (λi wr=>∃(k:Nat) (y:List GX),k<=32/\i= .int .i64 (k:Int)/\Hid (y.map jP=jm T k/\J y wr/\fX wr b gp B ps T own/\bf wr V #[.pointer (some ⟨b,0,none⟩)] 50/\l<wr.heap.size))
  (λi _=>32-(intOf i).toNat)
 case atStart=>exact⟨0,[],by omega,rfl,ak.out⟩
 case round=>
  clear ak;obtain⟨k,y,hk,rfl,G⟩:=hrel;by_cases ac:k<32
  ·have ya:(k:Int)<32:=by omega
   have c0:wr.cell? ⟨V,0,none⟩=some (.pointer (some ⟨b,0,none⟩)):=by rw[G.out.2.2.2.1.cell];rfl
   have HG:=ar (G.out.2.2.1.get ac)
   gi_wp2
   refine⟨trivial,callsIn_wide.2 (HG.out.mono ?_)⟩;rintro e w3 ⟨v,g,va,ga,r,rfl,hB,hE,hg,hO,sG,af,hr⟩;obtain⟨w4,p1,p2,p3⟩:=fW (n:=nT T k) (v:=v) (bf.new w3 Z0 111) De.out hB hE.one;have wQ:=ar p1;have z:ay [] wr w4:=af.trans' (((ay.refl [] w3).alloc _).trans p3 (by intro x hx;rw[au] at hx;omega));have oN:=ar z;have aC:=ar (cC p2 hB);have aa:=hJ _ _ _ G.out.2.1 z;have AL:Hid (fX w4 b gp B ps T own/\bf w4 V #[.pointer (some ⟨b,0,none⟩)] 50/\l<w4.heap.size):=⟨G.out.2.2.1.keep0 z,G.out.2.2.2.1.keep z (by simp),by have :=G.out.2.2.2.2;have :=z.size;omega⟩;have QJ:br w4 v g (nT T k).E:=hE.keep (((ay.refl [w3.heap.size] w3).alloc (.cells Z0 111)).trans' p3) (λZ=>hE.apart (l:=[w3.heap.size]) (λx hx=>by rw[au] at hx;omega) Z);have RN:Hid ((nT T k).F≠0->jm T (k+1)=jm T k++[(k,nT T k)]):=λh=>by show jm T k++_=_;rw[aA h]
   have ag:Hid ((nT T k).F=0->jm T (k+1)=jm T k):=λh=>by show jm T k++_=_;rw[aB h,bq]
   by_cases Z:r=0
   ·subst Z
    have hF:(nT T k).F≠0:=by
     rcases hr with ⟨-,h⟩|⟨h,-⟩|⟨h,-⟩
     ·exact h
     ·omega
     ·omega
    have ai:y.length<32:=by
     have h1:=b8 List.length G.out.1;rw[bG] at h1;have h2:=Fw T k;omega
    obtain⟨fn,tmps,assign,body,hy,hR⟩:=hY y ⟨k,nT T k,v⟩ w4 aa ai ⟨ac,rfl,hF,hB,g,by have :=G.out.2.2.2.2;omega,QJ⟩;have F4:Hid ((y++[(⟨k,nT T k,v⟩:GX)]).map jP=jm T (k+1)):=by
     show _=_;rw[RN.out hF,eJ,G.out.1];rfl
    have ah:Hid (∀U,ay (l::C) w4 U->fX U b gp B ps T own/\bf U V #[.pointer (some ⟨b,0,none⟩)] 50/\l<U.heap.size):=λU hk=>by
     have hc:=HC.out;have ae:=Er.out;refine⟨AL.out.1.keep hk λq hq=> .inr ?_,AL.out.2.1.keep hk λhm=> ?_,bt AL.out.2.2 hk.size⟩
     ·rcases aQ.1 hq with rfl|hq
      ·exact⟨ae.2.1,ae.2.2⟩
      ·exact⟨(hc q hq).2.1,(hc q hq).2.2⟩
     ·rcases aQ.1 hm with e|hm
      ·exact ae.1 e.symm
      ·exact(hc V hm).1 rfl
    unfold Qk at hy
    dsimp only at hy
    clear hr hF aa QJ AL hE hB hg hO sG af z p1 p2 p3 RN ag G c0 ai ac;generalize aU (nT T k) v=ZN at *
    gi_wp2_with (first|((with_reducible show wpListIn _ _ _ _ _ (⟨_,.store 111 (.tmp 4) (.tmp 14),_,_,_,_⟩::_) _ _);refine iM (r:=none) rfl 111 (.tmp 4) (.tmp 14) rfl _ rfl _ rfl _ wQ.out ?_)|((with_reducible show wpListIn _ _ _ _ _ (⟨_,.load 111 (.tmp 4),_,_,_,_⟩::_) _ _);refine mU (r:=none) rfl 111 (.tmp 4) rfl _ rfl _ aC.out ?_))
    refine hR.mono ?_;rintro e W5 (⟨rfl,aj,kr⟩|⟨rfl,az⟩)
    ·have HF:Hid ((y++[(⟨k,nT T k,v⟩:GX)]).map jP=jm T (k+1)/\J (y++[⟨k,nT T k,v⟩]) W5/\fX W5 b gp B ps T own/\bf W5 V #[.pointer (some ⟨b,0,none⟩)] 50/\l<W5.heap.size):=⟨F4.out,aj,ah.out _ kr⟩
     clear aj kr F4 ah
     gi_wp2
     go_roundw
     case rel=>exact⟨k+1,_,by omega,by go_num,HF.out⟩
     case measure=>simp[intOf];omega
    ·have HF:Hid ((y++[(⟨k,nT T k,v⟩:GX)])≠[]/\∀x∈y++[(⟨k,nT T k,v⟩:GX)],jP x∈jm T 32):=by
      refine⟨by simp,λx hx=> ?_⟩;have h1:jP x∈(y++[(⟨k,nT T k,v⟩:GX)]).map jP:=bL.2 ⟨x,hx,rfl⟩;rw[F4.out] at h1;obtain⟨a1,a2,a3⟩:=mq.1 h1;exact mq.2 ⟨by omega,a2,a3⟩
     clear F4 ah
     gi_wp2
     refine aL (results_none rfl _ _ _) rfl ?_;exact⟨⟨_,rfl⟩,.inr ⟨_,HF.out,az⟩⟩
   ·have b0:(r==0)=false:=by simpa using Z
    have hF:(nT T k).F=0:=by
     rcases hr with ⟨h,-⟩|⟨-,h,-⟩|⟨-,h,-⟩
     ·exact absurd h Z
     ·exact h
     ·exact h
    have HF:Hid (y.map jP=jm T (k+1)/\J y w4/\fX w4 b gp B ps T own/\bf w4 V #[.pointer (some ⟨b,0,none⟩)] 50/\l<w4.heap.size):=⟨by rw[ag.out hF];exact G.out.1,aa,AL.out⟩;clear hr hF aa QJ AL hE hB hg hO sG af z p1 p2 p3 Z RN ag G c0;generalize aU (nT T k) v=ZN at *
    gi_wp2_with ((with_reducible show wpListIn _ _ _ _ _ (⟨_,.store 111 (.tmp 4) (.tmp 14),_,_,_,_⟩::_) _ _);refine iM (r:=none) rfl 111 (.tmp 4) (.tmp 14) rfl _ rfl _ rfl _ wQ.out ?_)
    refine⟨λ_ h=>(by cases h),?_⟩
    gi_wp2
    go_roundw
    case rel=>exact⟨k+1,_,by omega,by go_num,HF.out⟩
    case measure=>simp[intOf];omega
  ·obtain rfl:k=32:=by omega
   have HF:=ar (And.intro G.out.1 G.out.2.1);clear G ac hk
   gi_wp2
   go_end0;exact⟨⟨_,rfl⟩,.inl ⟨y,HF.out.1,HF.out.2⟩⟩
theorem zo (hn:1<=n){w:World}{z b G:Nat}{B:List Int}{ps:List (Int×Int)}{T:List (bN×Value)}{own:Nat->List Nat}(Z:fX w b G B ps T own)(h:bf w z #[.pointer (some ⟨b,0,none⟩)] 50){C:List Nat}(hC:∀k∈C,k≠z/\k≠b/\k≠G):
  XW n prog 162 #[.pointer (some ⟨z,0,none⟩)] Qk (RdG T) (λxs=>xs.map jP=jm T 32) (λy=>y≠[]/\∀x∈y,jP x∈jm T 32) 32 C w:=by
 intro l J Jx W V hl U hJ _ hY h0;have h1:=h.lt;have h2:=Z.lt;exact WK n l z b G B ps T own hn C hC J Jx hJ ⟨by omega,by omega,by omega⟩ hY W U (h.keep V (by simp)) (Z.keep0 V) h0
end Go.Proofs.YtepbpdipenedhaaGreatDoor
namespace Go.Proofs.YtepbpdipenedhaaGreatDoor
open Go.Proofs.Tryz
open Go.RowKit
variable{A w y:World}{b gp k n:Nat}{P:Program}{Q:Exit->Act->World->Prop}{a:Act}{T:List (bN×Value)}{B:List Int}{ps:List (Int×Int)}{own:Nat->List Nat}
theorem Ql (z:k<32){b:Int}:b∈mW T (k:Int)↔∃j,j<(nT T k).E.length/\iC (nT T k).E j=b:=by
 unfold mW;rw[aB (by omega),aJ];constructor
 ·intro h
  obtain⟨j,y,e⟩:=bU h;rw[bG] at y;rw[fQ] at e;exact⟨j,y,by rw[<-e];simp[iC,y]⟩
 ·rintro⟨j,y,e⟩
  refine bL.2 ⟨(nT T k).E[j],bA y,?_⟩;rw[<-e];simp[iC,y]
end Go.Proofs.YtepbpdipenedhaaGreatDoor
namespace Go.Proofs.YtepbpdipenedhaaGreatDoor
open Go.Proofs.Tryz
open Go.RowKit Go.Shelf
variable{A w y:World}{b gp k n:Nat}{P:Program}{Q:Exit->Act->World->Prop}{a:Act}{T:List (bN×Value)}{B:List Int}{ps:List (Int×Int)}{own:Nat->List Nat}
attribute [local go_sem] iW
theorem bf.low{c:Array Value}{T:Nat}(h:bf A k c T)(z:Below n A y)(G:k<n):bf y k c T:=(z.block k G).trans h
theorem ay.below_trans{l:List Nat}{z:World}(h:ay l w A)(y:Below n A z)(U:w.heap.size<=n):ay l w z:=
 ⟨y.os.trans h.os,y.tape.trans h.tape,y.output.trans h.output,cJ h.size y.size,λk J G=>(y.block k (by omega)).trans (h.block k J G)⟩
theorem C8 (h:fX w b gp B ps T own):
  Calls prog 128 #[.pointer (some ⟨b,0,none⟩)] w λe w'=>e= .returned (.agg (cM (cL 32 (jQ T))).toArray)/\ay [] w w':=by
 have bb:=Jr;have xB:=fu;obtain⟨Z0,ze⟩:∃Z0,aU cX (.slice none 0 0)=Z0:=⟨_,rfl⟩;have De:Hid (Z0.size=18):=by show _=_;rw[<-ze];rfl
 rw[ze] at xB;clear ze;have HS:=ar h;clear h;generalize VS:(cM (cL 32 λ_=>0)).toArray=ZC at *;have ag:=ar VS;clear VS;refine(callsIn_wide (n:=5)).1 (callsIn_of_wp_marks func128 rfl trivial (wpIn_wide.2 ?_) rfl);simp only[ntmps128,bH,bF,b9,Nat.reduceAdd,Nat.reduceSub,fk,fo,gG,fx,bT,fL];go_wp2_with fail;refine(Mk b _).mono ?_;rintro e w2 ⟨rfl,U⟩;go_wp2_with fail;rw[<-U];have aG:w2.heap.size=w.heap.size+3:=by rw[U];simp
 have QE:bf w2 (w.heap.size+1) ZC 182 :=by
  have :=(bf.new (w.alloc (.cells ZC 182)) ZC 182).alloc (.cells #[.pointer (some ⟨b,0,none⟩)] 50);rw[bO] at this;rw[U];exact this
 have sB:bf w2 w.heap.size ZC 182 :=by
  rw[U];exact((bf.new w ZC 182).alloc _).alloc _
 have vg:bf w2 (w.heap.size+1+1) #[.pointer (some ⟨b,0,none⟩)] 50 :=by
  have :=bf.new ((w.alloc (.cells ZC 182)).alloc (.cells ZC 182)) #[.pointer (some ⟨b,0,none⟩)] 50;rw[bO,bO] at this;rw[U];exact this
 have aa:ay [] w w2:=by
  rw[U];exact(((ay.refl [] w).alloc _).alloc _).alloc _
 have aQ:=HS.out.keep0 aa;have aF:=HS.out.lt;have rZ:=zo (n:=5-1) (by omega) aQ vg (C:=[w.heap.size+1]) (λk J=>by rw[au] at J;subst J;omega);have ak:=HS.out.gots.elen;have af:=HS.out.gots.tabS;have aj:=HS.out.gots.tabN;clear U aQ vg;refine(wpIn_wide (n:=5)).1 ?_;refine pO (by omega) (gf:= 162) (lb:= #[.pointer (some ⟨w.heap.size+1+1,0,none⟩)]) rfl (enters_of func162 (by kernel_rfl) rfl) rZ (λk J=>by rw[au] at J;subst J;omega) (λ_=>rfl)
  (λG A=>ay [] w A/\bf A (w.heap.size+1) (cM (cL 32 λq=>sJ (G.map jP) q)).toArray 182/\bf A w.heap.size ZC 182/\∀q,sJ (G.map jP) q<=24*G.length)
  (λ_ _ _=>False)
  (λG A A' h hb=>⟨h.1.below_trans hb (by omega),h.2.1.low hb (by omega),h.2.2.1.low hb (by omega),h.2.2.2⟩)
  (λ_ _ _ _ h _=>h)
  ⟨aa,by have :=QE;rw[<-ag.out] at this;exact this,sB,λq=>eD _⟩
  (λl x A A' h J=>h.keep J λk J=>by rw[au] at J;omega)
  (λx a' W=>∃g5,bf W g5 (aU x.n x.v) 111/\w2.heap.size<=g5/\a'={ tmps:= #[.pointer (some ⟨b,0,none⟩),undef,.pointer (some ⟨w.heap.size,0,none⟩),.pointer (some ⟨w.heap.size+1,0,none⟩),undef,.pointer (some ⟨g5,0,none⟩),undef,undef,.pointer (some ⟨b,0,none⟩),.func (.func 162) #[] #[.pointer (some ⟨w.heap.size+1+1,0,none⟩)],.int .i64 (x.i:Int),.agg (aU x.n x.v),undef,undef,undef,undef,undef,undef,undef,undef,undef,undef,undef,undef,undef,undef,undef],defers:=[] })
  (λl x a' A A' _ hr h J=>by
   obtain⟨g5,h1,h2,h3⟩:=h;obtain⟨r,hr⟩:=hr;refine⟨g5,h1.keep J λhm=> ?_,h2,h3⟩;rw[au] at hm;subst hm;rw[h1] at hr;cases hr)
  ?assign (λl x A A' h J=>h.keep J (by simp)) ?body ?done ?stop
 case stop=>
  rintro D c G W _ _ h _;exact h.elim
 case assign=>
  rintro l x W K ⟨h1,h2,h3,h4,g,h5,h6⟩ bc hK;obtain⟨w4,p1,p2,p3⟩:=fW (n:=x.n) (v:=x.v) (bf.new W Z0 111) De.out h4 h6.one;have wQ:=ar p1;have az:ay [] W w4:=((ay.refl [] W).alloc _).trans p3 (by intro x hx;rw[au] at hx;omega);have HF:=ar (hK _ w4 az ⟨W.heap.size,p2,by omega,rfl⟩);clear p1 p2 p3 az hK h1 h2 h3 h4 h5 h6;unfold Qk;generalize aU x.n x.v=ZN at *
  gi_wp2_with ((with_reducible show wpListIn _ _ _ _ _ (⟨_,.store 111 (.tmp 5) (.tmp 11),_,_,_,_⟩::_) _ _);refine iM (r:=some l) rfl 111 (.tmp 5) (.tmp 11) rfl _ rfl _ rfl _ wQ.out ?_)
  exact HF.out
 case body=>
  rintro l G x a' W hl bk ⟨sI,He,wN,ae⟩ hN ⟨aN,Z,aY,XX,g,hg,hE⟩ ⟨g5,qg,aV,rfl⟩;have aT:x.n.E.length<=24:=by rw[Z];exact ak x.i
  have LL:Hid (∀j,j<x.n.E.length->0<=iC x.n.E j/\iC x.n.E j<32):=λj hj=>by
   have hm:=aj (x.i:Int) (iC x.n.E j) ((Ql aN).2 ⟨j,by rw[<-Z];exact hj,by rw[Z]⟩);exact hm
  have kR:Hid (∀V,ay [w.heap.size+1] W V->bf V (w.heap.size+1) (cM (cL 32 λq=>sJ (G.map jP) q+uR x.n.E x.n.E.length q)).toArray 182->rb [w.heap.size+1] (λG A=>ay [] w A/\bf A (w.heap.size+1) (cM (cL 32 λq=>sJ (G.map jP) q)).toArray 182/\bf A w.heap.size ZC 182/\∀q,sJ (G.map jP) q<=24*G.length) (λ_ _ _=>False) (G++[x]) W .normal { tmps:= #[],defers:=[] } V):=λV J hb=>by
   have e:∀q,sJ ((G++[x]).map jP) q=sJ (G.map jP) q+uR x.n.E x.n.E.length q:=λq=>by
    rw[eJ,zX];rfl
   refine⟨J,sI.trans J (by intro y hy;rw[au] at hy;omega),?_,wN.keep J (by simp),λq=> ?_⟩
   ·rw[pL λq _=>e q]
    exact hb
   ·have h1:=ae q
    have h2:=M6 x.n.E x.n.E.length q;rw[e,aD,iT];omega
  obtain⟨an,cn,hv,bo,Sk,ai⟩:=hE.open;have aM:W.cell? ⟨g5,17,none⟩=some (.slice an x.n.E.length cn):=by rw[qg.cell,<-hv];exact(jL _ XX).f5
  have WL:=ar ai;have aH:Hid (ay [w.heap.size+1] W W/\bf W (w.heap.size+1) (cM (cL 32 λq=>sJ (G.map jP) q+uR x.n.E 0 q)).toArray 182):=⟨ay.refl _ _,by
   rw[pL (f':=λq=>sJ (G.map jP) q) λq _=>by rw[Pr,dP]];exact He⟩
  have aP:=ar ae;have bh:Hid (g<W.heap.size\/x.n.E.length=0):=by
   by_cases h0:x.n.E.length=0
   ·exact .inr h0
   ·exact .inl (ai 0 (by omega)).1
  have aZ:Hid (l<g/\w.heap.size+2<l):=⟨hg,by omega⟩;have bg:=zW;have aC:Hid (G.length<32):=hN;clear sI He wN ae hN hE hv ai aN Z aY hg ak af aj qg aV QE sB aa aG aF HS;generalize aU x.n x.v=ZN at *;generalize sJ (G.map jP)=fP at *;obtain⟨mE,XK⟩:∃mE,x.n.E.length=mE:=⟨_,rfl⟩;have aR:=ar XK;rw[XK] at aM WL LL kR aT;clear XK;generalize x.n.E=E at *
  gi_wp2
  gi_loopw [15] (λi wr=>∃j:Nat,j<=mE/\i= .int .i64 (j:Int)/\Hid (ay [w.heap.size+1] W wr/\bf wr (w.heap.size+1) (cM (cL 32 λq=>fP q+uR E j q)).toArray 182))
   (λi _=>mE-(intOf i).toNat)
  case atStart=>exact⟨0,by omega,rfl,aH.out⟩
  case round=>
   clear aH aM;obtain⟨j,hj,rfl,HI⟩:=hrel;by_cases ac:j<mE
   ·have KJ:(j:Int)<(mE:Int):=by omega
    have zz:(0:Int)<=(j:Int):=by omega
    obtain⟨aS,off,rfl,d1,d2⟩:=WL.out j ac;have av:=HI.out.1.block g aS (by rw[au];have :=aZ.out;omega);have Z5:Hid ((loadVar 87 ⟨g,off+j*2,none⟩).run prog wr= .ok (.agg #[.string (dZ E j),.int .i64 (iC E j)]) wr):=
     wu ((aK (w:=W) (a:=⟨g,off+j*2,none⟩) av).trans d1) ((aK (w:=W) (a:=⟨g,off+j*2+1,none⟩) av).trans d2)
    obtain⟨aX,bl⟩:=LL.out j ac;have ax:=λq=>Ps (E:=E) (j:=j) (by rw[aR.out];exact ac) q
    have aI:=λq=>M6 E j q
    generalize iC E j=yi at *;obtain⟨y,rfl⟩:=b7 aX;have ba:y<32:=by omega
    obtain⟨w6,p1,p2,p3⟩:=xN (dZ E j) (y:Int) (bf.new wr #[.string ⟨#[]⟩,.int .i64 0] 87) rfl;have jZ:ay [] wr w6:=((ay.refl [] wr).alloc _).trans p3 (by intro x hx;rw[au] at hx;omega);have c1:w6.cell? ⟨wr.heap.size,1,none⟩=some (.int .i64 (y:Int)):=by rw[p2.cell];rfl
    have AP:=HI.out.2.keep jZ (by simp);have c2:=GA AP (j:=y) ba;obtain⟨z,hz⟩:∃z,fP y+uR E j y=z:=⟨_,rfl⟩;rw[hz] at c2;have bj:z<=1000:=by have :=aP.out y;have :=aI y;have :=aC.out;omega
    have G9:Hid (∀x:Int,x=((z+1:Nat):Int)->bf (w6.setCell ⟨w.heap.size+1,y,none⟩ (.int .i64 x)) (w.heap.size+1) (cM (cL 32 λq=>fP q+uR E (j+1) q)).toArray 182):=λx hx=>Jq AP y (λq hq=>by
     rw[ax q];by_cases e:q=y
     ·subst e;rw[aB rfl,aB rfl];omega
     ·rw[aA e,aA (by omega)];omega) (by rw[hx,hz])
    have f2:=AP.frozen y;have qp:Hid (ay [w.heap.size+1] W w6):=HI.out.1.trans' (jZ.mono (by simp));have K7:=ar p1;have bn:(0:Int)<=(y:Int):=by omega
    clear HI av d1 d2 ax aI hz p1 p2 p3 jZ AP kR LL WL aP aC;generalize dZ E j=sj at *
    gi_wp2_with (first|((with_reducible show wpListIn _ _ _ _ _ (⟨_,.load 87 (.tmp 17),_,_,_,_⟩::_) _ _);refine mU (r:=some l) rfl 87 (.tmp 17) rfl _ rfl _ Z5.out ?_)|((with_reducible show wpListIn _ _ _ _ _ (⟨_,.store 87 (.tmp 7) (.tmp 18),_,_,_,_⟩::_) _ _);refine iM (r:=some l) rfl 87 (.tmp 7) (.tmp 18) rfl _ rfl _ rfl _ K7.out ?_))
    go_roundw
    case rel=>exact⟨j+1,by omega,by go_num,qp.out.setCell (.inl (by simp)) _,G9.out _ (by go_num)⟩
    case measure=>simp[intOf];omega
   ·obtain rfl:j=mE:=by omega
    have HF:=ar (kR.out _ HI.out.1 HI.out.2);clear HI kR LL WL hj ac
    gi_wp2
    exact HF.out
 case done=>
  rintro D xs W hD aO ⟨sI,He,wN,-⟩ EI;rw[aO,pL (λq _=>Tc af 32 q)] at He;have aJ:Hid ((loadVar 182 ⟨w.heap.size+1,0,none⟩).run prog W= .ok (.agg (cM (cL 32 (jQ T))).toArray) W):=Jt He;obtain⟨wS,p1,p2,p3⟩:=Fg (f':=jQ T) (show bf W w.heap.size (cM (cL 32 λ_=>0)).toArray 182 by rw[ag.out];exact wN);have U7:=ar p1;have WM:Hid (wS.heap[D]? =some (.deferred (some []))):=(p3.block D (Array.getElem?_eq_some_iff.1 EI).1 (by rw[au];omega)).trans EI;have Au:Hid (∀V,ay [D] wS V->(loadVar 182 ⟨w.heap.size,0,none⟩).run prog V= .ok (.agg (cM (cL 32 (jQ T))).toArray) V/\ay [] w V):=λV J=>⟨Jt (p2.keep J (by rw[au];omega)),(sI.trans p3 (by intro y hy;rw[au] at hy;omega)).trans J (by intro y hy;rw[au] at hy;omega)⟩
  clear sI He wN EI aO p1 p2 p3 QE sB aa aG aF HS ag ak af aj;obtain⟨ZR,ah⟩:∃ZR,(cM (cL 32 (jQ T))).toArray=ZR:=⟨_,rfl⟩;rw[ah] at aJ U7 Au;have aW:=ar ah;clear ah;go_wp2_with(first|(with_reducible refine gL 182 aJ.out ?_)|(with_reducible refine gS 182 U7.out ?_));refine kj [D] wS (by simp) (λD' aL=>by rw[au] at aL;subst aL;exact WM.out) λV J=> ?_
  obtain⟨h1,h2⟩:=Au.out V J;exact⟨_,dJ results128 rfl h1,by rw[<-aW.out],h2⟩
end Go.Proofs.YtepbpdipenedhaaGreatDoor
namespace Go.Proofs.YtepbpdipenedhaaGreatDoor
open Go.Proofs.Tryz
open Go.RowKit
variable{A w y:World}{b gp k n:Nat}{P:Program}{Q:Exit->Act->World->Prop}{a:Act}{T:List (bN×Value)}{B:List Int}{ps:List (Int×Int)}{own:Nat->List Nat}
theorem GZ (h:eT w b gp B ps)(ak:In64 (az B ps)){n:bN}(v:Value)(hB:n.B.length=13)(hR:bR n)(hK:n.K=1):
  Calls prog 134 #[.pointer (some ⟨b,0,none⟩),.agg (aU n v)] w (cW w (jO (az B ps) n)):=by
 have hS:0<=n.S/\n.S<=832:=by
  rcases hR.2.2 with h|h
  ·exact h.2.1
  ·omega
 have J:=uy hR hB;have HG:Hid (∀wx,ay [] w wx->∀i:Nat,i<3128->Calls prog 127 #[.pointer (some ⟨b,0,none⟩),.int .i64 (i:Int)] wx λe w'=>e= .returned (.int .u64 (((az B ps).getD i 0).toNat:Int))/\wx=w'):=λwx hk i hi=>by
  have :=nE (h.keep hk (by simp) (by simp)) (i:Int);rw[Jp hi] at this;rwa[gM (ak i).1]
 have HP:Hid (∀(r:Bool) w',(r=true↔(n.S%64≠0->n.B.getD (n.S/64).toNat 0≠0->∀j:Nat,n.S%64<=(j:Int)->j<64->pU ((az B ps).getD (1080+8*(n.B.getD (n.S/64).toNat 0).toNat+j/8) 0).toNat (j%8)=0))->ay [] w w'->cW w (jO (az B ps) n) (.returned (.bool r)) w'):=λr w' hr hk=>⟨r,rfl,hr.trans (Pt hB hR hK).symm,hk⟩
 have z:=bf.new w (aU n v) 111;have eo:=(ay.refl [] w).alloc (.cells (aU n v) 111);generalize az B ps=X at *;generalize jO X n=pT at *;obtain⟨s,hs⟩:=b7 hS.1;have c3:(w.alloc (.cells (aU n v) 111)).cell? ⟨w.heap.size,3,none⟩=some (.int .i64 (s:Int)):=by rw[z.cell,<-hs];exact(jL v hB).f3
 have hm:(s:Int).tmod 64=((s%64:Nat):Int):=rfl;have hd:(s:Int).tdiv 64=((s/64:Nat):Int):=rfl;have ax:s<=832:=by omega
 have G:Hid (∀(r:Bool) w',(r=true↔(s%64≠0->n.B.getD (s/64) 0≠0->∀j:Nat,s%64<=j->j<64->pU (X.getD (1080+8*(n.B.getD (s/64) 0).toNat+j/8) 0).toNat (j%8)=0))->ay [] w w'->cW w pT (.returned (.bool r)) w'):=λr w' hr hk=>HP.out r w' (hr.trans (by
  rw[hs,show((s:Int)/64).toNat=s/64 by omega];constructor
  ·intro h h0 z j hj
   exact h (by omega) z j (by omega)
  ·intro h h0 z j hj
   exact h (by omega) z j (by omega))) hk
 clear HP hs h ak hS;by_cases h0:s%64=0
 ·have HF:=ar (G.out true _ ⟨λ_ h=>absurd h0 h,λ_=>rfl⟩ eo)
  rw[h0] at hm;clear G HG z eo J h0;generalize aU n v=Z at *;go_enter func134,ntmps134;go_wp2_with fail;go_ret;exact HF.out
 ·have hq:s/64<13:=by omega
  have c4:(w.alloc (.cells (aU n v) 111)).cell? ⟨w.heap.size,4+s/64,none⟩=some (.int .i64 (n.B.getD (s/64) 0)):=by rw[z.cell];exact(jL v hB).f4 _ hq
  have hy:=J (s/64);have XQ:Hid (s%64≠0):=h0;have sH:s%64<64:=gi _ (by omega);have gH:=ar eo;generalize n.B.getD (s/64) 0=y at *;obtain⟨q,ae⟩:∃q,s/64=q:=⟨_,rfl⟩;rw[ae] at c4 hd hq;have aM:(q:Int)<13:=by omega
  have aK:(0:Int)<=(q:Int):=by omega
  have QK:((s%64:Nat):Int)≠0:=by omega
  obtain⟨r,ah⟩:∃r,s%64=r:=⟨_,rfl⟩;rw[ah] at hm sH XQ G QK;have aD:((r:Int)==0)=false:=by simpa using QK
  clear z eo J h0 ae ah ax QK;generalize aU n v=Z at *;by_cases V:y=0
  ·subst V
   have HF:=ar (G.out true _ ⟨λ_ _ h=>absurd rfl h,λ_=>rfl⟩ gH.out);clear G HG hy;go_enter func134,ntmps134;go_wp2_with fail;go_ret;exact HF.out
  ·obtain⟨W,rfl⟩:=b7 hy.1
   rw[aJ] at G;have aP:(((W:Nat):Int)==0)=false:=by simpa using V
   have aN:W<256:=by omega
   have aB:Hid (((W:Nat):Int)≠0):=V;have AO:=ar (λw=>jI (W:Int) w);rw[show jH (W:Int)=((1080+8*W:Nat):Int) by unfold jH;rw[aA (by omega)];omega] at AO;have HQ:Hid (∀k:Nat,k<64->1080+8*W+k/8<3128):=λk hk=>by omega
   clear hy V;generalize 1080+8*W=Q at *;go_enter func134,ntmps134;go_wp2_with fail;go_loopg [7] (64-r) (λgh s7 wx=>∃k:Nat,k+gh=64/\s7= .int .i64 (k:Int)/\Hid (ay [] w wx/\r<=k/\∀j,r<=j->j<k->pU (X.getD (Q+j/8) 0).toNat (j%8)=0))
   case atStart=>exact⟨r,by omega,rfl,gH.out,aG _,λj h1 h2=>by omega⟩
   case round=>
    clear c3 c4 hm hd;obtain⟨k,hk,rfl,HI⟩:=hrel;cases gk with
    |zero=>
     obtain rfl:k=64:=by omega
     have HF:=ar (G.out true _ ⟨λ_ _ _=>HI.out.2.2,λ_=>rfl⟩ HI.out.1);clear HI G HG AO HQ;go_wp2_with fail;go_ret;exact HF.out
    |succ gg=>
     have ag:k<64:=by omega
     have ya:(k:Int)<64:=by omega
     have hp:=HQ.out k ag;obtain⟨p,U⟩:∃p,Q+k/8=p:=⟨_,rfl⟩;have kR:Hid (pU (X.getD p 0).toNat (k%8)=0->r<=k+1/\∀j,r<=j->j<k+1->pU (X.getD (Q+j/8) 0).toNat (j%8)=0):=λz=>⟨by have :=HI.out.2.1;omega,λj h1 h2=>by
      by_cases e:j=k
      ·rw[e,U];exact z
      ·exact HI.out.2.2 j h1 (by omega)⟩
     have jc:Hid (pU (X.getD p 0).toNat (k%8)≠0->¬(r≠0->((W:Nat):Int)≠0->∀j:Nat,r<=j->j<64->pU (X.getD (Q+j/8) 0).toNat (j%8)=0)):=λz hh=>z (by
      have :=hh XQ.out aB.out k HI.out.2.1 ag;rwa[U] at this)
     have Xo:=ar HI.out.1;rw[U] at hp;have aL:(Q:Int)+((k/8:Nat):Int)=(p:Int):=by rw[<-U];omega
     have aI:(k:Int).tmod 8=((k%8:Nat):Int):=rfl;have BN:(k:Int).tdiv 8=((k/8:Nat):Int):=rfl;have av:k%8<8:=gi _ (by omega);have aF:((k%8:Nat):Int)<8:=by omega
     have zz:(0:Int)<=((k%8:Nat):Int):=by omega
     have aC:IntKind.i64.wrap (p:Int)=(p:Int):=dV _ (by omega);have aO:wrap64 (p:Int)=(p:Int):=by unfold wrap64;omega
     clear HI HQ U;generalize k/8=d8 at *;generalize k%8=j8 at *;have ai:=ar (AO.out wr);go_wp2_with fail;refine ai.out.mono ?_;rintro e w1 ⟨rfl,rfl⟩;have ac:=ar (HG.out wr Xo.out p hp);have af:=ar (BC (X.getD p 0).toNat wr);clear AO ai HG;generalize (X.getD p 0).toNat=WD at *;go_wp2_with fail;refine ac.out.mono ?_;rintro e w1 ⟨rfl,rfl⟩;clear ac;go_wp2_with fail;refine af.out.mono ?_;rintro e w2 ⟨rfl,aj⟩;obtain⟨w3,p1,p2,p3⟩:=tD (qB 0 0) (kS WD) (bf.new w2 (mV (mI 0 0)).toArray 203);have c8:w3.cell? ⟨w2.heap.size,j8,none⟩=some (.int .u8 ((pU WD j8:Nat):Int)):=by
      rw[p2.cell,<-sV WD j8 av];simpa using xf (l:=jW WD) (j:=j8) (by rw[kS];omega)
     have uz:=ar p1;rw[<-vO 0] at uz;have lV:Hid (ay [] w w3):=(Xo.out.trans' aj).trans' (((ay.refl [] w2).alloc _).trans p3 (by intro x hx;rw[au] at hx;omega));have aH:=yg WD j8;clear af aj p1 p2 p3 Xo;generalize (mV (jW WD)).toArray=ZB at *;generalize pU WD j8=bv at *;by_cases aa:bv=0
     ·subst aa
      have HN:=ar (kR.out rfl);clear kR jc G;go_wp2_with(with_reducible refine gS 203 uz.out ?_);go_roundg gg;case measure=>omega
      case rel=>exact⟨k+1,by omega,by go_num,lV.out,HN.out⟩
     ·have Ex:(((bv:Nat):Int) != 0)=true:=bne_iff_ne.2 (by omega)
      have HF:=ar (G.out false _ ⟨(λh=>by cases h),λhh=>absurd hh (jc.out aa)⟩ lV.out);clear kR jc G aa;go_wp2_with(with_reducible refine gS 203 uz.out ?_);go_ret;exact HF.out
end Go.Proofs.YtepbpdipenedhaaGreatDoor
namespace Go.Proofs.YtepbpdipenedhaaGreatDoor
open Go.Proofs.Tryz
open Go.RowKit Go.Shelf
variable{A w y:World}{b gp k n:Nat}{P:Program}{Q:Exit->Act->World->Prop}{a:Act}{T:List (bN×Value)}{B:List Int}{ps:List (Int×Int)}{own:Nat->List Nat}
attribute [local go_sem] iW
theorem Qm{X:List Int}(h:oo X T own){xs:List GX}(y:xs.map jP=jm T 32):(∀x∈xs,pJ x.i x.n (jQ T x.i))↔tV T:=by
 constructor
 ·intro G i W
  rcases h.form i with ⟨V,-,-⟩|⟨-,J,-⟩
  ·have z:(i,nT T i)∈jm T 32:=mq.2 ⟨W,rfl,V⟩
   rw[<-y] at z;obtain⟨x,U,e⟩:=bL.1 z;have :=G x U
   injection e with e1 e2
   rwa[e1,e2] at this
  ·rw[J]
   exact⟨(λh=>by cases h),(λh=>by cases h)⟩
 ·intro G x U
  have z:jP x∈jm T 32:=by rw[<-y];exact bL.2 ⟨x,U,rfl⟩
  obtain⟨V,J,-⟩:=mq.1 z;have :=G x.i V;rwa[<-show x.n=nT T x.i from J] at this
theorem AF (h:fX w b gp B ps T own):
  Calls prog 84 #[.pointer (some ⟨b,0,none⟩)] w (cW w (tV T)):=by
 have aY:=Jr;have xB:=fu;obtain⟨Z0,ze⟩:∃Z0,aU cX (.slice none 0 0)=Z0:=⟨_,rfl⟩;have De:Hid (Z0.size=18):=by show _=_;rw[<-ze];rfl
 rw[ze] at xB;clear ze;have HS:=ar h;clear h;generalize VS:(cM (cL 32 λ_=>0)).toArray=ZC at *;have aT:=ar VS;clear VS;have LL:Hid (∀z,ay [] w z->Calls prog 128 #[.pointer (some ⟨b,0,none⟩)] z λe w'=>e= .returned (.agg (cM (cL 32 (jQ T))).toArray)/\ay [] z w'):=λz G=>C8 (HS.out.keep0 G)
 have az:=(ay.refl [] w).alloc (.cells #[.bool false] 4);have av:=ar (LL.out _ az);have jl:=ar az;have KZ:=ar (bf.new w #[.bool false] 4);clear LL az;obtain⟨ZR,aA⟩:∃ZR,(cM (cL 32 (jQ T))).toArray=ZR:=⟨_,rfl⟩;rw[aA] at av;have aS:=ar aA;clear aA;refine(callsIn_wide (n:=5)).1 (callsIn_of_wp_marks func84 rfl trivial (wpIn_wide.2 ?_) rfl);simp only[ntmps84,bH,bF,b9,Nat.reduceAdd,Nat.reduceSub,fk,fo,gG,fx,bT,fL];go_wp2_with fail;refine av.out.mono ?_;rintro e w2 ⟨rfl,aa⟩;obtain⟨w3,p1,p2,p3⟩:=Fg (f':=jQ T) (show bf (w2.alloc (.cells ZC 182)) w2.heap.size (cM (cL 32 λ_=>0)).toArray 182 by rw[aT.out];exact bf.new w2 _ _);rw[aS.out] at p1;have uz:=ar p1;have p9:=ar p2;have mO:ay [] w2 w3:=((ay.refl [] w2).alloc _).trans p3 (by intro x U;rw[au] at U;omega);have Wu:=ar (KZ.out.keep (aa.trans' mO) (by simp));have lV:=ar (jl.out.trans' (aa.trans' mO));clear p1 p2 p3 mO aa av KZ jl;have bp:=p9.out.lt;go_wp2_with(with_reducible refine gS 182 uz.out ?_);generalize w2.heap.size=cb at *;refine(Mk b _).mono ?_;rintro e w4 ⟨rfl,ae⟩;go_wp2_with fail;rw[<-ae];have bn:w4.heap.size=w3.heap.size+1:=by rw[ae];simp
 have DN:ay [] w3 w4:=by rw[ae];exact(ay.refl [] w3).alloc _
 have QE:bf w4 cb (cM (cL 32 (jQ T))).toArray 182 :=p9.out.keep DN (by simp);have sB:bf w4 w.heap.size #[.bool false] 4 :=Wu.out.keep DN (by simp);have vg:bf w4 w3.heap.size #[.pointer (some ⟨b,0,none⟩)] 50 :=by rw[ae];exact bf.new w3 _ _
 have ac:ay [] w w4:=lV.out.trans' DN;have aI:=HS.out.keep0 ac;have bl:=HS.out.lt;have ba:=lV.out.size;have bb:w.heap.size≠cb:=λe=>by
  have V:w3.heap[cb]? =some (.cells #[.bool false] 4 (0,0)):=by rw[<-e];exact Wu.out
  have h3:=Option.some.inj (V.symm.trans p9.out)
  injection h3 with q1 q2
  exact absurd q2 (by decide)
 have rZ:=zo (n:=5-1) (by omega) aI vg (C:=[w.heap.size]) (λk G=>by rw[au] at G;subst G;have :=Wu.out.lt;omega);have aF:∀xs:List GX,xs.map jP=jm T 32->((∀x∈xs,pJ x.i x.n (jQ T x.i))↔tV T):=λxs h=>Qm HS.out.gots h
 have aB:∀i,(nT T i).F≠0->(nT T i).K=1\/(nT T i).K=2:=λi hi=>by
  rcases HS.out.gots.form i with ⟨-,-,V⟩|⟨V,-⟩
  ·exact V.right.2.2.imp (·.1) (·.1)
  ·exact absurd V hi
 have bo:=Wu.out.lt;clear ae aI vg p9 Wu lV uz;refine(wpIn_wide (n:=5)).1 ?_;refine pO (by omega) (gf:= 162) (lb:= #[.pointer (some ⟨w3.heap.size,0,none⟩)]) rfl (enters_of func162 (by kernel_rfl) rfl) rZ (λk G=>by rw[au] at G;subst G;omega) (λ_=>rfl)
  (λJ A=>ay [] w A/\bf A cb (cM (cL 32 (jQ T))).toArray 182/\bf A w.heap.size #[.bool false] 4/\∀x∈J,pJ x.i x.n (jQ T x.i))
  (λc J A=>c= .ret/\ay [] w A/\bf A w.heap.size #[.bool false] 4/\∃x∈J,¬pJ x.i x.n (jQ T x.i))
  (λJ A A' h hb=>⟨h.1.below_trans hb (by omega),h.2.1.low hb (by omega),h.2.2.1.low hb (by omega),h.2.2.2⟩)
  (λc J A A' h hb=>⟨h.1,h.2.1.below_trans hb (by omega),h.2.2.1.low hb (by omega),h.2.2.2⟩)
  ⟨ac,QE,sB,λx U=>by cases U⟩
  (λl x A A' h G=>h.keep G λk G=>by rw[au] at G;omega)
  (λx a' W=>∃g5,bf W g5 (aU x.n x.v) 111/\w4.heap.size<=g5/\a'={ tmps:= #[.pointer (some ⟨b,0,none⟩),undef,.pointer (some ⟨w.heap.size,0,none⟩),.pointer (some ⟨cb,0,none⟩),.int .i64 (x.i:Int),.pointer (some ⟨g5,0,none⟩),.pointer (some ⟨b,0,none⟩),.agg ZR,.pointer (some ⟨b,0,none⟩),.func (.func 162) #[] #[.pointer (some ⟨w3.heap.size,0,none⟩)],.int .i64 (x.i:Int),.agg (aU x.n x.v),undef,undef,undef,undef,undef,undef,undef],defers:=[] })
  (λl x a' A A' _ hr h G=>by
   obtain⟨g5,V,h2,h3⟩:=h;obtain⟨r,hr⟩:=hr;refine⟨g5,V.keep G λhm=> ?_,h2,h3⟩;rw[au] at hm;subst hm;rw[V] at hr;cases hr)
  ?assign (λl x A A' h G=>h.keep G (by simp)) ?body ?done ?stop
 case assign=>
  rintro l x W K ⟨V,h2,h3,h4,g,h5,h6⟩ aZ hK;obtain⟨w5,p1,p2,p3⟩:=fW (n:=x.n) (v:=x.v) (bf.new W Z0 111) De.out h4 h6.one;have zL:=ar p1;have kr:ay [] W w5:=((ay.refl [] W).alloc _).trans p3 (by intro x U;rw[au] at U;omega);have HF:=ar (hK _ w5 kr ⟨W.heap.size,p2,by omega,rfl⟩);clear p1 p2 p3 kr hK V h2 h3 h4 h5 h6;unfold Qk;generalize aU x.n x.v=ZN at *
  gi_wp2_with ((with_reducible show wpListIn _ _ _ _ _ (⟨_,.store 111 (.tmp 5) (.tmp 11),_,_,_,_⟩::_) _ _);refine iM (r:=some l) rfl 111 (.tmp 5) (.tmp 11) rfl _ rfl _ rfl _ zL.out ?_)
  exact HF.out
 case body=>
  rintro l J x a' W hl bj ⟨sI,He,wN,Z⟩ hN ⟨aW,aC,aM,XX,g,hg,hE⟩ ⟨g5,qg,bh,rfl⟩;have aD:=aB x.i (by rw[<-aC];exact aM);rw[<-aC] at aD;have bk:g5≠w.heap.size:=by have :=ac.size;omega
  obtain⟨pb,aj⟩:∃pb:Bool,(pb=true↔pJ x.i x.n (jQ T x.i)):=by
   by_cases hp:pJ x.i x.n (jQ T x.i)
   ·exact⟨true,λ_=>hp,λ_=>rfl⟩
   ·exact⟨false,(λh=>by cases h),λh=>absurd h hp⟩
  have aJ:Hid (∀z,Calls prog 131 #[.int .i64 (x.i:Int),.agg (aU x.n x.v),.int .i64 (jQ T x.i:Int)] z λe w'=>e= .returned (.bool pb)/\ay [] z w'):=λz=>(Pu x.v XX aD x.i (jQ T x.i) z).mono λe w' ⟨r,V,h2,h3⟩=>⟨by rw[V,Bool.eq_iff_iff.2 (h2.trans aj.symm)],h3⟩
  have vR:Hid (∀z,ay [] W z->(loadVar 111 ⟨g5,0,none⟩).run prog z= .ok (.agg (aU x.n x.v)) z):=λz G=>cC (qg.keep G (by simp)) XX
  have aP:Hid (∀z,ay [] W z->z.cell? ⟨cb,x.i,none⟩=some (.int .i64 (jQ T x.i:Int))):=λz G=>GA (He.keep G (by simp)) aW
  have kg:(x.i:Int)<32:=by omega
  have bc:(0:Int)<=(x.i:Int):=by omega
  have Aj:Hid (∀z,ay [] W z->z.cell? ⟨w.heap.size,0,none⟩=some (.bool false)/\z.frozen? ⟨w.heap.size,0,none⟩=false):=λz G=>by
   have hb:=wN.keep G (by simp);exact⟨by rw[hb.cell];rfl,hb.frozen 0⟩
  have kR:Hid (pb=true->∀z,ay [] W z->rb [w.heap.size] (λJ A=>ay [] w A/\bf A cb (cM (cL 32 (jQ T))).toArray 182/\bf A w.heap.size #[.bool false] 4/\∀x∈J,pJ x.i x.n (jQ T x.i)) (λc J A=>c= .ret/\ay [] w A/\bf A w.heap.size #[.bool false] 4/\∃x∈J,¬pJ x.i x.n (jQ T x.i)) (J++[x]) W .normal { tmps:= #[],defers:=[] } z):=λhp z G=>
   ⟨G.mono (by simp),sI.trans' G,He.keep G (by simp),wN.keep G (by simp),λy hy=>by
    rcases aR.1 hy with hy|hy
    ·exact Z y hy
    ·rw[au] at hy
     subst hy;exact aj.1 hp⟩
  have jc:Hid (pb=false->∀z,ay [] W z->rb [w.heap.size] (λJ A=>ay [] w A/\bf A cb (cM (cL 32 (jQ T))).toArray 182/\bf A w.heap.size #[.bool false] 4/\∀x∈J,pJ x.i x.n (jQ T x.i)) (λc J A=>c= .ret/\ay [] w A/\bf A w.heap.size #[.bool false] 4/\∃x∈J,¬pJ x.i x.n (jQ T x.i)) (J++[x]) W .ret { tmps:= #[],defers:=[] } (z.setCell ⟨w.heap.size,0,none⟩ (.bool false))):=λhp z G=>
   ⟨(G.mono (l':=[w.heap.size]) (by simp)).setCell (.inl (by simp)) _,rfl,(sI.trans' G).setCell (.inr (aG _)) _,(wN.keep G (by simp)).set 0 (.bool false),x,by simp,λh=>by rw[aj.2 h] at hp;cases hp⟩
  have oF:Hid (ay [] W W.drew):=(ay.refl _ _).drew;clear sI He wN Z hN aC aM hE qg aD aj aF aB QE sB ac rZ;generalize aU x.n x.v=ZN at *;generalize (jQ T x.i:Int)=cI at *;refine wpIn_block (wpIn_seq_k λK Xp=> ?_);refine zn (r:=some l) (S:=λz=>ay [] W z) (by kernel_rfl) (by rintro⟨a,w,h⟩;exact h) (by kernel_rfl) (by kernel_rfl) (λd _ _ _ _ h=>by cases d<;>exact h) oF.out (by kernel_rfl) ?_;repeat (first
   |(refine aH.cons (.bool pb) (aX.call rfl 131 #[.int .i64 (x.i:Int),.agg ZN,.int .i64 cI] ?he ?h) ?_;(case he=>(intro wz;go_simp));(case h=>exact λz U=>(aJ.out z).mono λe w' he=>⟨he.1,U.trans' he.2⟩);simp only[Act.put,ag,ah,ai])
   |(refine aH.cons (.agg ZN) (aX.load rfl 111 (.tmp 5) rfl _ rfl λz U=>vR.out z U) ?_;simp only[Act.put,ag,ah,ai])
   |(refine aH.cons ?_ (aX.val rfl ?h) ?_;(case h=>(intro z U;have bg:=aP.out z U;clear U;go_simp;rfl));simp only[Act.put,ag,ah,ai]))
  refine aH.done λz U=> ?_
  refine Xp _ _ ?_;have ax:=ar (λh=>kR.out h z U);have RO:=ar (λh=>jc.out h z U);obtain⟨aV,aQ⟩:=Aj.out z U;clear Xp U kR jc Aj aP vR aJ oF;cases pb
  ·have HF:=ar (RO.out rfl)
   clear ax RO
   gi_wp2
   exact HF.out
  ·have HF:=ar (ax.out rfl)
   clear ax RO
   gi_wp2
   exact HF.out
 case stop=>
  rintro D c J W hD ak ⟨rfl,sI,wN,x,U,aO⟩ EI;have aK:¬tV T:=λh=>aO (by
   obtain⟨V,h2,-⟩:=mq.1 (ak.2 x U);have :=h x.i V;rwa[<-show x.n=nT T x.i from h2] at this)
  have WM:=ar EI;have Au:Hid (∀W',ay [D] W W'->W'.cell? ⟨w.heap.size,0,none⟩=some (.bool false)/\cW w (tV T) (.returned (.bool false)) W'):=λW' G=>⟨by rw[(wN.keep G (by rw[au];omega)).cell];rfl,false,rfl,⟨(λh=>by cases h),λh=>absurd h aK⟩,sI.trans G (by intro y hy;rw[au] at hy;omega)⟩
  clear sI wN aO U ak EI aK;refine wpIn_wide.2 ?_;go_wp2_with fail;refine kj [D] W (by simp) (λD' af=>by rw[au] at af;subst af;exact WM.out) λW' G=> ?_
  obtain⟨V,h2⟩:=Au.out W' G;exact⟨.bool false,by simp[results,results84,go_sem,V],h2⟩
 case done=>
  rintro D xs W hD aN ⟨sI,He,wN,Z⟩ EI;have hr:=(aF xs aN).1 Z;have aV:W.cell? ⟨w.heap.size,0,none⟩=some (.bool false):=by rw[wN.cell];rfl
  have aQ:=wN.frozen 0;have aL:=wN.set 0 (.bool true);have aa:ay [w.heap.size] W (W.setCell ⟨w.heap.size,0,none⟩ (.bool true)):=(ay.refl _ _).setCell (.inl (by simp)) _;have WM:Hid ((W.setCell ⟨w.heap.size,0,none⟩ (.bool true)).heap[D]? =some (.deferred (some []))):=(aa.block D (Array.getElem?_eq_some_iff.1 EI).1 (by rw[au];omega)).trans EI;have Au:Hid (∀W',ay [D] (W.setCell ⟨w.heap.size,0,none⟩ (.bool true)) W'->W'.cell? ⟨w.heap.size,0,none⟩=some (.bool true)/\cW w (tV T) (.returned (.bool true)) W'):=λW' G=>⟨by rw[(aL.keep G (by rw[au];omega)).cell];rfl,true,rfl,⟨λ_=>hr,λ_=>rfl⟩,(sI.trans aa (by intro y hy;rw[au] at hy;omega)).trans G (by intro y hy;rw[au] at hy;omega)⟩
  clear sI He wN Z EI hr aL aa aN aF aB QE sB ac rZ;go_wp2_with fail;refine kj [D] _ (by simp) (λD' af=>by rw[au] at af;subst af;exact WM.out) λW' G=> ?_
  obtain⟨V,h2⟩:=Au.out W' G;exact⟨.bool true,by simp[results,results84,go_sem,V],h2⟩
end Go.Proofs.YtepbpdipenedhaaGreatDoor
