/- Lemmas. -/
import Derived.Test.YtcecbdeamjigiaaGreatDoorH30
set_option maxHeartbeats 4000000
set_option maxRecDepth 100000
namespace Go.Proofs.YtcecbdeamjigiaaGreatDoor
open Go.RowKit
variable{A w y:World}{b gf gl gn gp k n:Nat}{P:Program}{Q:Exit->Act->World->Prop}{a:Act}{T:List (bM×Value)}{B:List Int}{ps:List (Int×Int)}{own:Nat->List Nat}
theorem Mh (f:Int):aU (uV f) (.slice none 0 0)= #[.int .i64 f,.int .i64 2,.int .i64 1,.int .i64 0,.int .i64 0,.int .i64 0,.int .i64 0,.int .i64 0,.int .i64 0,.int .i64 0,.int .i64 0,.int .i64 0,.int .i64 0,.int .i64 0,.int .i64 0,.int .i64 0,.int .i64 0,.slice none 0 0]:=rfl
def Laid (w:World) (b gn gl gf:Nat) (d:Int) (w':World):Prop:=
 ∃Y,Mb Y Au/\(bb Y).length=255/\dO w' b gn gl gf (calm Y d)/\ay [b,gn,gl,gf] w w'
theorem Xc{s:ic}(h:dO w b gn gl gf s)(Z:s.now.length≠3128)(f:Int):
  Calls Tryz.prog 24 #[.pointer (some ⟨b,0,none⟩),.int .i64 f] w λe w'=>e= .returned (.int .i64 1)/\ay [] w w':=by
 have G:=ar (pW (w:=w) (v:= .slice none 0 0) (g:=0) (ws:=[]) ⟨none,0,rfl,aG _,by simp[maxLen],λh=>absurd rfl h⟩);have z:=ar (λW (y:ay [] w W)=>Bc (h.keep y (by simp) (by simp)));have hb:((s.now.length:Int) != 3128)=true:=by simp only[bne_iff_ne];omega
 clear Z h;generalize s.now.length=m at *;go_enter Tryz.func24,Tryz.ntmps24;go_wp2_with fail;refine G.out.mono ?_;rintro e V ⟨bs,rfl,-,-,y⟩;have U:=ar (z.out V y);have J:=ar y;clear y z G;go_wp2_with fail;refine U.out.mono ?_;rintro e w2 ⟨rfl,rfl⟩;go_wp2_with fail;go_ret;exact⟨rfl,J.out⟩
theorem Uk{xs:List Int}{d:Int}(h:dO w b gn gl gf (calm xs d))(h0:0<=d)(hd:d<100000000000000000)(hx:xs.length=3128)(hT:kI w){f:Int}(hf:f=1\/f=2):
  Calls Tryz.prog 24 #[.pointer (some ⟨b,0,none⟩),.int .i64 f] w λe w'=>e= .returned (.int .i64 0)/\Laid w b gn gl gf (d+3520) w':=by
 have HN:=ar (pW (w:=w) (v:= .slice none 0 0) (g:=0) (ws:=[]) ⟨none,0,rfl,aG _,by simp[maxLen],λh=>absurd rfl h⟩);have HL:=ar (λwx (hk:ay [] w wx)=>xy (h.keep hk (by simp) (by simp)) hx);have ho:=h.old (by show xs.length≠0;omega)
 -- Aim, the puts, the root, settle
 have Ul:Hid (∀U J,w.heap.size<=J->ay [] w U->eF U J J (iQ []) []->Calls Tryz.prog 47 #[.pointer (some ⟨J,0,none⟩),.int .i64 f] U λe Z=>e= .returned (.int .i64 0)/\Hid (∃V,(w.heap.size<=V/\V<Z.heap.size)/\eF Z J V (iQ []) [(1,f),(2,0)]/\ay [] w Z)):=λU J hb hk hs=>by
  refine(TN hs ⟨hs.raw.lt,hs.raw.lt⟩ (by simp) f (zM hs (qN 1))).mono ?_;rintro e Z ⟨r,qs,V,rfl,hg,G,z,-,hr⟩;have hz:(az (iQ []) []).getD 1 0=0:=qN 1;have hq:r=0/\qs=[(1,f),(2,0)]:=by
   rcases hr with ⟨-,h1,-⟩|⟨h1,-,⟨h2,-⟩|⟨-,h2⟩⟩
   ·exact absurd hf h1
   ·rw[hz] at h2;omega
   ·exact⟨h1,h2⟩
  obtain⟨rfl,rfl⟩:=hq;refine⟨rfl,V,by have :=hk.size;have :=z.size;have :=hs.raw.lt;omega,G,hk.trans z λy hy=> .inr (by simp only[aS,aV,bL,or_self] at hy;omega)⟩
 have LA:Hid (∀U J V ps (i x:Int),Ms i=true->ps.length<=10->w.heap.size<=J->(w.heap.size<=V/\V<U.heap.size)->ay [] w U->eF U J V (iQ []) ps->Calls Tryz.prog 48 #[.pointer (some ⟨J,0,none⟩),.int .i64 i,.int .u64 x] U λe Z=>e= .returned (.tuple #[])/\Hid (∃gA,(w.heap.size<=gA/\gA<Z.heap.size)/\eF Z J gA (iQ []) (ps++[(i,x)])/\ay [] w Z)):=λU J V ps i x hi hp hb hg hk hs=>by
  refine(oz hs (by omega) i x).mono ?_;rintro e Z ⟨rfl,gA,Yy,G,z⟩;rw[zX,aB hi] at G;refine⟨rfl,gA,by have :=hk.size;have :=z.size;omega,G,hk.trans z λy hy=> .inr (by simp only[aS,aV,bL] at hy;omega)⟩
 have N1:Hid (∀U J V,w.heap.size<=J->(w.heap.size<=V/\V<U.heap.size)->ay [] w U->eF U J V (iQ []) (uC f)->Calls Tryz.prog 49 #[.pointer (some ⟨J,0,none⟩),.int .i64 0,.agg (aU (uV f) (.slice none 0 0))] U λe Z=>e= .returned (.int .i64 0)/\Hid (∃gA Y,Mb Y Au/\(bb Y).length=255/\ay [] w Z/\Calls Tryz.prog 51 #[.pointer (some ⟨J,0,none⟩)] Z λe w3=>∃v,e= .returned v/\Hid (Calls Tryz.prog 50 #[.pointer (some ⟨b,0,none⟩),v] w3 λe w4=>e= .returned (.int .i64 0)/\Hid (gA=gA/\Laid w b gn gl gf (d+3520) w4)))):=λU J V hb hg hk hs=>by
  have ae:J<U.heap.size/\V<U.heap.size:=⟨hs.raw.lt,hg.2⟩;refine(yG hs (Yn hf).st.w64 (λwx hx=>hT.keep (hk.trans hx λy hy=> .inr (by simp only[aS,aV,bL] at hy;omega))) ae.2 (by simp[uC]) 0 (uV f) (.slice none 0 0) 0 rfl (bz.nil _ _) (λk hk=>by simp[uV] at hk) (λh=>absurd rfl h)).mono ?_;rintro e Z ⟨r,qs,gA,rfl,Yy,G,z,-,hr⟩;obtain⟨rfl,T,own,CV,uP,h8⟩:=WY hf hr;have mY:ay [] w Z:=hk.trans z λy hy=> .inr (by simp only[aS,aV,bL] at hy;omega)
  refine⟨rfl,gA,_,⟨h8,T,own,CV⟩,uP,mY,?_⟩;refine(Mf G).mono ?_;rintro e w3 ⟨v,g,rfl,af,aj,ah⟩;refine⟨v,rfl,?_⟩;have yr:=mY.trans' ah;show Calls _ _ _ _ _;refine(Md (h.keep yr (by simp) (by simp)) h0 hd hx CV.st.len af (by have :=mY.size;intro hm;simp only[aS,aV,bL] at hm;omega)).mono ?_;rintro e w4 ⟨rfl,h1,h2⟩;exact⟨rfl,rfl,_,⟨h8,T,own,CV⟩,uP,h1,(yr.mono (by simp)).trans' h2⟩
 rw[Mh] at N1;clear h h0 hd hx hT hf ho;generalize Laid w b gn gl gf (d+3520)=Q at *;go_enter Tryz.func24,Tryz.ntmps24;go_wp2_with fail;refine HN.out.mono ?_;rintro e U ⟨J,rfl,tV,sH,hk⟩;have qQ:=ar (HL.out U hk);have HA:=ar (Ul.out U J tV hk sH);have Dr:=ar tV;clear hk HL HN Ul sH tV;go_wp2_with fail;refine qQ.out.mono ?_;rintro e w' ⟨rfl,rfl⟩;go_wp2_with fail;refine HA.out.mono ?_;rintro e Z ⟨rfl,hr⟩;obtain⟨V,W,G,z⟩:=hr.out;have HP:=ar (LA.out Z J V _ 0 7596835243318849792 (by decide) (by simp) Dr.out W z G);clear hr W G z HA qQ;go_wp2_with fail;refine HP.out.mono ?_;rintro e w3 ⟨rfl,hr⟩;obtain⟨ai,W,G,z⟩:=hr.out;have nZ:=ar (LA.out w3 J ai _ 2 32 (by decide) (by simp) Dr.out W z G);clear hr W G z HP LA;go_wp2_with fail;refine nZ.out.mono ?_;rintro e w4 ⟨rfl,hr⟩;obtain⟨ag,W,G,z⟩:=hr.out;have HI:=ar (N1.out w4 J ag Dr.out W z G);have xf:=eV;rw[CZ] at xf;clear hr W G z nZ N1 Dr;go_wp2_with fail;refine HI.out.mono ?_;rintro e w5 ⟨rfl,hr⟩;obtain⟨-,-,-,-,-,hw⟩:=hr.out;have aa:=ar hw;clear hr hw HI;go_wp2_with fail;refine aa.out.mono ?_;rintro e w6 ⟨v,rfl,ac⟩;clear aa;go_wp2_with fail;refine ac.out.mono ?_;rintro e w7 ⟨rfl,hq⟩;clear ac;go_wp2_with fail;go_ret;exact⟨rfl,hq.out.2⟩
def Yr {α:Type} (n:Nat) (P:Program) (gf:Nat) (lb:Array Value) (U:α->Array Value) (Z:Nat->α->World->Prop) (S V:List α->Prop) (N:Nat) (C:List Nat) (w:World):Prop:=
 ∀(l:Nat) (J z:List α->World->Prop) (W:World),ay [] w W->w.heap.size<=l->l<W.heap.size->
  (∀h A y,J h A->ay [] A y->J h y)->(∀h A y,z h A->ay [] A y->z h y)->
  (∀h x A,J h A->h.length<N->Z l x A->YieldAt Fence.wide (n-1) P l (U x) A λe y=>
   (e= .returned (.bool true)/\J (h++[x]) y/\ay (l::C) A y)\/(e= .returned (.bool false)/\z (h++[x]) y))->
  J [] W->
  CallsIn Fence.wide n P gf (#[.func (.yield l) #[] #[]]++lb) W λe G=>(∃v,e= .returned v)/\((∃xs,S xs/\J xs G)\/(∃h,V h/\z h G))
def qO {α:Type} (C:List Nat) (I:List α->World->Prop) (h:Code->List α->World->Prop) (xs:List α) (W:World):Exit->Act->World->Prop
 | .normal,_,W'=>ay C W W'/\I xs W'
 | .ret,_,W'=>ay C W W'/\h .ret xs W'
 | .exit id,_,W'=>ay C W W'/\h (.exit id) xs W'
 | .goto t,_,W'=>ay C W W'/\h (.goto t) xs W'
 | .panic _,_,_=>False
 | .outgrown,_,_=>False
theorem nX (W:World)(l:Nat)(o:Obj):ay [l] W (W.putObj l o):=
 ⟨rfl,rfl,rfl,by simp,λk _ h=>World.putObj_heap_other (by simpa using h)⟩
theorem pg{α:Type}{g:Operand}{ps:Array Tmp}{G Z:Code}(h1:1<=n){gf:Nat}{lb:Array Value}(hg:a.eval g= .func (.func gf) #[] lb)(eg:∀args w,(callFunc gf args).run P w= .ok (.enter gf args) w)
  {Um:α->Array Value} {Rd:Nat->α->World->Prop} {S Sp:List α->Prop} {N:Nat} {C:List Nat} (ap:Yr (n-1) P gf lb Um Rd S Sp N C w) (hC:∀k∈C,k<w.heap.size) (pn:∀x,(Um x).size=ps.size)
  (I:List α->World->Prop) (Ix:Code->List α->World->Prop) (hI:∀z A J,I z A->Below w.heap.size A J->I z J) (ae:∀c z A J,Ix c z A->Below w.heap.size A J->Ix c z J) (h0:I [] w)
  (aB:∀l x A J,Rd l x A->ay [l] A J->Rd l x J) (Ax:α->Act->World->Prop) (ax:∀l x a' A J,w.heap.size<=l->(∃r,A.heap[l]? =some (.loop r))->Ax x a' A->ay [l] A J->Ax x a' J)
  (Xd:∀(l:Nat) (x:α) (W:World) (K:Act->World->Prop),Rd l x W->w.heap.size<W.heap.size->(∀a' W',ay [] W W'->Ax x a' W'->K a' W')->
   G.wpIn (Fence.wide.inRound l) (n-1-1) P (Exit.then K (λ_ _ _=>False)) { tmps:=(ps.zip (Um x)).foldl (λt (p,v)=>t.setIfInBounds p v) a.tmps,defers:=[] } W)
  (aq:∀l x A J,Rd l x A->ay [] A J->Rd l x J)
  (aC:∀(l:Nat) (z:List α) (x:α) (a':Act) (W:World),w.heap.size<l->l<W.heap.size->I z W->z.length<N->Rd l x W->Ax x a' W->Z.wpIn (Fence.wide.inRound l) (n-1-1) P (qO C I Ix (z++[x]) W) a' W)
  (aj:∀(D:Nat) (xs:List α) (W:World),w.heap.size<=D->S xs->I xs W->W.heap[D]? =some (.deferred (some []))->Q .normal { a with defers:={ target:= .collected D,args:= #[] }::a.defers } W)
  (aA:∀(D:Nat) (c:Code) (z:List α) (W:World),w.heap.size<=D->Sp z->Ix c z W->W.heap[D]? =some (.deferred (some []))->c.wpIn Fence.wide n P Q { a with defers:={ target:= .collected D,args:= #[] }::a.defers } W):
  (Code.rangeFunc g ps G Z).wpIn Fence.wide n P Q a w:=by
 refine wpIn_rangeFunc λfn az=> ?_
 let U:LoopState->Option Code->Obj:=λst pe=> .loop { state:=st,pending:=pe,fn,tmps:=a.tmps,params:=ps,assign:=G,body:=Z,defers:=w.heap.size }
 have e0:(w.alloc (.deferred (some []))).heap.size=w.heap.size+1:=cm _ _;have ah:∀{A J:World},w.heap.size<=A.heap.size->ay [w.heap.size+1] A J->Below w.heap.size A J:=λhA hk=>hk.below hA λk hk=>by rw[au] at hk;omega
 have Xe:∀{A J:World},w.heap.size<=A.heap.size->ay [] A J->Below w.heap.size A J:=λhA hk=>hk.below hA λk hk=>by simp at hk
 obtain⟨W1,af⟩:∃W1,(w.alloc (.deferred (some []))).alloc (U .ready none)=W1:=⟨_,rfl⟩;have r1:W1.heap[w.heap.size+1]? =some (U .ready none):=by rw[<-af,<-e0];exact World.alloc_heap_new _ _
 have d1:W1.heap[w.heap.size]? =some (.deferred (some [])):=by rw[<-af];exact(Below.heap_alloc _ _ _ (by rw[e0];omega)).trans (World.alloc_heap_new w _)
 have k1:ay [] w W1:=by rw[<-af];exact((ay.refl [] w).alloc _).alloc _
 have s1:W1.heap.size=w.heap.size+2:=by rw[<-af,cm,e0]
 refine⟨w.heap.size+1,[{ target:= .collected w.heap.size,args:= #[] }],W1,{ target:= .fn (.func gf) lb,args:= #[.func (.yield (w.heap.size+1)) #[] #[]] },W1,gf,#[.func (.yield (w.heap.size+1)) #[] #[]]++lb,W1,by rw[<-af];exact run_enterLoop_outer _ _ _ _ _,?_,λ_ _=>trivial,?_,λ_=>h1,?_⟩
 ·simp only[resolve,hg]
  simp[go_sem]
 ·simp[invoke,go_sem,eg]
 refine(ap (w.heap.size+1) (λz A=>I z A/\A.heap[w.heap.size+1]? =some (U .ready none)/\A.heap[w.heap.size]? =some (.deferred (some [])))
  (λz A=>∃c,Ix c z A/\A.heap[w.heap.size+1]? =some (U .done (some c))/\A.heap[w.heap.size]? =some (.deferred (some []))) W1 k1 (by omega) (by omega) ?_ ?_ ?_ ⟨hI _ _ _ h0 (Xe (aG _) k1),r1,d1⟩).mono ?_
 ·rintro z A J ⟨i1,i2,i3⟩ hk
  have l2:=(Array.getElem?_eq_some_iff.1 i2).1;exact⟨hI _ _ _ i1 (Xe (by omega) hk),(hk.block _ l2 (by simp)).trans i2,(hk.block _ (by omega) (by simp)).trans i3⟩
 ·rintro z A J ⟨c,i1,i2,i3⟩ hk
  have l2:=(Array.getElem?_eq_some_iff.1 i2).1;exact⟨c,ae _ _ _ _ i1 (Xe (by omega) hk),(hk.block _ l2 (by simp)).trans i2,(hk.block _ (by omega) (by simp)).trans i3⟩
 ·rintro z x A ⟨i1,i2,i3⟩ hN hr
  have l2:=(Array.getElem?_eq_some_iff.1 i2).1;refine⟨fn,_,G,Z,run_yield i2 (pn x),roundIn_of_wpIn az (Xd _ x A _ hr (by omega) λa' A2 ac av=> ?_)⟩;have j2:A2.heap[w.heap.size+1]? =some (U .ready none):=(ac.block _ l2 (by simp)).trans i2;have j3:A2.heap[w.heap.size]? =some (.deferred (some [])):=(ac.block _ (by omega) (by simp)).trans i3;have l3:w.heap.size+1<A2.heap.size:=(Array.getElem?_eq_some_iff.1 j2).1;refine⟨_,run_beginRound j2 rfl,?_⟩;have aa:=nX A2 (w.heap.size+1) (U .busy none);obtain⟨A3,ai⟩:∃A3,A2.putObj (w.heap.size+1) (U .busy none)=A3:=⟨_,rfl⟩;have m2:A3.heap[w.heap.size+1]? =some (U .busy none):=by rw[<-ai];exact World.putObj_heap_same l3
  have m3:A3.heap[w.heap.size]? =some (.deferred (some [])):=by rw[<-ai];exact(World.putObj_heap_other (by omega)).trans j3
  rw[ai] at aa;have l4:w.heap.size+1<A3.heap.size:=(Array.getElem?_eq_some_iff.1 m2).1;show Z.wpIn _ _ _ _ a' (A2.putObj (w.heap.size+1) (U .busy none));rw[ai];have ar:I z A3:=hI _ _ _ (hI _ _ _ i1 (Xe (by omega) ac)) (ah (by omega) aa);refine wpIn_mono (aC _ z x a' A3 (by omega) l4 ar hN (aB _ _ _ _ (aq _ _ _ _ hr ac) aa) (ax _ _ _ _ _ (by omega) ⟨_,j2⟩ av aa)) ?_;have ag:∀(y:Option Code) (V:World),ay C A3 V->(Instr.endRound (w.heap.size+1) y).run P V= .ok (.bool y.isNone) (V.putObj (w.heap.size+1) (U (if y.isNone then .ready else .done) y))/\
    Below w.heap.size V (V.putObj (w.heap.size+1) (U (if y.isNone then .ready else .done) y))/\(V.putObj (w.heap.size+1) (U (if y.isNone then .ready else .done) y)).heap[w.heap.size+1]? =some (U (if y.isNone then .ready else .done) y)/\
    (V.putObj (w.heap.size+1) (U (if y.isNone then .ready else .done) y)).heap[w.heap.size]? =some (.deferred (some []))/\ay ((w.heap.size+1)::C) A (V.putObj (w.heap.size+1) (U (if y.isNone then .ready else .done) y)):=λy V ak=>by
   have n2:V.heap[w.heap.size+1]? =some (U .busy none):=(ak.block _ l4 λhm=>by have :=hC _ hm;omega).trans m2;have n3:V.heap[w.heap.size]? =some (.deferred (some [])):=(ak.block _ (by omega) λhm=>by have :=hC _ hm;omega).trans m3;have l5:=(Array.getElem?_eq_some_iff.1 n2).1;have eI:=nX V (w.heap.size+1) (U (if y.isNone then .ready else .done) y);refine⟨run_endRound (P:=P) y n2,ah (by omega) eI,World.putObj_heap_same l5,(World.putObj_heap_other (by omega)).trans n3,?_⟩;have q1:ay ((w.heap.size+1)::C) A A3:=(ac.mono (l':=(w.heap.size+1)::C) (by simp)).trans aa (by simp);have q2:ay ((w.heap.size+1)::C) A V:=q1.trans ak λx hx=> .inl (by simp[hx])
   exact q2.trans eI (by simp)
  rintro e a3 V hp;cases e with
  |normal=>
   obtain⟨f1,f2,f3,f4,f5⟩:=ag none V hp.1;exact⟨_,_,f1,.inl ⟨rfl,⟨hI _ _ _ hp.2 f2,f3,f4⟩,f5⟩⟩
  |ret=>
   obtain⟨f1,f2,f3,f4,f5⟩:=ag (some .ret) V hp.1;exact⟨_,_,f1,.inr ⟨rfl,.ret,ae _ _ _ _ hp.2 f2,f3,f4⟩⟩
  |exit id=>
   obtain⟨f1,f2,f3,f4,f5⟩:=ag (some (.exit id)) V hp.1;exact⟨_,_,f1,.inr ⟨rfl,.exit id,ae _ _ _ _ hp.2 f2,f3,f4⟩⟩
  |goto t=>
   obtain⟨f1,f2,f3,f4,f5⟩:=ag (some (.goto t)) V hp.1;exact⟨_,_,f1,.inr ⟨rfl,.goto t,ae _ _ _ _ hp.2 f2,f3,f4⟩⟩
  |panic ch=>exact hp.elim
  |outgrown=>exact hp.elim
 ·rintro e A ⟨⟨v,rfl⟩,h⟩
  rcases h with ⟨xs,hS,i1,i2,i3⟩|⟨z,aw,c,i1,i2,i3⟩
  ·have l2:=(Array.getElem?_eq_some_iff.1 i2).1
   have eI:=nX A (w.heap.size+1) (U .exhausted none);exact⟨none,_,run_endLoop (P:=P) i2 (by simp),aj _ xs _ (aG _) hS (hI _ _ _ i1 (ah (by omega) eI)) ((World.putObj_heap_other (by omega)).trans i3)⟩
  ·have l2:=(Array.getElem?_eq_some_iff.1 i2).1
   have eI:=nX A (w.heap.size+1) (U .exhausted (some c));exact⟨some c,_,run_endLoop (P:=P) i2 (by simp),aA _ c z _ (aG _) aw (ae _ _ _ _ i1 (ah (by omega) eI)) ((World.putObj_heap_other (by omega)).trans i3)⟩
theorem y0{y:Array Oper}{S:World->Prop}{r:Option Nat}{J:Nat}(W:P.follows .mixedOrders=true)(Z:¬LetsOut Q)(z:wY y=true)(V:uF .any y y.size y.size=true)(G:∀d v c a w,Q (.panic c) (Act.put a d v) w->Q (.panic c) a w)(U:S w.drew)
  (j0:Region.ready .any y (dW y.size y.size)=[]) (h:aJ P y S (Q .normal) y.toList a):(Code.region J y true).wpIn { Fence.wide with round:=r } n P Q a w:=by
 refine sX W Z (wZ z) ?_;rw[<-jW];refine lf (S:=λ_=>S) (F:=y.size) (L:=y.size) _ _ _ ?_ _ U;refine Es (m:=y.size) V (aG _) (aG _) G (E:=λa=>∀w,S w->Q .normal a w) (λa h=> ?_) y.toList 0 a (by simp) (aG _) (λk hk=>by simp) (aJ.toB _ _ h);rw[iT];exact⟨j0,h⟩
section
variable {P:Program} {n:Nat} {r:Option Nat} {ops:Array Oper} {Q:Exit->Act->World->Prop} {rest:List Oper} {o:Oper} {a:Act} {w:World}
theorem mh (G:Region.wanted o (yielded ops a.tmps)=true)(ty:TypeId)(x:Operand)(z:o.op= .load ty x)(y:Addr)(U:a.eval x= .pointer (some y))(v:Value)
  (J:(loadVar ty y).run P w= .ok v w) (h:wpListIn { Fence.wide with round:=r } n P ops Q rest (a.put o.dst v) w):wpListIn { Fence.wide with round:=r } n P ops Q (o::rest) a w:=by
 unfold wpListIn;rw[aB G];refine qZ (λc e=>by rw[z] at e;cases e) ?_;unfold Oper.wp execOp;simp only[z,U,Instr.loadAt,Instr.sureAddr,bV,eM,b9,J];exact h
theorem iq (J:Region.wanted o (yielded ops a.tmps)=true)(ty:TypeId)(x y:Operand)(G:o.op= .store ty x y)(z:Addr)(W:a.eval x= .pointer (some z))(v:Value)(V:a.eval y=v)(w':World)
  (U:(storeVar ty z v).run P w= .ok () w') (h:wpListIn { Fence.wide with round:=r } n P ops Q rest (a.put o.dst undef) w'):wpListIn { Fence.wide with round:=r } n P ops Q (o::rest) a w:=by
 unfold wpListIn;rw[aB J];refine qZ (λc e=>by rw[G] at e;cases e) ?_;unfold Oper.wp execOp;simp only[G,W,V,Instr.storeAt,Instr.sureAddr,bV,eM,b9,U];exact h
end
end Go.Proofs.YtcecbdeamjigiaaGreatDoor
namespace Go.Proofs.YtcecbdeamjigiaaGreatDoor
open Go.RowKit Go.Shelf
variable{A w y:World}{b gf gl gn gp k n:Nat}{P:Program}{Q:Exit->Act->World->Prop}{a:Act}{T:List (bM×Value)}{B:List Int}{ps:List (Int×Int)}{own:Nat->List Nat}
attribute [local go_sem] Oper.semAt_some
structure GX where
 i:Nat
 n:bM
 v:Value
def Qq (x:GX):Array Value:= #[.int .i64 (x.i:Int),.agg (aU x.n x.v)]
def js (x:GX):Nat×bM:=(x.i,x.n)
theorem Fj (T:List (bM×Value)):∀k,(iO T k).length<=k
 |0=>aG _
 |k+1=>by
  have :=Fj T k;unfold iO;rw[aF];split<;>simp<;>omega
def RdG (T:List (bM×Value)) (l:Nat) (x:GX) (A:World):Prop:=
 x.i<32/\x.n=nT T x.i/\x.n.F≠0/\x.n.B.length=13/\∃g,l<g/\bz A x.v g x.n.E
theorem RdG.keep{l:Nat}{x:GX}(h:RdG T l x A){m:List Nat}(V:ay m A y)(Z:∀k∈m,k<=l):RdG T l x y:=by
 obtain⟨J,G,h3,W,g,z,U⟩:=h;exact⟨J,G,h3,W,g,z,U.keep V λ_ hg=>by have :=Z _ hg;omega⟩
theorem Mi (b:Nat)(w:World):Calls Tryz.prog 127 #[.pointer (some ⟨b,0,none⟩)] w λe w'=>
  e= .returned (.func (.func 159) #[] #[.pointer (some ⟨w.heap.size,0,none⟩)])/\w'=w.alloc (.cells #[.pointer (some ⟨b,0,none⟩)] 52):=by
 go_enter Tryz.func127,Tryz.ntmps127;go_wp2_with fail;go_ret;exact⟨rfl,rfl⟩
theorem Xf (n l V b gp:Nat)(B:List Int)(ps:List (Int×Int))(T:List (bM×Value))(own:Nat->List Nat)(hn:1<=n)(C:List Nat)(hC:∀k∈C,k≠V/\k≠b/\k≠gp)(J Jx:List GX->World->Prop)
  (hJ:∀y A U,J y A->ay [] A U->J y U) (hl:l≠V/\l≠b/\l≠gp)
  (hY:∀y x A,J y A->y.length<32->RdG T l x A->YieldAt Fence.wide (n-1) Tryz.prog l (Qq x) A λe U=>
   (e= .returned (.bool true)/\J (y++[x]) U/\ay (l::C) A U)\/(e= .returned (.bool false)/\Jx (y++[x]) U))
  (W:World) (ai:l<W.heap.size) (tV:bm W V #[.pointer (some ⟨b,0,none⟩)] 52) (hs:fG W b gp B ps T own) (h0:J [] W):
  CallsIn Fence.wide n Tryz.prog 159 #[.func (.yield l) #[] #[],.pointer (some ⟨V,0,none⟩)] W λe W'=>(∃v,e= .returned v)/\
   ((∃xs:List GX,xs.map js=iO T 32/\J xs W')\/(∃y:List GX,(y≠[]/\∀x∈y,js x∈iO T 32)/\Jx y W')):=by
 have xf:=eV;obtain⟨Z0,yJ⟩:∃Z0,aU cB (.slice none 0 0)=Z0:=⟨_,rfl⟩;have C7:Hid (Z0.size=18):=by show _=_;rw[<-yJ];rfl
 rw[yJ] at xf;clear yJ;have HC:=ar hC;have Ek:=ar hl;have aj:Hid (([]:List GX).map js=iO T 0/\J [] W/\fG W b gp B ps T own/\bm W V #[.pointer (some ⟨b,0,none⟩)] 52/\l<W.heap.size):=⟨rfl,h0,hs,tV,ai⟩;clear hC hl h0 hs tV ai;refine callsIn_of_wp Tryz.func159 rfl trivial ?_ rfl;simp only[Tryz.ntmps159,bU,bH,cp,Nat.reduceAdd,Nat.reduceSub,Array.replicate_succ,Array.replicate_zero,List.push_toArray,List.append_toArray,bW,List.cons_append]
 gi_wp2
 gi_loopw [7] (λi wr=>∃(k:Nat) (y:List GX),k<=32/\i= .int .i64 (k:Int)/\Hid (y.map js=iO T k/\J y wr/\fG wr b gp B ps T own/\bm wr V #[.pointer (some ⟨b,0,none⟩)] 52/\l<wr.heap.size))
  (λi _=>32-(intOf i).toNat)
 case atStart=>exact⟨0,[],by omega,rfl,aj.out⟩
 case round=>
  clear aj;obtain⟨k,y,hk,rfl,G⟩:=hrel;by_cases Z:k<32
  ·have ye:(k:Int)<32:=by omega
   have c0:wr.cell? ⟨V,0,none⟩=some (.pointer (some ⟨b,0,none⟩)):=by rw[G.out.2.2.2.1.cell];rfl
   have HG:=ar (G.out.2.2.1.get Z)
   gi_wp2
   refine⟨trivial,callsIn_wide.2 (HG.out.mono ?_)⟩;rintro e w3 ⟨v,g,va,ga,r,rfl,hB,hE,hg,hO,sk,ac,hr⟩;obtain⟨w4,p1,p2,p3⟩:=fF (n:=nT T k) (v:=v) (bm.new w3 Z0 110) C7.out hB hE.one;have wj:=ar p1;have z:ay [] wr w4:=ac.trans' (((ay.refl [] w3).alloc _).trans p3 (by intro x hx;rw[au] at hx;omega));have nK:=ar z;have ap:=ar (cH p2 hB);have aa:=hJ _ _ _ G.out.2.1 z;have AB:Hid (fG w4 b gp B ps T own/\bm w4 V #[.pointer (some ⟨b,0,none⟩)] 52/\l<w4.heap.size):=⟨G.out.2.2.1.keep0 z,G.out.2.2.2.1.keep z (by simp),by have :=G.out.2.2.2.2;have :=z.size;omega⟩;have QO:bz w4 v g (nT T k).E:=hE.keep (((ay.refl [w3.heap.size] w3).alloc (.cells Z0 110)).trans' p3) (λh0=>hE.apart (l:=[w3.heap.size]) (λx hx=>by rw[au] at hx;omega) h0);have R4:Hid ((nT T k).F≠0->iO T (k+1)=iO T k++[(k,nT T k)]):=λh=>by show iO T k++_=_;rw[aA h]
   have af:Hid ((nT T k).F=0->iO T (k+1)=iO T k):=λh=>by show iO T k++_=_;rw[aB h,bq]
   by_cases h0:r=0
   ·subst h0
    have hF:(nT T k).F≠0:=by
     rcases hr with ⟨-,h⟩|⟨h,-⟩|⟨h,-⟩
     ·exact h
     ·omega
     ·omega
    have ah:y.length<32:=by
     have h1:=ck List.length G.out.1;rw[bJ] at h1;have h2:=Fj T k;omega
    obtain⟨fn,tmps,ak,av,hy,hR⟩:=hY y ⟨k,nT T k,v⟩ w4 aa ah ⟨Z,rfl,hF,hB,g,by have :=G.out.2.2.2.2;omega,QO⟩;have FP:Hid ((y++[(⟨k,nT T k,v⟩:GX)]).map js=iO T (k+1)):=by
     show _=_;rw[R4.out hF,dZ,G.out.1];rfl
    have ae:Hid (∀U,ay (l::C) w4 U->fG U b gp B ps T own/\bm U V #[.pointer (some ⟨b,0,none⟩)] 52/\l<U.heap.size):=λU hk=>by
     have hc:=HC.out;have lR:=Ek.out;refine⟨AB.out.1.keep hk λq hq=> .inr ?_,AB.out.2.1.keep hk λhm=> ?_,bC AB.out.2.2 hk.size⟩
     ·rcases aS.1 hq with rfl|hq
      ·exact⟨lR.2.1,lR.2.2⟩
      ·exact⟨(hc q hq).2.1,(hc q hq).2.2⟩
     ·rcases aS.1 hm with e|hm
      ·exact lR.1 e.symm
      ·exact(hc V hm).1 rfl
    unfold Qq at hy
    dsimp only at hy
    clear hr hF aa QO AB hE hB hg hO sk ac z p1 p2 p3 R4 af G c0 ah Z;generalize aU (nT T k) v=ZN at *
    gi_wp2_with (first|((with_reducible show wpListIn _ _ _ _ _ (⟨_,.store 110 (.tmp 4) (.tmp 14),_,_,_,_⟩::_) _ _);refine iq (r:=none) rfl 110 (.tmp 4) (.tmp 14) rfl _ rfl _ rfl _ wj.out ?_)|((with_reducible show wpListIn _ _ _ _ _ (⟨_,.load 110 (.tmp 4),_,_,_,_⟩::_) _ _);refine mh (r:=none) rfl 110 (.tmp 4) rfl _ rfl _ ap.out ?_))
    refine hR.mono ?_;rintro e W5 (⟨rfl,ag,jG⟩|⟨rfl,aq⟩)
    ·have HF:Hid ((y++[(⟨k,nT T k,v⟩:GX)]).map js=iO T (k+1)/\J (y++[⟨k,nT T k,v⟩]) W5/\fG W5 b gp B ps T own/\bm W5 V #[.pointer (some ⟨b,0,none⟩)] 52/\l<W5.heap.size):=⟨FP.out,ag,ae.out _ jG⟩
     clear ag jG FP ae
     gi_wp2
     go_roundw
     case rel=>exact⟨k+1,_,by omega,by go_num,HF.out⟩
     case measure=>simp[intOf];omega
    ·have HF:Hid ((y++[(⟨k,nT T k,v⟩:GX)])≠[]/\∀x∈y++[(⟨k,nT T k,v⟩:GX)],js x∈iO T 32):=by
      refine⟨by simp,λx hx=> ?_⟩;have h1:js x∈(y++[(⟨k,nT T k,v⟩:GX)]).map js:=bB.2 ⟨x,hx,rfl⟩;rw[FP.out] at h1;obtain⟨a1,a2,a3⟩:=lI.1 h1;exact lI.2 ⟨by omega,a2,a3⟩
     clear FP ae
     gi_wp2
     refine aK (results_none rfl _ _ _) rfl ?_;exact⟨⟨_,rfl⟩,.inr ⟨_,HF.out,aq⟩⟩
   ·have b0:(r==0)=false:=by simpa using h0
    have hF:(nT T k).F=0:=by
     rcases hr with ⟨h,-⟩|⟨-,h,-⟩|⟨-,h,-⟩
     ·exact absurd h h0
     ·exact h
     ·exact h
    have HF:Hid (y.map js=iO T (k+1)/\J y w4/\fG w4 b gp B ps T own/\bm w4 V #[.pointer (some ⟨b,0,none⟩)] 52/\l<w4.heap.size):=⟨by rw[af.out hF];exact G.out.1,aa,AB.out⟩;clear hr hF aa QO AB hE hB hg hO sk ac z p1 p2 p3 h0 R4 af G c0;generalize aU (nT T k) v=ZN at *
    gi_wp2_with ((with_reducible show wpListIn _ _ _ _ _ (⟨_,.store 110 (.tmp 4) (.tmp 14),_,_,_,_⟩::_) _ _);refine iq (r:=none) rfl 110 (.tmp 4) (.tmp 14) rfl _ rfl _ rfl _ wj.out ?_)
    refine⟨λ_ h=>(by cases h),?_⟩
    gi_wp2
    go_roundw
    case rel=>exact⟨k+1,_,by omega,by go_num,HF.out⟩
    case measure=>simp[intOf];omega
  ·obtain rfl:k=32:=by omega
   have HF:=ar (And.intro G.out.1 G.out.2.1);clear G Z hk
   gi_wp2
   go_end0;exact⟨⟨_,rfl⟩,.inl ⟨y,HF.out.1,HF.out.2⟩⟩
theorem y6 (hn:1<=n){w:World}{y b z:Nat}{B:List Int}{ps:List (Int×Int)}{T:List (bM×Value)}{own:Nat->List Nat}(U:fG w b z B ps T own)(Z:bm w y #[.pointer (some ⟨b,0,none⟩)] 52){C:List Nat}(hC:∀k∈C,k≠y/\k≠b/\k≠z):
  Yr n Tryz.prog 159 #[.pointer (some ⟨y,0,none⟩)] Qq (RdG T) (λxs=>xs.map js=iO T 32) (λh=>h≠[]/\∀x∈h,js x∈iO T 32) 32 C w:=by
 intro l J Jx W V hl G hJ _ hY h0;have h1:=Z.lt;have h2:=U.lt;exact Xf n l y b z B ps T own hn C hC J Jx hJ ⟨by omega,by omega,by omega⟩ hY W G (Z.keep V (by simp)) (U.keep0 V) h0
end Go.Proofs.YtcecbdeamjigiaaGreatDoor
namespace Go.Proofs.YtcecbdeamjigiaaGreatDoor
open Go.RowKit
variable{A w y:World}{b gf gl gn gp k n:Nat}{P:Program}{Q:Exit->Act->World->Prop}{a:Act}{T:List (bM×Value)}{B:List Int}{ps:List (Int×Int)}{own:Nat->List Nat}
theorem Qr (z:k<32){b:Int}:b∈mj T (k:Int)↔∃j,j<(nT T k).E.length/\gT (nT T k).E j=b:=by
 unfold mj;rw[aB (by omega),aH];constructor
 ·intro h
  obtain⟨j,y,e⟩:=bR h;rw[bJ] at y;rw[fx] at e;exact⟨j,y,by rw[<-e];simp[gT,y]⟩
 ·rintro⟨j,y,e⟩
  refine bB.2 ⟨(nT T k).E[j],bp y,?_⟩;rw[<-e];simp[gT,y]
end Go.Proofs.YtcecbdeamjigiaaGreatDoor
namespace Go.Proofs.YtcecbdeamjigiaaGreatDoor
open Go.RowKit Go.Shelf
variable{A w y:World}{b gf gl gn gp k n:Nat}{P:Program}{Q:Exit->Act->World->Prop}{a:Act}{T:List (bM×Value)}{B:List Int}{ps:List (Int×Int)}{own:Nat->List Nat}
attribute [local go_sem] Oper.semAt_some
theorem bm.low{c:Array Value}{T:Nat}(h:bm A k c T)(z:Below n A y)(G:k<n):bm y k c T:=(z.block k G).trans h
theorem ay.below_trans{l:List Nat}{z:World}(h:ay l w A)(y:Below n A z)(U:w.heap.size<=n):ay l w z:=
 ⟨y.os.trans h.os,y.tape.trans h.tape,y.output.trans h.output,cu h.size y.size,λk G J=>(y.block k (by omega)).trans (h.block k G J)⟩
theorem C0 (h:fG w b gp B ps T own):
  Calls Tryz.prog 125 #[.pointer (some ⟨b,0,none⟩)] w λe w'=>e= .returned (.agg (cW (cQ 32 (ju T))).toArray)/\ay [] w w':=by
 have aW:=Jk;have xf:=eV;obtain⟨Z0,yJ⟩:∃Z0,aU cB (.slice none 0 0)=Z0:=⟨_,rfl⟩;have C7:Hid (Z0.size=18):=by show _=_;rw[<-yJ];rfl
 rw[yJ] at xf;clear yJ;have HS:=ar h;clear h;generalize Wh:(cW (cQ 32 λ_=>0)).toArray=Z at *;have ak:=ar Wh;clear Wh;refine(callsIn_wide (n:=5)).1 (callsIn_of_wp_marks Tryz.func125 rfl trivial (wpIn_wide.2 ?_) rfl);simp only[Tryz.ntmps125,bU,bH,cp,Nat.reduceAdd,Nat.reduceSub,Array.replicate_succ,Array.replicate_zero,List.push_toArray,List.append_toArray,bW,List.cons_append];go_wp2_with fail;refine(Mi b _).mono ?_;rintro e w2 ⟨rfl,U⟩;go_wp2_with fail;rw[<-U];have aH:w2.heap.size=w.heap.size+3:=by rw[U];simp
 have QJ:bm w2 (w.heap.size+1) Z 175 :=by
  have :=(bm.new (w.alloc (.cells Z 175)) Z 175).alloc (.cells #[.pointer (some ⟨b,0,none⟩)] 52);rw[cm] at this;rw[U];exact this
 have rW:bm w2 w.heap.size Z 175 :=by
  rw[U];exact((bm.new w Z 175).alloc _).alloc _
 have uK:bm w2 (w.heap.size+1+1) #[.pointer (some ⟨b,0,none⟩)] 52 :=by
  have :=bm.new ((w.alloc (.cells Z 175)).alloc (.cells Z 175)) #[.pointer (some ⟨b,0,none⟩)] 52;rw[cm,cm] at this;rw[U];exact this
 have ac:ay [] w w2:=by
  rw[U];exact(((ay.refl [] w).alloc _).alloc _).alloc _
 have ax:=HS.out.keep0 ac;have aq:=HS.out.lt;have rM:=y6 (n:=5-1) (by omega) ax uK (C:=[w.heap.size+1]) (λk J=>by rw[au] at J;subst J;omega);have af:=HS.out.gots.elen;have aj:=HS.out.gots.tabS;have ap:=HS.out.gots.tabN;clear U ax uK;refine(wpIn_wide (n:=5)).1 ?_;refine pg (by omega) (gf:= 159) (lb:= #[.pointer (some ⟨w.heap.size+1+1,0,none⟩)]) rfl (enters_of Tryz.func159 (by kernel_rfl) rfl) rM (λk J=>by rw[au] at J;subst J;omega) (λ_=>rfl)
  (λG A=>ay [] w A/\bm A (w.heap.size+1) (cW (cQ 32 λq=>sx (G.map js) q)).toArray 175/\bm A w.heap.size Z 175/\∀q,sx (G.map js) q<=24*G.length)
  (λ_ _ _=>False)
  (λG A A' h hb=>⟨h.1.below_trans hb (by omega),h.2.1.low hb (by omega),h.2.2.1.low hb (by omega),h.2.2.2⟩)
  (λ_ _ _ _ h _=>h)
  ⟨ac,by have :=QJ;rw[<-ak.out] at this;exact this,rW,λq=>et _⟩
  (λl x A A' h J=>h.keep J λk J=>by rw[au] at J;omega)
  (λx a' W=>∃g5,bm W g5 (aU x.n x.v) 110/\w2.heap.size<=g5/\a'={ tmps:= #[.pointer (some ⟨b,0,none⟩),undef,.pointer (some ⟨w.heap.size,0,none⟩),.pointer (some ⟨w.heap.size+1,0,none⟩),undef,.pointer (some ⟨g5,0,none⟩),undef,undef,.pointer (some ⟨b,0,none⟩),.func (.func 159) #[] #[.pointer (some ⟨w.heap.size+1+1,0,none⟩)],.int .i64 (x.i:Int),.agg (aU x.n x.v),undef,undef,undef,undef,undef,undef,undef,undef,undef,undef,undef,undef,undef,undef,undef],defers:=[] })
  (λl x a' A A' _ hr h J=>by
   obtain⟨g5,h1,h2,h3⟩:=h;obtain⟨r,hr⟩:=hr;refine⟨g5,h1.keep J λhm=> ?_,h2,h3⟩;rw[au] at hm;subst hm;rw[h1] at hr;cases hr)
  ?assign (λl x A A' h J=>h.keep J (by simp)) ?body ?done ?stop
 case stop=>
  rintro D c G W _ _ h _;exact h.elim
 case assign=>
  rintro l x W K ⟨h1,h2,h3,h4,g,h5,h6⟩ a8 hK;obtain⟨w4,p1,p2,p3⟩:=fF (n:=x.n) (v:=x.v) (bm.new W Z0 110) C7.out h4 h6.one;have wj:=ar p1;have aD:ay [] W w4:=((ay.refl [] W).alloc _).trans p3 (by intro x hx;rw[au] at hx;omega);have HF:=ar (hK _ w4 aD ⟨W.heap.size,p2,by omega,rfl⟩);clear p1 p2 p3 aD hK h1 h2 h3 h4 h5 h6;unfold Qq;generalize aU x.n x.v=ZN at *
  gi_wp2_with ((with_reducible show wpListIn _ _ _ _ _ (⟨_,.store 110 (.tmp 5) (.tmp 11),_,_,_,_⟩::_) _ _);refine iq (r:=some l) rfl 110 (.tmp 5) (.tmp 11) rfl _ rfl _ rfl _ wj.out ?_)
  exact HF.out
 case body=>
  rintro l G x a' W hl a7 ⟨su,GZ,vY,ai⟩ hN ⟨aG,aa,aT,Ys,g,hg,hE⟩ ⟨g5,pE,aO,rfl⟩;have aQ:x.n.E.length<=24:=by rw[aa];exact af x.i
  have LI:Hid (∀j,j<x.n.E.length->0<=gT x.n.E j/\gT x.n.E j<32):=λj hj=>by
   have hm:=ap (x.i:Int) (gT x.n.E j) ((Qr aG).2 ⟨j,by rw[<-aa];exact hj,by rw[aa]⟩);exact hm
  have lO:Hid (∀V,ay [w.heap.size+1] W V->bm V (w.heap.size+1) (cW (cQ 32 λq=>sx (G.map js) q+uB x.n.E x.n.E.length q)).toArray 175->qO [w.heap.size+1] (λG A=>ay [] w A/\bm A (w.heap.size+1) (cW (cQ 32 λq=>sx (G.map js) q)).toArray 175/\bm A w.heap.size Z 175/\∀q,sx (G.map js) q<=24*G.length) (λ_ _ _=>False) (G++[x]) W .normal { tmps:= #[],defers:=[] } V):=λV J hb=>by
   have e:∀q,sx ((G++[x]).map js) q=sx (G.map js) q+uB x.n.E x.n.E.length q:=λq=>by
    rw[dZ,zK];rfl
   refine⟨J,su.trans J (by intro y hy;rw[au] at hy;omega),?_,vY.keep J (by simp),λq=> ?_⟩
   ·rw[o0 λq _=>e q]
    exact hb
   ·have h1:=ai q
    have h2:=M8 x.n.E x.n.E.length q;rw[e,aF,List.length_singleton];omega
  obtain⟨an,cn,hv,MM,aZ,ag⟩:=hE.open;have aK:W.cell? ⟨g5,17,none⟩=some (.slice an x.n.E.length cn):=by rw[pE.cell,<-hv];exact(jo _ Ys).f5
  have Xg:=ar ag;have aJ:Hid (ay [w.heap.size+1] W W/\bm W (w.heap.size+1) (cW (cQ 32 λq=>sx (G.map js) q+uB x.n.E 0 q)).toArray 175):=⟨ay.refl _ _,by
   rw[o0 (f':=λq=>sx (G.map js) q) λq _=>by rw[Pr,dH]];exact GZ⟩
  have av:=ar ai;have aX:Hid (g<W.heap.size\/x.n.E.length=0):=by
   by_cases h0:x.n.E.length=0
   ·exact .inr h0
   ·exact .inl (ag 0 (by omega)).1
  have aP:Hid (l<g/\w.heap.size+2<l):=⟨hg,by omega⟩;have ba:=zJ;have az:Hid (G.length<32):=hN;clear su GZ vY ai hN hE hv ag aG aa aT hg af aj ap pE aO QJ rW ac aH aq HS;generalize aU x.n x.v=ZN at *;generalize sx (G.map js)=fP at *;obtain⟨mE,Yc⟩:∃mE,x.n.E.length=mE:=⟨_,rfl⟩;have aM:=ar Yc;rw[Yc] at aK Xg LI lO aQ;clear Yc;generalize x.n.E=E at *
  gi_wp2
  gi_loopw [15] (λi wr=>∃j:Nat,j<=mE/\i= .int .i64 (j:Int)/\Hid (ay [w.heap.size+1] W wr/\bm wr (w.heap.size+1) (cW (cQ 32 λq=>fP q+uB E j q)).toArray 175))
   (λi _=>mE-(intOf i).toNat)
  case atStart=>exact⟨0,by omega,rfl,aJ.out⟩
  case round=>
   clear aJ aK;obtain⟨j,hj,rfl,HI⟩:=hrel;by_cases LF:j<mE
   ·have KG:(j:Int)<(mE:Int):=by omega
    have zi:(0:Int)<=(j:Int):=by omega
    obtain⟨se,off,rfl,d1,d2⟩:=Xg.out j LF;have ae:=HI.out.1.block g se (by rw[au];have :=aP.out;omega);have aS:Hid ((loadVar 88 ⟨g,off+j*2,none⟩).run Tryz.prog wr= .ok (.agg #[.string (eh E j),.int .i64 (gT E j)]) wr):=
     vN ((aL (w:=W) (a:=⟨g,off+j*2,none⟩) ae).trans d1) ((aL (w:=W) (a:=⟨g,off+j*2+1,none⟩) ae).trans d2)
    obtain⟨Mu,a6⟩:=LI.out j LF;have aw:=λq=>Ps (E:=E) (j:=j) (by rw[aM.out];exact LF) q
    have aI:=λq=>M8 E j q
    generalize gT E j=yi at *;obtain⟨y,rfl⟩:=cj Mu;have aR:y<32:=by omega
    obtain⟨w6,p1,p2,p3⟩:=xt (eh E j) (y:Int) (bm.new wr #[.string ⟨#[]⟩,.int .i64 0] 88) rfl;have jz:ay [] wr w6:=((ay.refl [] wr).alloc _).trans p3 (by intro x hx;rw[au] at hx;omega);have c1:w6.cell? ⟨wr.heap.size,1,none⟩=some (.int .i64 (y:Int)):=by rw[p2.cell];rfl
    have AE:=HI.out.2.keep jz (by simp);have c2:=Gn AE (j:=y) aR;obtain⟨z,hz⟩:∃z,fP y+uB E j y=z:=⟨_,rfl⟩;rw[hz] at c2;have aY:z<=1000:=by have :=av.out y;have :=aI y;have :=az.out;omega
    have GR:Hid (∀x:Int,x=((z+1:Nat):Int)->bm (w6.setCell ⟨w.heap.size+1,y,none⟩ (.int .i64 x)) (w.heap.size+1) (cW (cQ 32 λq=>fP q+uB E (j+1) q)).toArray 175):=λx hx=>Jj AE y (λq hq=>by
     rw[aw q];by_cases e:q=y
     ·subst e;rw[aB rfl,aB rfl];omega
     ·rw[aA e,aA (by omega)];omega) (by rw[hx,hz])
    have f2:=AE.frozen y;have pM:Hid (ay [w.heap.size+1] W w6):=HI.out.1.trans' (jz.mono (by simp));have K5:=ar p1;have aV:(0:Int)<=(y:Int):=by omega
    clear HI ae d1 d2 aw aI hz p1 p2 p3 jz AE lO LI Xg av az;generalize eh E j=sj at *
    gi_wp2_with (first|((with_reducible show wpListIn _ _ _ _ _ (⟨_,.load 88 (.tmp 17),_,_,_,_⟩::_) _ _);refine mh (r:=some l) rfl 88 (.tmp 17) rfl _ rfl _ aS.out ?_)|((with_reducible show wpListIn _ _ _ _ _ (⟨_,.store 88 (.tmp 7) (.tmp 18),_,_,_,_⟩::_) _ _);refine iq (r:=some l) rfl 88 (.tmp 7) (.tmp 18) rfl _ rfl _ rfl _ K5.out ?_))
    go_roundw
    case rel=>exact⟨j+1,by omega,by go_num,pM.out.setCell (.inl (by simp)) _,GR.out _ (by go_num)⟩
    case measure=>simp[intOf];omega
   ·obtain rfl:j=mE:=by omega
    have HF:=ar (lO.out _ HI.out.1 HI.out.2);clear HI lO LI Xg hj LF
    gi_wp2
    exact HF.out
 case done=>
  rintro D xs W hD GY ⟨su,GZ,vY,-⟩ EB;rw[GY,o0 (λq _=>Tw aj 32 q)] at GZ;have aC:Hid ((loadVar 175 ⟨w.heap.size+1,0,none⟩).run Tryz.prog W= .ok (.agg (cW (cQ 32 (ju T))).toArray) W):=Jm GZ;obtain⟨wS,p1,p2,p3⟩:=EY (f':=ju T) (show bm W w.heap.size (cW (cQ 32 λ_=>0)).toArray 175 by rw[ak.out];exact vY);have Vq:=ar p1;have Xh:Hid (wS.heap[D]? =some (.deferred (some []))):=(p3.block D (Array.getElem?_eq_some_iff.1 EB).1 (by rw[au];omega)).trans EB;have Aj:Hid (∀V,ay [D] wS V->(loadVar 175 ⟨w.heap.size,0,none⟩).run Tryz.prog V= .ok (.agg (cW (cQ 32 (ju T))).toArray) V/\ay [] w V):=λV J=>⟨Jm (p2.keep J (by rw[au];omega)),(su.trans p3 (by intro y hy;rw[au] at hy;omega)).trans J (by intro y hy;rw[au] at hy;omega)⟩
  clear su GZ vY EB GY p1 p2 p3 QJ rW ac aH aq HS ak af aj ap;obtain⟨ZR,ah⟩:∃ZR,(cW (cQ 32 (ju T))).toArray=ZR:=⟨_,rfl⟩;rw[ah] at aC Vq Aj;have aN:=ar ah;clear ah;go_wp2_with(first|(with_reducible refine gL 175 aC.out ?_)|(with_reducible refine gS 175 Vq.out ?_));refine jN [D] wS (by simp) (λD' FZ=>by rw[au] at FZ;subst FZ;exact Xh.out) λV J=> ?_
  obtain⟨h1,h2⟩:=Aj.out V J;exact⟨_,dP Tryz.results125 rfl h1,by rw[<-aN.out],h2⟩
end Go.Proofs.YtcecbdeamjigiaaGreatDoor
namespace Go.Proofs.YtcecbdeamjigiaaGreatDoor
open Go.RowKit
variable{A w y:World}{b gf gl gn gp k n:Nat}{P:Program}{Q:Exit->Act->World->Prop}{a:Act}{T:List (bM×Value)}{B:List Int}{ps:List (Int×Int)}{own:Nat->List Nat}
theorem GJ (h:eF w b gp B ps)(eT:dD (az B ps)){n:bM}(v:Value)(hB:n.B.length=13)(hR:bP n)(hK:n.K=1):
  Calls Tryz.prog 131 #[.pointer (some ⟨b,0,none⟩),.agg (aU n v)] w (dg w (iC (az B ps) n)):=by
 have hS:0<=n.S/\n.S<=832:=by
  rcases hR.2.2 with h|h
  ·exact h.2.1
  ·omega
 have J:=ud hR hB;have HG:Hid (∀wx,ay [] w wx->∀i:Nat,i<3128->Calls Tryz.prog 20 #[.pointer (some ⟨b,0,none⟩),.int .i64 (i:Int)] wx λe w'=>e= .returned (.int .u64 (((az B ps).getD i 0).toNat:Int))/\wx=w'):=λwx hk i hi=>by
  have :=mO (h.keep hk (by simp) (by simp)) (i:Int);rw[Ji hi] at this;rwa[fW (eT i).1]
 have HP:Hid (∀(r:Bool) w',(r=true↔(n.S%64≠0->n.B.getD (n.S/64).toNat 0≠0->∀j:Nat,n.S%64<=(j:Int)->j<64->nO ((az B ps).getD (1080+8*(n.B.getD (n.S/64).toNat 0).toNat+j/8) 0).toNat (j%8)=0))->ay [] w w'->dg w (iC (az B ps) n) (.returned (.bool r)) w'):=λr w' hr hk=>⟨r,rfl,hr.trans (Pt hB hR hK).symm,hk⟩
 have z:=bm.new w (aU n v) 110;have ez:=(ay.refl [] w).alloc (.cells (aU n v) 110);generalize az B ps=X at *;generalize iC X n=pT at *;obtain⟨s,hs⟩:=cj hS.1;have c3:(w.alloc (.cells (aU n v) 110)).cell? ⟨w.heap.size,3,none⟩=some (.int .i64 (s:Int)):=by rw[z.cell,<-hs];exact(jo v hB).f3
 have hm:(s:Int).tmod 64=((s%64:Nat):Int):=rfl;have hd:(s:Int).tdiv 64=((s/64:Nat):Int):=rfl;have Nr:s<=832:=by omega
 have G:Hid (∀(r:Bool) w',(r=true↔(s%64≠0->n.B.getD (s/64) 0≠0->∀j:Nat,s%64<=j->j<64->nO (X.getD (1080+8*(n.B.getD (s/64) 0).toNat+j/8) 0).toNat (j%8)=0))->ay [] w w'->dg w pT (.returned (.bool r)) w'):=λr w' hr hk=>HP.out r w' (hr.trans (by
  rw[hs,show((s:Int)/64).toNat=s/64 by omega];constructor
  ·intro h h0 z j hj
   exact h (by omega) z j (by omega)
  ·intro h h0 z j hj
   exact h (by omega) z j (by omega))) hk
 clear HP hs h eT hS;by_cases h0:s%64=0
 ·have HF:=ar (G.out true _ ⟨λ_ h=>absurd h0 h,λ_=>rfl⟩ ez)
  rw[h0] at hm;clear G HG z ez J h0;generalize aU n v=Z at *;go_enter Tryz.func131,Tryz.ntmps131;go_wp2_with fail;go_ret;exact HF.out
 ·have hq:s/64<13:=by omega
  have c4:(w.alloc (.cells (aU n v) 110)).cell? ⟨w.heap.size,4+s/64,none⟩=some (.int .i64 (n.B.getD (s/64) 0)):=by rw[z.cell];exact(jo v hB).f4 _ hq
  have hy:=J (s/64);have Yk:Hid (s%64≠0):=h0;have sr:s%64<64:=fJ _ (by omega);have fS:=ar ez;generalize n.B.getD (s/64) 0=y at *;obtain⟨q,ag⟩:∃q,s/64=q:=⟨_,rfl⟩;rw[ag] at c4 hd hq;have aq:(q:Int)<13:=by omega
  have Vp:(0:Int)<=(q:Int):=by omega
  have QR:((s%64:Nat):Int)≠0:=by omega
  obtain⟨r,aj⟩:∃r,s%64=r:=⟨_,rfl⟩;rw[aj] at hm sr Yk G QR;have ax:((r:Int)==0)=false:=by simpa using QR
  clear z ez J h0 ag aj Nr QR;generalize aU n v=Z at *;by_cases Mu:y=0
  ·subst Mu
   have HF:=ar (G.out true _ ⟨λ_ _ h=>absurd rfl h,λ_=>rfl⟩ fS.out);clear G HG hy;go_enter Tryz.func131,Tryz.ntmps131;go_wp2_with fail;go_ret;exact HF.out
  ·obtain⟨V,rfl⟩:=cj hy.1
   rw[aH] at G;have av:(((V:Nat):Int)==0)=false:=by simpa using Mu
   have aF:V<256:=by omega
   have ap:Hid (((V:Nat):Int)≠0):=Mu;have AD:=ar (λw=>jm (V:Int) w);rw[show gV (V:Int)=((1080+8*V:Nat):Int) by unfold gV;rw[aA (by omega)];omega] at AD;have HQ:Hid (∀k:Nat,k<64->1080+8*V+k/8<3128):=λk hk=>by omega
   clear hy Mu;generalize 1080+8*V=Q at *;go_enter Tryz.func131,Tryz.ntmps131;go_wp2_with fail;go_loopg [7] (64-r) (λgh s7 wx=>∃k:Nat,k+gh=64/\s7= .int .i64 (k:Int)/\Hid (ay [] w wx/\r<=k/\∀j,r<=j->j<k->nO (X.getD (Q+j/8) 0).toNat (j%8)=0))
   case atStart=>exact⟨r,by omega,rfl,fS.out,aG _,λj h1 h2=>by omega⟩
   case round=>
    clear c3 c4 hm hd;obtain⟨k,hk,rfl,W⟩:=hrel;cases gk with
    |zero=>
     obtain rfl:k=64:=by omega
     have HF:=ar (G.out true _ ⟨λ_ _ _=>W.out.2.2,λ_=>rfl⟩ W.out.1);clear W G HG AD HQ;go_wp2_with fail;go_ret;exact HF.out
    |succ gg=>
     have ac:k<64:=by omega
     have ye:(k:Int)<64:=by omega
     have hp:=HQ.out k ac;obtain⟨p,U⟩:∃p,Q+k/8=p:=⟨_,rfl⟩;have lO:Hid (nO (X.getD p 0).toNat (k%8)=0->r<=k+1/\∀j,r<=j->j<k+1->nO (X.getD (Q+j/8) 0).toNat (j%8)=0):=λz=>⟨by have :=W.out.2.1;omega,λj h1 h2=>by
      by_cases e:j=k
      ·rw[e,U];exact z
      ·exact W.out.2.2 j h1 (by omega)⟩
     have jr:Hid (nO (X.getD p 0).toNat (k%8)≠0->¬(r≠0->((V:Nat):Int)≠0->∀j:Nat,r<=j->j<64->nO (X.getD (Q+j/8) 0).toNat (j%8)=0)):=λz hh=>z (by
      have :=hh Yk.out ap.out k W.out.2.1 ac;rwa[U] at this)
     have XR:=ar W.out.1;rw[U] at hp;have X4:(Q:Int)+((k/8:Nat):Int)=(p:Int):=by rw[<-U];omega
     have aC:(k:Int).tmod 8=((k%8:Nat):Int):=rfl;have BG:(k:Int).tdiv 8=((k/8:Nat):Int):=rfl;have ak:k%8<8:=fJ _ (by omega);have aB:((k%8:Nat):Int)<8:=by omega
     have zi:(0:Int)<=((k%8:Nat):Int):=by omega
     have QQ:IntKind.i64.wrap (p:Int)=(p:Int):=dY _ (by omega);have aw:wrap64 (p:Int)=(p:Int):=by unfold wrap64;omega
     clear W HQ U;generalize k/8=d8 at *;generalize k%8=j8 at *;have af:=ar (AD.out wr);go_wp2_with fail;refine af.out.mono ?_;rintro e w1 ⟨rfl,rfl⟩;have ai:=ar (HG.out wr XR.out p hp);have ae:=ar (Bt (X.getD p 0).toNat wr);clear AD af HG;generalize (X.getD p 0).toNat=WD at *;go_wp2_with fail;refine ai.out.mono ?_;rintro e w1 ⟨rfl,rfl⟩;clear ai;go_wp2_with fail;refine ae.out.mono ?_;rintro e w2 ⟨rfl,ah⟩;obtain⟨w3,p1,p2,p3⟩:=sY (p7 0 0) (kh WD) (bm.new w2 (mi (lW 0 0)).toArray 196);have c8:w3.cell? ⟨w2.heap.size,j8,none⟩=some (.int .u8 ((nO WD j8:Nat):Int)):=by
      rw[p2.cell,<-sJ WD j8 ak];simpa using wN (l:=jH WD) (j:=j8) (by rw[kh];omega)
     have uf:=ar p1;rw[<-vr 0] at uf;have lS:Hid (ay [] w w3):=(XR.out.trans' ah).trans' (((ay.refl [] w2).alloc _).trans p3 (by intro x hx;rw[au] at hx;omega));have aD:=xN WD j8;clear ae ah p1 p2 p3 XR;generalize (mi (jH WD)).toArray=ZB at *;generalize nO WD j8=bv at *;by_cases aa:bv=0
     ·subst aa
      have HN:=ar (lO.out rfl);clear lO jr G;go_wp2_with(with_reducible refine gS 196 uf.out ?_);go_roundg gg;case measure=>omega
      case rel=>exact⟨k+1,by omega,by go_num,lS.out,HN.out⟩
     ·have J7:(((bv:Nat):Int) != 0)=true:=bne_iff_ne.2 (by omega)
      have HF:=ar (G.out false _ ⟨(λh=>by cases h),λhh=>absurd hh (jr.out aa)⟩ lS.out);clear lO jr G aa;go_wp2_with(with_reducible refine gS 196 uf.out ?_);go_ret;exact HF.out
end Go.Proofs.YtcecbdeamjigiaaGreatDoor
namespace Go.Proofs.YtcecbdeamjigiaaGreatDoor
open Go.RowKit Go.Shelf
variable{A w y:World}{b gf gl gn gp k n:Nat}{P:Program}{Q:Exit->Act->World->Prop}{a:Act}{T:List (bM×Value)}{B:List Int}{ps:List (Int×Int)}{own:Nat->List Nat}
attribute [local go_sem] Oper.semAt_some
theorem Qs{X:List Int}(h:nE X T own){xs:List GX}(V:xs.map js=iO T 32):(∀x∈xs,oY x.i x.n (ju T x.i))↔tJ T:=by
 constructor
 ·intro J i W
  rcases h.form i with ⟨G,-,-⟩|⟨-,z,-⟩
  ·have y:(i,nT T i)∈iO T 32:=lI.2 ⟨W,rfl,G⟩
   rw[<-V] at y;obtain⟨x,U,e⟩:=bB.1 y;have :=J x U
   injection e with e1 e2
   rwa[e1,e2] at this
  ·rw[z]
   exact⟨(λh=>by cases h),(λh=>by cases h)⟩
 ·intro J x U
  have y:js x∈iO T 32:=by rw[<-V];exact bB.2 ⟨x,U,rfl⟩
  obtain⟨G,z,-⟩:=lI.1 y;have :=J x.i G;rwa[<-show x.n=nT T x.i from z] at this
theorem Aw (h:fG w b gp B ps T own):
  Calls Tryz.prog 85 #[.pointer (some ⟨b,0,none⟩)] w (dg w (tJ T)):=by
 have aQ:=Jk;have xf:=eV;obtain⟨Z0,yJ⟩:∃Z0,aU cB (.slice none 0 0)=Z0:=⟨_,rfl⟩;have C7:Hid (Z0.size=18):=by show _=_;rw[<-yJ];rfl
 rw[yJ] at xf;clear yJ;have HS:=ar h;clear h;generalize Wh:(cW (cQ 32 λ_=>0)).toArray=ZC at *;have aK:=ar Wh;clear Wh;have LI:Hid (∀z,ay [] w z->Calls Tryz.prog 125 #[.pointer (some ⟨b,0,none⟩)] z λe w'=>e= .returned (.agg (cW (cQ 32 (ju T))).toArray)/\ay [] z w'):=λz G=>C0 (HS.out.keep0 G)
 have dc:=(ay.refl [] w).alloc (.cells #[.bool false] 4);have ap:=ar (LI.out _ dc);have iH:=ar dc;have KW:=ar (bm.new w #[.bool false] 4);clear LI dc;obtain⟨ZR,av⟩:∃ZR,(cW (cQ 32 (ju T))).toArray=ZR:=⟨_,rfl⟩;rw[av] at ap;have aF:=ar av;clear av;refine(callsIn_wide (n:=5)).1 (callsIn_of_wp_marks Tryz.func85 rfl trivial (wpIn_wide.2 ?_) rfl);simp only[Tryz.ntmps85,bU,bH,cp,Nat.reduceAdd,Nat.reduceSub,Array.replicate_succ,Array.replicate_zero,List.push_toArray,List.append_toArray,bW,List.cons_append];go_wp2_with fail;refine ap.out.mono ?_;rintro e w2 ⟨rfl,aa⟩;obtain⟨w3,p1,p2,p3⟩:=EY (f':=ju T) (show bm (w2.alloc (.cells ZC 175)) w2.heap.size (cW (cQ 32 λ_=>0)).toArray 175 by rw[aK.out];exact bm.new w2 _ _);rw[aF.out] at p1;have uf:=ar p1;have qb:=ar p2;have pF:ay [] w2 w3:=((ay.refl [] w2).alloc _).trans p3 (by intro x U;rw[au] at U;omega);have WV:=ar (KW.out.keep (aa.trans' pF) (by simp));have lS:=ar (iH.out.trans' (aa.trans' pF));clear p1 p2 p3 pF aa ap KW iH;have aN:=qb.out.lt;go_wp2_with(with_reducible refine gS 175 uf.out ?_);generalize w2.heap.size=cb at *;refine(Mi b _).mono ?_;rintro e w4 ⟨rfl,ae⟩;go_wp2_with fail;rw[<-ae];have aX:w4.heap.size=w3.heap.size+1:=by rw[ae];simp
 have DC:ay [] w3 w4:=by rw[ae];exact(ay.refl [] w3).alloc _
 have QJ:bm w4 cb (cW (cQ 32 (ju T))).toArray 175 :=qb.out.keep DC (by simp);have rW:bm w4 w.heap.size #[.bool false] 4 :=WV.out.keep DC (by simp);have uK:bm w4 w3.heap.size #[.pointer (some ⟨b,0,none⟩)] 52 :=by rw[ae];exact bm.new w3 _ _
 have ac:ay [] w w4:=lS.out.trans' DC;have XL:=HS.out.keep0 ac;have aL:=HS.out.lt;have aW:=lS.out.size;have aO:w.heap.size≠cb:=λe=>by
  have V:w3.heap[cb]? =some (.cells #[.bool false] 4 (0,0)):=by rw[<-e];exact WV.out
  have h3:=Option.some.inj (V.symm.trans qb.out)
  injection h3 with q1 q2
  exact absurd q2 (by decide)
 have rM:=y6 (n:=5-1) (by omega) XL uK (C:=[w.heap.size]) (λk G=>by rw[au] at G;subst G;have :=WV.out.lt;omega);have aw:∀xs:List GX,xs.map js=iO T 32->((∀x∈xs,oY x.i x.n (ju T x.i))↔tJ T):=λxs h=>Qs HS.out.gots h
 have aq:∀i,(nT T i).F≠0->(nT T i).K=1\/(nT T i).K=2:=λi hi=>by
  rcases HS.out.gots.form i with ⟨-,-,V⟩|⟨V,-⟩
  ·exact V.right.2.2.imp (·.1) (·.1)
  ·exact absurd V hi
 have aS:=WV.out.lt;clear ae XL uK qb WV lS uf;refine(wpIn_wide (n:=5)).1 ?_;refine pg (by omega) (gf:= 159) (lb:= #[.pointer (some ⟨w3.heap.size,0,none⟩)]) rfl (enters_of Tryz.func159 (by kernel_rfl) rfl) rM (λk G=>by rw[au] at G;subst G;omega) (λ_=>rfl)
  (λJ A=>ay [] w A/\bm A cb (cW (cQ 32 (ju T))).toArray 175/\bm A w.heap.size #[.bool false] 4/\∀x∈J,oY x.i x.n (ju T x.i))
  (λc J A=>c= .ret/\ay [] w A/\bm A w.heap.size #[.bool false] 4/\∃x∈J,¬oY x.i x.n (ju T x.i))
  (λJ A A' h hb=>⟨h.1.below_trans hb (by omega),h.2.1.low hb (by omega),h.2.2.1.low hb (by omega),h.2.2.2⟩)
  (λc J A A' h hb=>⟨h.1,h.2.1.below_trans hb (by omega),h.2.2.1.low hb (by omega),h.2.2.2⟩)
  ⟨ac,QJ,rW,λx U=>by cases U⟩
  (λl x A A' h G=>h.keep G λk G=>by rw[au] at G;omega)
  (λx a' W=>∃g5,bm W g5 (aU x.n x.v) 110/\w4.heap.size<=g5/\a'={ tmps:= #[.pointer (some ⟨b,0,none⟩),undef,.pointer (some ⟨w.heap.size,0,none⟩),.pointer (some ⟨cb,0,none⟩),.int .i64 (x.i:Int),.pointer (some ⟨g5,0,none⟩),.pointer (some ⟨b,0,none⟩),.agg ZR,.pointer (some ⟨b,0,none⟩),.func (.func 159) #[] #[.pointer (some ⟨w3.heap.size,0,none⟩)],.int .i64 (x.i:Int),.agg (aU x.n x.v),undef,undef,undef,undef,undef,undef,undef],defers:=[] })
  (λl x a' A A' _ hr h G=>by
   obtain⟨g5,V,h2,h3⟩:=h;obtain⟨r,hr⟩:=hr;refine⟨g5,V.keep G λhm=> ?_,h2,h3⟩;rw[au] at hm;subst hm;rw[V] at hr;cases hr)
  ?assign (λl x A A' h G=>h.keep G (by simp)) ?body ?done ?stop
 case assign=>
  rintro l x W K ⟨V,h2,h3,h4,g,h5,h6⟩ aZ hK;obtain⟨w5,p1,p2,p3⟩:=fF (n:=x.n) (v:=x.v) (bm.new W Z0 110) C7.out h4 h6.one;have zz:=ar p1;have jG:ay [] W w5:=((ay.refl [] W).alloc _).trans p3 (by intro x U;rw[au] at U;omega);have HF:=ar (hK _ w5 jG ⟨W.heap.size,p2,by omega,rfl⟩);clear p1 p2 p3 jG hK V h2 h3 h4 h5 h6;unfold Qq;generalize aU x.n x.v=ZN at *
  gi_wp2_with ((with_reducible show wpListIn _ _ _ _ _ (⟨_,.store 110 (.tmp 5) (.tmp 11),_,_,_,_⟩::_) _ _);refine iq (r:=some l) rfl 110 (.tmp 5) (.tmp 11) rfl _ rfl _ rfl _ zz.out ?_)
  exact HF.out
 case body=>
  rintro l J x a' W hl aY ⟨su,GZ,vY,Z⟩ hN ⟨aD,aj,aB,Ys,g,hg,hE⟩ ⟨g5,pE,aM,rfl⟩;have ak:=aq x.i (by rw[<-aj];exact aB);rw[<-aj] at ak;have aV:g5≠w.heap.size:=by have :=ac.size;omega
  obtain⟨pb,Ap⟩:∃pb:Bool,(pb=true↔oY x.i x.n (ju T x.i)):=by
   by_cases hp:oY x.i x.n (ju T x.i)
   ·exact⟨true,λ_=>hp,λ_=>rfl⟩
   ·exact⟨false,(λh=>by cases h),λh=>absurd h hp⟩
  have az:Hid (∀z,Calls Tryz.prog 128 #[.int .i64 (x.i:Int),.agg (aU x.n x.v),.int .i64 (ju T x.i:Int)] z λe w'=>e= .returned (.bool pb)/\ay [] z w'):=λz=>(Pu x.v Ys ak x.i (ju T x.i) z).mono λe w' ⟨r,V,h2,h3⟩=>⟨by rw[V,Bool.eq_iff_iff.2 (h2.trans Ap.symm)],h3⟩
  have vv:Hid (∀z,ay [] W z->(loadVar 110 ⟨g5,0,none⟩).run Tryz.prog z= .ok (.agg (aU x.n x.v)) z):=λz G=>cH (pE.keep G (by simp)) Ys
  have aA:Hid (∀z,ay [] W z->z.cell? ⟨cb,x.i,none⟩=some (.int .i64 (ju T x.i:Int))):=λz G=>Gn (GZ.keep G (by simp)) aD
  have jt:(x.i:Int)<32:=by omega
  have aT:(0:Int)<=(x.i:Int):=by omega
  have Aa:Hid (∀z,ay [] W z->z.cell? ⟨w.heap.size,0,none⟩=some (.bool false)/\z.frozen? ⟨w.heap.size,0,none⟩=false):=λz G=>by
   have hb:=vY.keep G (by simp);exact⟨by rw[hb.cell];rfl,hb.frozen 0⟩
  have lO:Hid (pb=true->∀z,ay [] W z->qO [w.heap.size] (λJ A=>ay [] w A/\bm A cb (cW (cQ 32 (ju T))).toArray 175/\bm A w.heap.size #[.bool false] 4/\∀x∈J,oY x.i x.n (ju T x.i)) (λc J A=>c= .ret/\ay [] w A/\bm A w.heap.size #[.bool false] 4/\∃x∈J,¬oY x.i x.n (ju T x.i)) (J++[x]) W .normal { tmps:= #[],defers:=[] } z):=λhp z G=>
   ⟨G.mono (by simp),su.trans' G,GZ.keep G (by simp),vY.keep G (by simp),λy hy=>by
    rcases aP.1 hy with hy|hy
    ·exact Z y hy
    ·rw[au] at hy
     subst hy;exact Ap.1 hp⟩
  have jr:Hid (pb=false->∀z,ay [] W z->qO [w.heap.size] (λJ A=>ay [] w A/\bm A cb (cW (cQ 32 (ju T))).toArray 175/\bm A w.heap.size #[.bool false] 4/\∀x∈J,oY x.i x.n (ju T x.i)) (λc J A=>c= .ret/\ay [] w A/\bm A w.heap.size #[.bool false] 4/\∃x∈J,¬oY x.i x.n (ju T x.i)) (J++[x]) W .ret { tmps:= #[],defers:=[] } (z.setCell ⟨w.heap.size,0,none⟩ (.bool false))):=λhp z G=>
   ⟨(G.mono (l':=[w.heap.size]) (by simp)).setCell (.inl (by simp)) _,rfl,(su.trans' G).setCell (.inr (aG _)) _,(vY.keep G (by simp)).set 0 (.bool false),x,by simp,λh=>by rw[Ap.2 h] at hp;cases hp⟩
  have nR:Hid (ay [] W W.drew):=(ay.refl _ _).drew;clear su GZ vY Z hN aj aB hE pE ak Ap aw aq QJ rW ac rM;generalize aU x.n x.v=ZN at *;generalize (ju T x.i:Int)=cI at *;refine wpIn_block (wpIn_seq_k λK XT=> ?_);refine y0 (r:=some l) (S:=λz=>ay [] W z) (by kernel_rfl) (by rintro⟨a,w,h⟩;exact h) (by kernel_rfl) (by kernel_rfl) (λd _ _ _ _ h=>by cases d<;>exact h) nR.out (by kernel_rfl) ?_;repeat (first
   |(refine aJ.cons (.bool pb) (ba.call rfl 128 #[.int .i64 (x.i:Int),.agg ZN,.int .i64 cI] ?he ?h) ?_;(case he=>(intro wz;go_simp));(case h=>exact λz U=>(az.out z).mono λe w' he=>⟨he.1,U.trans' he.2⟩);simp only[Act.put,ag,ah,ai])
   |(refine aJ.cons (.agg ZN) (ba.load rfl 110 (.tmp 5) rfl _ rfl λz U=>vv.out z U) ?_;simp only[Act.put,ag,ah,ai])
   |(refine aJ.cons ?_ (ba.val rfl ?h) ?_;(case h=>(intro z U;have aR:=aA.out z U;clear U;go_simp;rfl));simp only[Act.put,ag,ah,ai]))
  refine aJ.done λz U=> ?_
  refine XT _ _ ?_;have af:=ar (λh=>lO.out h z U);have R5:=ar (λh=>jr.out h z U);obtain⟨aI,aH⟩:=Aa.out z U;clear XT U lO jr Aa aA vv az nR;cases pb
  ·have HF:=ar (R5.out rfl)
   clear af R5
   gi_wp2
   exact HF.out
  ·have HF:=ar (af.out rfl)
   clear af R5
   gi_wp2
   exact HF.out
 case stop=>
  rintro D c J W hD kD ⟨rfl,su,vY,x,U,aC⟩ EB;have QK:¬tJ T:=λh=>aC (by
   obtain⟨V,h2,-⟩:=lI.1 (kD.2 x U);have :=h x.i V;rwa[<-show x.n=nT T x.i from h2] at this)
  have Xh:=ar EB;have Aj:Hid (∀W',ay [D] W W'->W'.cell? ⟨w.heap.size,0,none⟩=some (.bool false)/\dg w (tJ T) (.returned (.bool false)) W'):=λW' G=>⟨by rw[(vY.keep G (by rw[au];omega)).cell];rfl,false,rfl,⟨(λh=>by cases h),λh=>absurd h QK⟩,su.trans G (by intro y hy;rw[au] at hy;omega)⟩
  clear su vY aC U kD EB QK;refine wpIn_wide.2 ?_;go_wp2_with fail;refine jN [D] W (by simp) (λD' FZ=>by rw[au] at FZ;subst FZ;exact Xh.out) λW' G=> ?_
  obtain⟨V,h2⟩:=Aj.out W' G;exact⟨.bool false,by simp[results,Tryz.results85,go_sem,V],h2⟩
 case done=>
  rintro D xs W hD GY ⟨su,GZ,vY,Z⟩ EB;have hr:=(aw xs GY).1 Z;have aI:W.cell? ⟨w.heap.size,0,none⟩=some (.bool false):=by rw[vY.cell];rfl
  have aH:=vY.frozen 0;have ax:=vY.set 0 (.bool true);have aa:ay [w.heap.size] W (W.setCell ⟨w.heap.size,0,none⟩ (.bool true)):=(ay.refl _ _).setCell (.inl (by simp)) _;have Xh:Hid ((W.setCell ⟨w.heap.size,0,none⟩ (.bool true)).heap[D]? =some (.deferred (some []))):=(aa.block D (Array.getElem?_eq_some_iff.1 EB).1 (by rw[au];omega)).trans EB;have Aj:Hid (∀W',ay [D] (W.setCell ⟨w.heap.size,0,none⟩ (.bool true)) W'->W'.cell? ⟨w.heap.size,0,none⟩=some (.bool true)/\dg w (tJ T) (.returned (.bool true)) W'):=λW' G=>⟨by rw[(ax.keep G (by rw[au];omega)).cell];rfl,true,rfl,⟨λ_=>hr,λ_=>rfl⟩,(su.trans aa (by intro y hy;rw[au] at hy;omega)).trans G (by intro y hy;rw[au] at hy;omega)⟩
  clear su GZ vY Z EB hr ax aa GY aw aq QJ rW ac rM;go_wp2_with fail;refine jN [D] _ (by simp) (λD' FZ=>by rw[au] at FZ;subst FZ;exact Xh.out) λW' G=> ?_
  obtain⟨V,h2⟩:=Aj.out W' G;exact⟨.bool true,by simp[results,Tryz.results85,go_sem,V],h2⟩
end Go.Proofs.YtcecbdeamjigiaaGreatDoor
