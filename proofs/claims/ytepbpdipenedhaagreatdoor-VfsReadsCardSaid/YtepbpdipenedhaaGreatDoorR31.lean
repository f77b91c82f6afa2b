/- Lemmas. -/
import Derived.Test.YtepbpdipenedhaaGreatDoorR30
set_option maxHeartbeats 4000000
set_option maxRecDepth 100000
namespace Go.Proofs.YtepbpdipenedhaaGreatDoor
open Go.Proofs.Tryz
open Go.RowKit
variable{A w z:World}{b gp k n:Nat}{P:Program}{Q:Exit->Act->World->Prop}{a:Act}{T:List (bP×Value)}{B:List Int}{ps:List (Int×Int)}{own:Nat->List Nat}
theorem Qq (f:Int):aR (y8 f) (.slice none 0 0)= #[.int .i64 f,.int .i64 2,.int .i64 1,.int .i64 0,.int .i64 0,.int .i64 0,.int .i64 0,.int .i64 0,.int .i64 0,.int .i64 0,.int .i64 0,.int .i64 0,.int .i64 0,.int .i64 0,.int .i64 0,.int .i64 0,.int .i64 0,.slice none 0 0]:=rfl
def Laid (w:World) (b gn gl gf:Nat) (d:Int) (w':World):Prop:=
 ∃Y,Ql Y vR/\(aZ Y).length=255/\fH w' b gn gl gf (calm Y d)/\az [b,gn,gl,gf] w w'
theorem ad0{gn gl gf:Nat}{xs:List Int}{d:Int}(h:fH w b gn gl gf (calm xs d))(h0:0<=d)(hd:d<100000000000000000)(hx:xs.length=3128)(hT:kg w){f:Int}(hf:f=1\/f=2):
  Calls prog 24 #[.pointer (some ⟨b,0,none⟩),.int .i64 f] w λe w'=>e= .returned (.int .i64 0)/\Laid w b gn gl gf (d+3520) w':=by
 have HN:=au (EB (w:=w) (v:= .slice none 0 0) (g:=0) (ws:=[]) ⟨none,0,rfl,aI _,by simp[maxLen],λh=>absurd rfl h⟩);have HL:=au (λwx (hk:az [] w wx)=>Gl (h.keep hk (by simp) (by simp)) hx);have ho:=h.old (by show xs.length≠0;omega)
 -- Aim, the puts, the root, settle
 have ag:Hid (∀U J,w.heap.size<=J->az [] w U->eO U J J (kF []) []->Calls prog 47 #[.pointer (some ⟨J,0,none⟩),.int .i64 f] U λe w2=>e= .returned (.int .i64 0)/\Hid (∃V,(w.heap.size<=V/\V<w2.heap.size)/\eO w2 J V (kF []) [(1,f),(2,0)]/\az [] w w2)):=λU J hb hk hs=>by
  refine(X9 hs ⟨hs.raw.lt,hs.raw.lt⟩ (by simp) f (Nh hs (xM 1))).mono ?_;rintro e w2 ⟨r,qs,V,rfl,hg,G,z,-,hr⟩;have hz:(aA (kF []) []).getD 1 0=0:=xM 1;have hq:r=0/\qs=[(1,f),(2,0)]:=by
   rcases hr with ⟨-,h1,-⟩|⟨h1,-,⟨h2,-⟩|⟨-,h2⟩⟩
   ·exact absurd hf h1
   ·rw[hz] at h2;omega
   ·exact⟨h1,h2⟩
  obtain⟨rfl,rfl⟩:=hq;refine⟨rfl,V,by have :=hk.size;have :=z.size;have :=hs.raw.lt;omega,G,hk.trans z λy hy=> .inr (by simp only[aP,aM,bz,or_self] at hy;omega)⟩
 have Cl:Hid (∀U J V ps (i x:Int),QL i=true->ps.length<=10->w.heap.size<=J->(w.heap.size<=V/\V<U.heap.size)->az [] w U->eO U J V (kF []) ps->Calls prog 48 #[.pointer (some ⟨J,0,none⟩),.int .i64 i,.int .u64 x] U λe w2=>e= .returned (.tuple #[])/\Hid (∃gG,(w.heap.size<=gG/\gG<w2.heap.size)/\eO w2 J gG (kF []) (ps++[(i,x)])/\az [] w w2)):=λU J V ps i x hi hp hb hg hk hs=>by
  refine(oD hs (by omega) i x).mono ?_;rintro e w2 ⟨rfl,gG,ar,G,z⟩;rw[zj,aC hi] at G;refine⟨rfl,gG,by have :=hk.size;have :=z.size;omega,G,hk.trans z λy hy=> .inr (by simp only[aP,aM,bz] at hy;omega)⟩
 have SH:Hid (∀U J V,w.heap.size<=J->(w.heap.size<=V/\V<U.heap.size)->az [] w U->eO U J V (kF []) (yD f)->Calls prog 49 #[.pointer (some ⟨J,0,none⟩),.int .i64 0,.agg (aR (y8 f) (.slice none 0 0))] U λe w2=>e= .returned (.int .i64 0)/\Hid (∃gG Y,Ql Y vR/\(aZ Y).length=255/\az [] w w2/\Calls prog 51 #[.pointer (some ⟨J,0,none⟩)] w2 λe w3=>∃v,e= .returned v/\Hid (Calls prog 50 #[.pointer (some ⟨b,0,none⟩),v] w3 λe w4=>e= .returned (.int .i64 0)/\Hid (gG=gG/\Laid w b gn gl gf (d+3520) w4)))):=λU J V hb hg hk hs=>by
  have aj:J<U.heap.size/\V<U.heap.size:=⟨hs.raw.lt,hg.2⟩;refine(um hs (ack hf).st.w64 (λwx hx=>hT.keep (hk.trans hx λy hy=> .inr (by simp only[aP,aM,bz] at hy;omega))) aj.2 (by simp[yD]) 0 (y8 f) (.slice none 0 0) 0 rfl (bC.nil _ _) (λk hk=>by simp[y8] at hk) (λh=>absurd rfl h)).mono ?_;rintro e w2 ⟨r,qs,gG,rfl,ar,G,z,-,hr⟩;obtain⟨rfl,T,own,GG,o9,h8⟩:=abG hf hr;have sW:az [] w w2:=hk.trans z λy hy=> .inr (by simp only[aP,aM,bz] at hy;omega)
  refine⟨rfl,gG,_,⟨h8,T,own,GG⟩,o9,sW,?_⟩;refine(Qo G).mono ?_;rintro e w3 ⟨v,g,rfl,ah,av,ak⟩;refine⟨v,rfl,?_⟩;have J1:=sW.trans' ak;show Calls _ _ _ _ _;refine(Qm (h.keep J1 (by simp) (by simp)) h0 hd hx GG.st.len ah (by have :=sW.size;intro hm;simp only[aP,aM,bz] at hm;omega)).mono ?_;rintro e w4 ⟨rfl,h1,h2⟩;exact⟨rfl,rfl,_,⟨h8,T,own,GG⟩,o9,h1,(J1.mono (by simp)).trans' h2⟩
 rw[Qq] at SH;clear h h0 hd hx hT hf ho;generalize Laid w b gn gl gf (d+3520)=Q at *;go_enter func24,ntmps24;go_wp2_with fail;refine HN.out.mono ?_;rintro e U ⟨J,rfl,aa,af,hk⟩;have yr:=au (HL.out U hk);have HA:=au (ag.out U J aa hk af);have G1:=au aa;clear hk HL HN ag af aa;go_wp2_with fail;refine yr.out.mono ?_;rintro e w' ⟨rfl,rfl⟩;go_wp2_with fail;refine HA.out.mono ?_;rintro e w2 ⟨rfl,hr⟩;obtain⟨V,W,G,z⟩:=hr.out;have HP:=au (Cl.out w2 J V _ 0 7596835243318849792 (by decide) (by simp) G1.out W z G);clear hr W G z HA yr;go_wp2_with fail;refine HP.out.mono ?_;rintro e w3 ⟨rfl,hr⟩;obtain⟨VG,W,G,z⟩:=hr.out;have mU:=au (Cl.out w3 J VG _ 2 32 (by decide) (by simp) G1.out W z G);clear hr W G z HP Cl;go_wp2_with fail;refine mU.out.mono ?_;rintro e w4 ⟨rfl,hr⟩;obtain⟨ai,W,G,z⟩:=hr.out;have HI:=au (SH.out w4 J ai G1.out W z G);have ub:=eA;rw[Gu] at ub;clear hr W G z mU SH G1;go_wp2_with fail;refine HI.out.mono ?_;rintro e w5 ⟨rfl,hr⟩;obtain⟨-,-,-,-,-,hw⟩:=hr.out;have ae:=au hw;clear hr hw HI;go_wp2_with fail;refine ae.out.mono ?_;rintro e w6 ⟨v,rfl,ac⟩;clear ae;go_wp2_with fail;refine ac.out.mono ?_;rintro e w7 ⟨rfl,hq⟩;clear ac;go_wp2_with fail;go_ret;exact⟨rfl,hq.out.2⟩
def acn {α:Type} (n:Nat) (P:Program) (gf:Nat) (lb:Array Value) (YM:α->Array Value) (Rd:Nat->α->World->Prop) (S V:List α->Prop) (N:Nat) (C:List Nat) (w:World):Prop:=
 ∀(l:Nat) (J G:List α->World->Prop) (W:World),az [] w W->w.heap.size<=l->l<W.heap.size->
  (∀h A z,J h A->az [] A z->J h z)->(∀h A z,G h A->az [] A z->G h z)->
  (∀h x A,J h A->h.length<N->Rd l x A->YieldAt Fence.wide (n-1) P l (YM x) A λe z=>
   (e= .returned (.bool true)/\J (h++[x]) z/\az (l::C) A z)\/(e= .returned (.bool false)/\G (h++[x]) z))->
  J [] W->
  CallsIn Fence.wide n P gf (#[.func (.yield l) #[] #[]]++lb) W λe U=>(∃v,e= .returned v)/\((∃xs,S xs/\J xs U)\/(∃h,V h/\G h U))
def uH {α:Type} (C:List Nat) (I:List α->World->Prop) (h:Code->List α->World->Prop) (xs:List α) (W:World):Exit->Act->World->Prop
 | .normal,_,W'=>az C W W'/\I xs W'
 | .ret,_,W'=>az C W W'/\h .ret xs W'
 | .exit id,_,W'=>az C W W'/\h (.exit id) xs W'
 | .goto t,_,W'=>az C W W'/\h (.goto t) xs W'
 | .panic _,_,_=>False
 | .outgrown,_,_=>False
theorem ra (W:World)(l:Nat)(o:Obj):az [l] W (W.putObj l o):=
 ⟨rfl,rfl,rfl,by simp,λk _ h=>World.putObj_heap_other (by simpa using h)⟩
theorem sw{α:Type}{g:Operand}{ps:Array Tmp}{assign body:Code}(h1:1<=n){gf:Nat}{lb:Array Value}(hg:a.eval g= .func (.func gf) #[] lb)(eg:∀args w,(callFunc gf args).run P w= .ok (.enter gf args) w)
  {YM:α->Array Value} {Rd:Nat->α->World->Prop} {S Sp:List α->Prop} {N:Nat} {C:List Nat} (av:acn (n-1) P gf lb YM Rd S Sp N C w) (hC:∀k∈C,k<w.heap.size) (aA:∀x,(YM x).size=ps.size)
  (I:List α->World->Prop) (Ix:Code->List α->World->Prop) (hI:∀G A J,I G A->Below w.heap.size A J->I G J) (aa:∀c G A J,Ix c G A->Below w.heap.size A J->Ix c G J) (h0:I [] w)
  (aJ:∀l x A J,Rd l x A->az [l] A J->Rd l x J) (Ax:α->Act->World->Prop) (aG:∀l x a' A J,w.heap.size<=l->(∃r,A.heap[l]? =some (.loop r))->Ax x a' A->az [l] A J->Ax x a' J)
  (aK:∀(l:Nat) (x:α) (W:World) (K:Act->World->Prop),Rd l x W->w.heap.size<W.heap.size->(∀a' W',az [] W W'->Ax x a' W'->K a' W')->
   assign.wpIn (Fence.wide.inRound l) (n-1-1) P (Exit.then K (λ_ _ _=>False)) { tmps:=(ps.zip (YM x)).foldl (λt (p,v)=>t.setIfInBounds p v) a.tmps,defers:=[] } W)
  (aH:∀l x A J,Rd l x A->az [] A J->Rd l x J)
  (au:∀(l:Nat) (G:List α) (x:α) (a':Act) (W:World),w.heap.size<l->l<W.heap.size->I G W->G.length<N->Rd l x W->Ax x a' W->body.wpIn (Fence.wide.inRound l) (n-1-1) P (uH C I Ix (G++[x]) W) a' W)
  (ak:∀(D:Nat) (xs:List α) (W:World),w.heap.size<=D->S xs->I xs W->W.heap[D]? =some (.deferred (some []))->Q .normal { a with defers:={ target:= .collected D,args:= #[] }::a.defers } W)
  (aC:∀(D:Nat) (c:Code) (G:List α) (W:World),w.heap.size<=D->Sp G->Ix c G W->W.heap[D]? =some (.deferred (some []))->c.wpIn Fence.wide n P Q { a with defers:={ target:= .collected D,args:= #[] }::a.defers } W):
  (Code.rangeFunc g ps assign body).wpIn Fence.wide n P Q a w:=by
 refine wpIn_rangeFunc λfn aB=> ?_
 let U:LoopState->Option Code->Obj:=λst pe=> .loop { state:=st,pending:=pe,fn,tmps:=a.tmps,params:=ps,assign,body,defers:=w.heap.size }
 have e0:(w.alloc (.deferred (some []))).heap.size=w.heap.size+1:=br _ _;have ag:∀{A J:World},w.heap.size<=A.heap.size->az [w.heap.size+1] A J->Below w.heap.size A J:=λhA hk=>hk.below hA λk hk=>by rw[ay] at hk;omega
 have ai:∀{A J:World},w.heap.size<=A.heap.size->az [] A J->Below w.heap.size A J:=λhA hk=>hk.below hA λk hk=>by simp at hk
 obtain⟨W1,ae⟩:∃W1,(w.alloc (.deferred (some []))).alloc (U .ready none)=W1:=⟨_,rfl⟩;have r1:W1.heap[w.heap.size+1]? =some (U .ready none):=by rw[<-ae,<-e0];exact World.alloc_heap_new _ _
 have d1:W1.heap[w.heap.size]? =some (.deferred (some [])):=by rw[<-ae];exact(jv _ _ _ (by rw[e0];omega)).trans (World.alloc_heap_new w _)
 have k1:az [] w W1:=by rw[<-ae];exact((az.refl [] w).alloc _).alloc _
 have s1:W1.heap.size=w.heap.size+2:=by rw[<-ae,br,e0]
 refine⟨w.heap.size+1,[{ target:= .collected w.heap.size,args:= #[] }],W1,{ target:= .fn (.func gf) lb,args:= #[.func (.yield (w.heap.size+1)) #[] #[]] },W1,gf,#[.func (.yield (w.heap.size+1)) #[] #[]]++lb,W1,by rw[<-ae];exact run_enterLoop_outer _ _ _ _ _,?_,λ_ _=>trivial,?_,λ_=>h1,?_⟩
 ·simp only[resolve,hg]
  simp[go_sem]
 ·simp[invoke,go_sem,eg]
 refine(av (w.heap.size+1) (λG A=>I G A/\A.heap[w.heap.size+1]? =some (U .ready none)/\A.heap[w.heap.size]? =some (.deferred (some [])))
  (λG A=>∃c,Ix c G A/\A.heap[w.heap.size+1]? =some (U .done (some c))/\A.heap[w.heap.size]? =some (.deferred (some []))) W1 k1 (by omega) (by omega) ?_ ?_ ?_ ⟨hI _ _ _ h0 (ai (aI _) k1),r1,d1⟩).mono ?_
 ·rintro G A J ⟨i1,i2,i3⟩ hk
  have l2:=(Array.getElem?_eq_some_iff.1 i2).1;exact⟨hI _ _ _ i1 (ai (by omega) hk),(hk.block _ l2 (by simp)).trans i2,(hk.block _ (by omega) (by simp)).trans i3⟩
 ·rintro G A J ⟨c,i1,i2,i3⟩ hk
  have l2:=(Array.getElem?_eq_some_iff.1 i2).1;exact⟨c,aa _ _ _ _ i1 (ai (by omega) hk),(hk.block _ l2 (by simp)).trans i2,(hk.block _ (by omega) (by simp)).trans i3⟩
 ·rintro G x A ⟨i1,i2,i3⟩ hN hr
  have l2:=(Array.getElem?_eq_some_iff.1 i2).1;refine⟨fn,_,assign,body,run_yield i2 (aA x),roundIn_of_wpIn aB (aK _ x A _ hr (by omega) λa' A2 af aD=> ?_)⟩;have j2:A2.heap[w.heap.size+1]? =some (U .ready none):=(af.block _ l2 (by simp)).trans i2;have j3:A2.heap[w.heap.size]? =some (.deferred (some [])):=(af.block _ (by omega) (by simp)).trans i3;have l3:w.heap.size+1<A2.heap.size:=(Array.getElem?_eq_some_iff.1 j2).1;refine⟨_,run_beginRound j2 rfl,?_⟩;have ac:=ra A2 (w.heap.size+1) (U .busy none);obtain⟨A3,aj⟩:∃A3,A2.putObj (w.heap.size+1) (U .busy none)=A3:=⟨_,rfl⟩;have m2:A3.heap[w.heap.size+1]? =some (U .busy none):=by rw[<-aj];exact World.putObj_heap_same l3
  have m3:A3.heap[w.heap.size]? =some (.deferred (some [])):=by rw[<-aj];exact(World.putObj_heap_other (by omega)).trans j3
  rw[aj] at ac;have l4:w.heap.size+1<A3.heap.size:=(Array.getElem?_eq_some_iff.1 m2).1;show body.wpIn _ _ _ _ a' (A2.putObj (w.heap.size+1) (U .busy none));rw[aj];have aF:I G A3:=hI _ _ _ (hI _ _ _ i1 (ai (by omega) af)) (ag (by omega) ac);refine wpIn_mono (au _ G x a' A3 (by omega) l4 aF hN (aJ _ _ _ _ (aH _ _ _ _ hr af) ac) (aG _ _ _ _ _ (by omega) ⟨_,j2⟩ aD ac)) ?_;have ah:∀(z:Option Code) (V:World),az C A3 V->(Instr.endRound (w.heap.size+1) z).run P V= .ok (.bool z.isNone) (V.putObj (w.heap.size+1) (U (if z.isNone then .ready else .done) z))/\
    Below w.heap.size V (V.putObj (w.heap.size+1) (U (if z.isNone then .ready else .done) z))/\(V.putObj (w.heap.size+1) (U (if z.isNone then .ready else .done) z)).heap[w.heap.size+1]? =some (U (if z.isNone then .ready else .done) z)/\
    (V.putObj (w.heap.size+1) (U (if z.isNone then .ready else .done) z)).heap[w.heap.size]? =some (.deferred (some []))/\az ((w.heap.size+1)::C) A (V.putObj (w.heap.size+1) (U (if z.isNone then .ready else .done) z)):=λz V ar=>by
   have n2:V.heap[w.heap.size+1]? =some (U .busy none):=(ar.block _ l4 λhm=>by have :=hC _ hm;omega).trans m2;have n3:V.heap[w.heap.size]? =some (.deferred (some [])):=(ar.block _ (by omega) λhm=>by have :=hC _ hm;omega).trans m3;have l5:=(Array.getElem?_eq_some_iff.1 n2).1;have fK:=ra V (w.heap.size+1) (U (if z.isNone then .ready else .done) z);refine⟨run_endRound (P:=P) z n2,ag (by omega) fK,World.putObj_heap_same l5,(World.putObj_heap_other (by omega)).trans n3,?_⟩;have q1:az ((w.heap.size+1)::C) A A3:=(af.mono (l':=(w.heap.size+1)::C) (by simp)).trans ac (by simp);have q2:az ((w.heap.size+1)::C) A V:=q1.trans ar λx hx=> .inl (by simp[hx])
   exact q2.trans fK (by simp)
  rintro e a3 V hp;cases e with
  |normal=>
   obtain⟨f1,f2,f3,f4,f5⟩:=ah none V hp.1;exact⟨_,_,f1,.inl ⟨rfl,⟨hI _ _ _ hp.2 f2,f3,f4⟩,f5⟩⟩
  |ret=>
   obtain⟨f1,f2,f3,f4,f5⟩:=ah (some .ret) V hp.1;exact⟨_,_,f1,.inr ⟨rfl,.ret,aa _ _ _ _ hp.2 f2,f3,f4⟩⟩
  |exit id=>
   obtain⟨f1,f2,f3,f4,f5⟩:=ah (some (.exit id)) V hp.1;exact⟨_,_,f1,.inr ⟨rfl,.exit id,aa _ _ _ _ hp.2 f2,f3,f4⟩⟩
  |goto t=>
   obtain⟨f1,f2,f3,f4,f5⟩:=ah (some (.goto t)) V hp.1;exact⟨_,_,f1,.inr ⟨rfl,.goto t,aa _ _ _ _ hp.2 f2,f3,f4⟩⟩
  |panic ch=>exact hp.elim
  |outgrown=>exact hp.elim
 ·rintro e A ⟨⟨v,rfl⟩,h⟩
  rcases h with ⟨xs,hS,i1,i2,i3⟩|⟨G,ax,c,i1,i2,i3⟩
  ·have l2:=(Array.getElem?_eq_some_iff.1 i2).1
   have fK:=ra A (w.heap.size+1) (U .exhausted none);exact⟨none,_,run_endLoop (P:=P) i2 (by simp),ak _ xs _ (aI _) hS (hI _ _ _ i1 (ag (by omega) fK)) ((World.putObj_heap_other (by omega)).trans i3)⟩
  ·have l2:=(Array.getElem?_eq_some_iff.1 i2).1
   have fK:=ra A (w.heap.size+1) (U .exhausted (some c));exact⟨some c,_,run_endLoop (P:=P) i2 (by simp),aC _ c G _ (aI _) ax (aa _ _ _ _ i1 (ag (by omega) fK)) ((World.putObj_heap_other (by omega)).trans i3)⟩
theorem CF{z:Array Oper}{S:World->Prop}{r:Option Nat}{id:Nat}(W:P.follows .mixedOrders=true)(hq:¬LetsOut Q)(U:AE z=true)(V:yJ .any z z.size z.size=true)(J:∀d v c a w,Q (.panic c) (Act.put a d v) w->Q (.panic c) a w)(hS:S w.drew)
  (G:Region.ready .any z (df z.size z.size)=[]) (h:aK P z S (Q .normal) z.toList a):(Code.region id z true).wpIn { Fence.wide with round:=r } n P Q a w:=by
 refine xc W hq (AF U) ?_;rw[<-kj];refine mB (S:=λ_=>S) (F:=z.size) (L:=z.size) _ _ _ ?_ _ hS;refine Iy (m:=z.size) V (aI _) (aI _) J (E:=λa=>∀w,S w->Q .normal a w) (λa h=> ?_) z.toList 0 a (by simp) (aI _) (λk hk=>by simp) (aK.toB _ _ h);rw[jH];exact⟨G,h⟩
section
variable {P:Program} {n:Nat} {r:Option Nat} {ops:Array Oper} {Q:Exit->Act->World->Prop} {rest:List Oper} {o:Oper} {a:Act} {w:World}
theorem o5 (V:Region.wanted o (yielded ops a.tmps)=true)(ty:TypeId)(x:Operand)(G:o.op= .load ty x)(z:Addr)(U:a.eval x= .pointer (some z))(v:Value)
  (J:(loadVar ty z).run P w= .ok v w) (h:wpListIn { Fence.wide with round:=r } n P ops Q rest (a.put o.dst v) w):wpListIn { Fence.wide with round:=r } n P ops Q (o::rest) a w:=by
 unfold wpListIn;rw[aC V];refine uU (λc e=>by rw[G] at e;cases e) ?_;unfold Oper.wp execOp;simp only[G,U,Instr.loadAt,Instr.sureAddr,cg,fO,cm,J];exact h
theorem jB (W:Region.wanted o (yielded ops a.tmps)=true)(ty:TypeId)(x y:Operand)(G:o.op= .store ty x y)(z:Addr)(V:a.eval x= .pointer (some z))(v:Value)(J:a.eval y=v)(w':World)
  (U:(storeVar ty z v).run P w= .ok () w') (h:wpListIn { Fence.wide with round:=r } n P ops Q rest (a.put o.dst undef) w'):wpListIn { Fence.wide with round:=r } n P ops Q (o::rest) a w:=by
 unfold wpListIn;rw[aC W];refine uU (λc e=>by rw[G] at e;cases e) ?_;unfold Oper.wp execOp;simp only[G,V,J,Instr.storeAt,Instr.sureAddr,cg,fO,cm,U];exact h
end
end Go.Proofs.YtepbpdipenedhaaGreatDoor
namespace Go.Proofs.YtepbpdipenedhaaGreatDoor
open Go.Proofs.Tryz
open Go.RowKit Go.Shelf
variable{A w z:World}{b gp k n:Nat}{P:Program}{Q:Exit->Act->World->Prop}{a:Act}{T:List (bP×Value)}{B:List Int}{ps:List (Int×Int)}{own:Nat->List Nat}
attribute [local go_sem] jO
structure GX where
 i:Nat
 n:bP
 v:Value
def U9 (x:GX):Array Value:= #[.int .i64 (x.i:Int),.agg (aR x.n x.v)]
def kZ (x:GX):Nat×bP:=(x.i,x.n)
theorem Jo (T:List (bP×Value)):∀k,(km T k).length<=k
 |0=>aI _
 |k+1=>by
  have :=Jo T k;unfold km;rw[aD];split<;>simp<;>omega
def RdG (T:List (bP×Value)) (l:Nat) (x:GX) (A:World):Prop:=
 x.i<32/\x.n=nT T x.i/\x.n.F≠0/\x.n.B.length=13/\∃g,l<g/\bC A x.v g x.n.E
theorem RdG.keep{l:Nat}{x:GX}(h:RdG T l x A){m:List Nat}(G:az m A z)(V:∀k∈m,k<=l):RdG T l x z:=by
 obtain⟨J,W,h3,h4,g,h5,h6⟩:=h;exact⟨J,W,h3,h4,g,h5,h6.keep G λ_ U=>by have :=V _ U;omega⟩
theorem Qr (b:Nat)(w:World):Calls prog 130 #[.pointer (some ⟨b,0,none⟩)] w λe w'=>
  e= .returned (.func (.func 162) #[] #[.pointer (some ⟨w.heap.size,0,none⟩)])/\w'=w.alloc (.cells #[.pointer (some ⟨b,0,none⟩)] 50):=by
 go_enter func130,ntmps130;go_wp2_with fail;go_ret;exact⟨rfl,rfl⟩
theorem abS (n l V b gp:Nat)(B:List Int)(ps:List (Int×Int))(T:List (bP×Value))(own:Nat->List Nat)(hn:1<=n)(C:List Nat)(hC:∀k∈C,k≠V/\k≠b/\k≠gp)(J Jx:List GX->World->Prop)
  (hJ:∀z A A',J z A->az [] A A'->J z A') (hl:l≠V/\l≠b/\l≠gp)
  (hY:∀z x A,J z A->z.length<32->RdG T l x A->YieldAt Fence.wide (n-1) prog l (U9 x) A λe A'=>
   (e= .returned (.bool true)/\J (z++[x]) A'/\az (l::C) A A')\/(e= .returned (.bool false)/\Jx (z++[x]) A'))
  (W:World) (aj:l<W.heap.size) (av:bh W V #[.pointer (some ⟨b,0,none⟩)] 50) (hs:gN W b gp B ps T own) (h0:J [] W):
  CallsIn Fence.wide n prog 162 #[.func (.yield l) #[] #[],.pointer (some ⟨V,0,none⟩)] W λe W'=>(∃v,e= .returned v)/\
   ((∃xs:List GX,xs.map kZ=km T 32/\J xs W')\/(∃z:List GX,(z≠[]/\∀x∈z,kZ x∈km T 32)/\Jx z W')):=by
 have ub:=eA;obtain⟨Z0,Cn⟩:∃Z0,aR cr (.slice none 0 0)=Z0:=⟨_,rfl⟩;have GA:Hid (Z0.size=18):=by show _=_;rw[<-Cn];rfl
 rw[Cn] at ub;clear Cn;have HC:=au hC;have EJ:=au hl;have ai:Hid (([]:List GX).map kZ=km T 0/\J [] W/\gN W b gp B ps T own/\bh W V #[.pointer (some ⟨b,0,none⟩)] 50/\l<W.heap.size):=⟨rfl,h0,hs,av,aj⟩;clear hC hl h0 hs av aj;refine callsIn_of_wp func162 rfl trivial ?_ rfl;simp only[ntmps162,bN,bQ,b8,Nat.reduceAdd,Nat.reduceSub,gj,gy,iF,gM,bY,ib]
 gi_wp2
 gi_loopw [7] (λi wr=>∃(k:Nat) (z:List GX),k<=32/\i= .int .i64 (k:Int)/\Hid (z.map kZ=km T k/\J z wr/\gN wr b gp B ps T own/\bh wr V #[.pointer (some ⟨b,0,none⟩)] 50/\l<wr.heap.size))
  (λi _=>32-(intOf i).toNat)
 case atStart=>exact⟨0,[],by omega,rfl,ai.out⟩
 case round=>
  clear ai;obtain⟨k,z,hk,rfl,G⟩:=hrel;by_cases aa:k<32
  ·have Bp:(k:Int)<32:=by omega
   have c0:wr.cell? ⟨V,0,none⟩=some (.pointer (some ⟨b,0,none⟩)):=by rw[G.out.2.2.2.1.cell];rfl
   have HG:=au (G.out.2.2.1.get aa)
   gi_wp2
   refine⟨trivial,callsIn_wide.2 (HG.out.mono ?_)⟩;rintro e w3 ⟨v,g,va,ga,r,rfl,hB,hE,hg,hO,tv,ag,hr⟩;obtain⟨w4,p1,p2,p3⟩:=dc (n:=nT T k) (v:=v) (bh.new w3 Z0 111) GA.out hB hE.one;have vB:=au p1;have U:az [] wr w4:=ag.trans' (((az.refl [] w3).alloc _).trans p3 (by intro x hx;rw[ay] at hx;omega));have pW:=au U;have aA:=au (ct p2 hB);have ac:=hJ _ _ _ G.out.2.1 U;have D7:Hid (gN w4 b gp B ps T own/\bh w4 V #[.pointer (some ⟨b,0,none⟩)] 50/\l<w4.heap.size):=⟨G.out.2.2.1.keep0 U,G.out.2.2.2.1.keep U (by simp),by have :=G.out.2.2.2.2;have :=U.size;omega⟩;have VE:bC w4 v g (nT T k).E:=hE.keep (((az.refl [w3.heap.size] w3).alloc (.cells Z0 111)).trans' p3) (λh0=>hE.apart (l:=[w3.heap.size]) (λx hx=>by rw[ay] at hx;omega) h0);have Wz:Hid ((nT T k).F≠0->km T (k+1)=km T k++[(k,nT T k)]):=λh=>by show km T k++_=_;rw[aB h]
   have af:Hid ((nT T k).F=0->km T (k+1)=km T k):=λh=>by show km T k++_=_;rw[aC h,bu]
   by_cases h0:r=0
   ·subst h0
    have hF:(nT T k).F≠0:=by
     rcases hr with ⟨-,h⟩|⟨h,-⟩|⟨h,-⟩
     ·exact h
     ·omega
     ·omega
    have ar:z.length<32:=by
     have h1:=cB List.length G.out.1;rw[bS] at h1;have h2:=Jo T k;omega
    obtain⟨fn,tmps,assign,body,hy,hR⟩:=hY z ⟨k,nT T k,v⟩ w4 ac ar ⟨aa,rfl,hF,hB,g,by have :=G.out.2.2.2.2;omega,VE⟩;have E0:Hid ((z++[(⟨k,nT T k,v⟩:GX)]).map kZ=km T (k+1)):=by
     show _=_;rw[Wz.out hF,eX,G.out.1];rfl
    have ae:Hid (∀A',az (l::C) w4 A'->gN A' b gp B ps T own/\bh A' V #[.pointer (some ⟨b,0,none⟩)] 50/\l<A'.heap.size):=λA' hk=>by
     have hc:=HC.out;have ah:=EJ.out;refine⟨D7.out.1.keep hk λq hq=> .inr ?_,D7.out.2.1.keep hk λhm=> ?_,bL D7.out.2.2 hk.size⟩
     ·rcases aP.1 hq with rfl|hq
      ·exact⟨ah.2.1,ah.2.2⟩
      ·exact⟨(hc q hq).2.1,(hc q hq).2.2⟩
     ·rcases aP.1 hm with e|hm
      ·exact ah.1 e.symm
      ·exact(hc V hm).1 rfl
    unfold U9 at hy
    dsimp only at hy
    clear hr hF ac VE D7 hE hB hg hO tv ag U p1 p2 p3 Wz af G c0 ar aa;generalize aR (nT T k) v=ZN at *
    gi_wp2_with (first|((with_reducible show wpListIn _ _ _ _ _ (⟨_,.store 111 (.tmp 4) (.tmp 14),_,_,_,_⟩::_) _ _);refine jB (r:=none) rfl 111 (.tmp 4) (.tmp 14) rfl _ rfl _ rfl _ vB.out ?_)|((with_reducible show wpListIn _ _ _ _ _ (⟨_,.load 111 (.tmp 4),_,_,_,_⟩::_) _ _);refine o5 (r:=none) rfl 111 (.tmp 4) rfl _ rfl _ aA.out ?_))
    refine hR.mono ?_;rintro e W5 (⟨rfl,ak,j6⟩|⟨rfl,ax⟩)
    ·have HF:Hid ((z++[(⟨k,nT T k,v⟩:GX)]).map kZ=km T (k+1)/\J (z++[⟨k,nT T k,v⟩]) W5/\gN W5 b gp B ps T own/\bh W5 V #[.pointer (some ⟨b,0,none⟩)] 50/\l<W5.heap.size):=⟨E0.out,ak,ae.out _ j6⟩
     clear ak j6 E0 ae
     gi_wp2
     go_roundw
     case rel=>exact⟨k+1,_,by omega,by go_num,HF.out⟩
     case measure=>simp[intOf];omega
    ·have HF:Hid ((z++[(⟨k,nT T k,v⟩:GX)])≠[]/\∀x∈z++[(⟨k,nT T k,v⟩:GX)],kZ x∈km T 32):=by
      refine⟨by simp,λx hx=> ?_⟩;have h1:kZ x∈(z++[(⟨k,nT T k,v⟩:GX)]).map kZ:=bH.2 ⟨x,hx,rfl⟩;rw[E0.out] at h1;obtain⟨a1,a2,a3⟩:=oa.1 h1;exact oa.2 ⟨by omega,a2,a3⟩
     clear E0 ae
     gi_wp2
     refine aL (results_none rfl _ _ _) rfl ?_;exact⟨⟨_,rfl⟩,.inr ⟨_,HF.out,ax⟩⟩
   ·have b0:(r==0)=false:=by simpa using h0
    have hF:(nT T k).F=0:=by
     rcases hr with ⟨h,-⟩|⟨-,h,-⟩|⟨-,h,-⟩
     ·exact absurd h h0
     ·exact h
     ·exact h
    have HF:Hid (z.map kZ=km T (k+1)/\J z w4/\gN w4 b gp B ps T own/\bh w4 V #[.pointer (some ⟨b,0,none⟩)] 50/\l<w4.heap.size):=⟨by rw[af.out hF];exact G.out.1,ac,D7.out⟩;clear hr hF ac VE D7 hE hB hg hO tv ag U p1 p2 p3 h0 Wz af G c0;generalize aR (nT T k) v=ZN at *
    gi_wp2_with ((with_reducible show wpListIn _ _ _ _ _ (⟨_,.store 111 (.tmp 4) (.tmp 14),_,_,_,_⟩::_) _ _);refine jB (r:=none) rfl 111 (.tmp 4) (.tmp 14) rfl _ rfl _ rfl _ vB.out ?_)
    refine⟨λ_ h=>(by cases h),?_⟩
    gi_wp2
    go_roundw
    case rel=>exact⟨k+1,_,by omega,by go_num,HF.out⟩
    case measure=>simp[intOf];omega
  ·obtain rfl:k=32:=by omega
   have HF:=au (And.intro G.out.1 G.out.2.1);clear G aa hk
   gi_wp2
   go_end0;exact⟨⟨_,rfl⟩,.inl ⟨z,HF.out.1,HF.out.2⟩⟩
theorem CG (hn:1<=n){w:World}{G b V:Nat}{B:List Int}{ps:List (Int×Int)}{T:List (bP×Value)}{own:Nat->List Nat}(hs:gN w b V B ps T own)(z:bh w G #[.pointer (some ⟨b,0,none⟩)] 50){C:List Nat}(hC:∀k∈C,k≠G/\k≠b/\k≠V):
  acn n prog 162 #[.pointer (some ⟨G,0,none⟩)] U9 (RdG T) (λxs=>xs.map kZ=km T 32) (λh=>h≠[]/\∀x∈h,kZ x∈km T 32) 32 C w:=by
 intro l J Jx W hk hl U hJ _ hY h0;have h1:=z.lt;have h2:=hs.lt;exact abS n l G b V B ps T own hn C hC J Jx hJ ⟨by omega,by omega,by omega⟩ hY W U (z.keep hk (by simp)) (hs.keep0 hk) h0
end Go.Proofs.YtepbpdipenedhaaGreatDoor
namespace Go.Proofs.YtepbpdipenedhaaGreatDoor
open Go.Proofs.Tryz
open Go.RowKit
variable{A w z:World}{b gp k n:Nat}{P:Program}{Q:Exit->Act->World->Prop}{a:Act}{T:List (bP×Value)}{B:List Int}{ps:List (Int×Int)}{own:Nat->List Nat}
theorem Va (G:k<32){b:Int}:b∈pd T (k:Int)↔∃j,j<(nT T k).E.length/\jl (nT T k).E j=b:=by
 unfold pd;rw[aC (by omega),aH];constructor
 ·intro h
  obtain⟨j,z,e⟩:=cj h;rw[bS] at z;rw[ig] at e;exact⟨j,z,by rw[<-e];simp[jl,z]⟩
 ·rintro⟨j,z,e⟩
  refine bH.2 ⟨(nT T k).E[j],bA z,?_⟩;rw[<-e];simp[jl,z]
end Go.Proofs.YtepbpdipenedhaaGreatDoor
namespace Go.Proofs.YtepbpdipenedhaaGreatDoor
open Go.Proofs.Tryz
open Go.RowKit Go.Shelf
variable{A w z:World}{b gp k n:Nat}{P:Program}{Q:Exit->Act->World->Prop}{a:Act}{T:List (bP×Value)}{B:List Int}{ps:List (Int×Int)}{own:Nat->List Nat}
attribute [local go_sem] jO
theorem bh.low{c:Array Value}{T:Nat}(h:bh A k c T)(J:Below n A z)(G:k<n):bh z k c T:=(J.block k G).trans h
theorem az.below_trans{l:List Nat}{G:World}(h:az l w A)(z:Below n A G)(V:w.heap.size<=n):az l w G:=
 ⟨z.os.trans h.os,z.tape.trans h.tape,z.output.trans h.output,cD h.size z.size,λk J U=>(z.block k (by omega)).trans (h.block k J U)⟩
theorem Gv (h:gN w b gp B ps T own):
  Calls prog 128 #[.pointer (some ⟨b,0,none⟩)] w λe w'=>e= .returned (.agg (dE (dI 32 (lf T))).toArray)/\az [] w w':=by
 have bw:=MQ;have ub:=eA;obtain⟨Z0,Cn⟩:∃Z0,aR cr (.slice none 0 0)=Z0:=⟨_,rfl⟩;have GA:Hid (Z0.size=18):=by show _=_;rw[<-Cn];rfl
 rw[Cn] at ub;clear Cn;have HS:=au h;clear h;generalize aU:(dE (dI 32 λ_=>0)).toArray=ZC at *;have aA:=au aU;clear aU;refine(callsIn_wide (n:=5)).1 (callsIn_of_wp_marks func128 rfl trivial (wpIn_wide.2 ?_) rfl);simp only[ntmps128,bN,bQ,b8,Nat.reduceAdd,Nat.reduceSub,gj,gy,iF,gM,bY,ib];go_wp2_with fail;refine(Qr b _).mono ?_;rintro e w2 ⟨rfl,U⟩;go_wp2_with fail;rw[<-U];have aK:w2.heap.size=w.heap.size+3:=by rw[U];simp
 have KX:bh w2 (w.heap.size+1) ZC 182 :=by
  have :=(bh.new (w.alloc (.cells ZC 182)) ZC 182).alloc (.cells #[.pointer (some ⟨b,0,none⟩)] 50);rw[br] at this;rw[U];exact this
 have mq:bh w2 w.heap.size ZC 182 :=by
  rw[U];exact((bh.new w ZC 182).alloc _).alloc _
 have uM:bh w2 (w.heap.size+1+1) #[.pointer (some ⟨b,0,none⟩)] 50 :=by
  have :=bh.new ((w.alloc (.cells ZC 182)).alloc (.cells ZC 182)) #[.pointer (some ⟨b,0,none⟩)] 50;rw[br,br] at this;rw[U];exact this
 have aa:az [] w w2:=by
  rw[U];exact(((az.refl [] w).alloc _).alloc _).alloc _
 have aQ:=HS.out.keep0 aa;have aM:=HS.out.lt;have vU:=CG (n:=5-1) (by omega) aQ uM (C:=[w.heap.size+1]) (λk J=>by rw[ay] at J;subst J;omega);have ag:=HS.out.gots.elen;have ar:=HS.out.gots.tabS;have ah:=HS.out.gots.tabN;clear U aQ uM;refine(wpIn_wide (n:=5)).1 ?_;refine sw (by omega) (gf:= 162) (lb:= #[.pointer (some ⟨w.heap.size+1+1,0,none⟩)]) rfl (enters_of func162 (by kernel_rfl) rfl) vU (λk J=>by rw[ay] at J;subst J;omega) (λ_=>rfl)
  (λG A=>az [] w A/\bh A (w.heap.size+1) (dE (dI 32 λq=>wF (G.map kZ) q)).toArray 182/\bh A w.heap.size ZC 182/\∀q,wF (G.map kZ) q<=24*G.length)
  (λ_ _ _=>False)
  (λG A A' h hb=>⟨h.1.below_trans hb (by omega),h.2.1.low hb (by omega),h.2.2.1.low hb (by omega),h.2.2.2⟩)
  (λ_ _ _ _ h _=>h)
  ⟨aa,by have :=KX;rw[<-aA.out] at this;exact this,mq,λq=>fC _⟩
  (λl x A A' h J=>h.keep J λk J=>by rw[ay] at J;omega)
  (λx a' W=>∃g5,bh W g5 (aR x.n x.v) 111/\w2.heap.size<=g5/\a'={ tmps:= #[.pointer (some ⟨b,0,none⟩),undef,.pointer (some ⟨w.heap.size,0,none⟩),.pointer (some ⟨w.heap.size+1,0,none⟩),undef,.pointer (some ⟨g5,0,none⟩),undef,undef,.pointer (some ⟨b,0,none⟩),.func (.func 162) #[] #[.pointer (some ⟨w.heap.size+1+1,0,none⟩)],.int .i64 (x.i:Int),.agg (aR x.n x.v),undef,undef,undef,undef,undef,undef,undef,undef,undef,undef,undef,undef,undef,undef,undef],defers:=[] })
  (λl x a' A A' _ hr h J=>by
   obtain⟨g5,h1,h2,h3⟩:=h;obtain⟨r,hr⟩:=hr;refine⟨g5,h1.keep J λhm=> ?_,h2,h3⟩;rw[ay] at hm;subst hm;rw[h1] at hr;cases hr)
  ?assign (λl x A A' h J=>h.keep J (by simp)) ?body ?done ?stop
 case stop=>
  rintro D c G W _ _ h _;exact h.elim
 case assign=>
  rintro l x W K ⟨h1,h2,h3,h4,g,h5,h6⟩ bn hK;obtain⟨w4,p1,p2,p3⟩:=dc (n:=x.n) (v:=x.v) (bh.new W Z0 111) GA.out h4 h6.one;have vB:=au p1;have aP:az [] W w4:=((az.refl [] W).alloc _).trans p3 (by intro x hx;rw[ay] at hx;omega);have HF:=au (hK _ w4 aP ⟨W.heap.size,p2,by omega,rfl⟩);clear p1 p2 p3 aP hK h1 h2 h3 h4 h5 h6;unfold U9;generalize aR x.n x.v=ZN at *
  gi_wp2_with ((with_reducible show wpListIn _ _ _ _ _ (⟨_,.store 111 (.tmp 5) (.tmp 11),_,_,_,_⟩::_) _ _);refine jB (r:=some l) rfl 111 (.tmp 5) (.tmp 11) rfl _ rfl _ rfl _ vB.out ?_)
  exact HF.out
 case body=>
  rintro l G x a' W hl bp ⟨ou,K4,zT,ax⟩ hN ⟨aG,af,ba,bl,g,hg,hE⟩ ⟨g5,rI,aZ,rfl⟩;have aY:x.n.E.length<=24:=by rw[af];exact ag x.i
  have PR:Hid (∀j,j<x.n.E.length->0<=jl x.n.E j/\jl x.n.E j<32):=λj hj=>by
   have hm:=ah (x.i:Int) (jl x.n.E j) ((Va aG).2 ⟨j,by rw[<-af];exact hj,by rw[af]⟩);exact hm
  have mI:Hid (∀V,az [w.heap.size+1] W V->bh V (w.heap.size+1) (dE (dI 32 λq=>wF (G.map kZ) q+yC x.n.E x.n.E.length q)).toArray 182->uH [w.heap.size+1] (λG A=>az [] w A/\bh A (w.heap.size+1) (dE (dI 32 λq=>wF (G.map kZ) q)).toArray 182/\bh A w.heap.size ZC 182/\∀q,wF (G.map kZ) q<=24*G.length) (λ_ _ _=>False) (G++[x]) W .normal { tmps:= #[],defers:=[] } V):=λV J hb=>by
   have e:∀q,wF ((G++[x]).map kZ) q=wF (G.map kZ) q+yC x.n.E x.n.E.length q:=λq=>by
    rw[eX,Dj];rfl
   refine⟨J,ou.trans J (by intro y hy;rw[ay] at hy;omega),?_,zT.keep J (by simp),λq=> ?_⟩
   ·rw[rW λq _=>e q]
    exact hb
   ·have h1:=ax q
    have h2:=Ru x.n.E x.n.E.length q;rw[e,aD,jM];omega
  obtain⟨an,cn,hv,bq,W4,ak⟩:=hE.open;have aV:W.cell? ⟨g5,17,none⟩=some (.slice an x.n.E.length cn):=by rw[rI.cell,<-hv];exact(iX _ bl).f5
  have ac:=au ak;have aF:Hid (az [w.heap.size+1] W W/\bh W (w.heap.size+1) (dE (dI 32 λq=>wF (G.map kZ) q+yC x.n.E 0 q)).toArray 182):=⟨az.refl _ _,by
   rw[rW (f':=λq=>wF (G.map kZ) q) λq _=>by rw[Ua,dR]];exact K4⟩
  have aH:=au ax;have bt:Hid (g<W.heap.size\/x.n.E.length=0):=by
   by_cases h0:x.n.E.length=0
   ·exact .inr h0
   ·exact .inl (ak 0 (by omega)).1
  have bj:Hid (l<g/\w.heap.size+2<l):=⟨hg,by omega⟩;have bo:=Di;have aN:Hid (G.length<32):=hN;clear ou K4 zT ax hN hE hv ak aG af ba hg ag ar ah rI aZ KX mq aa aK aM HS;generalize aR x.n x.v=ZN at *;generalize wF (G.map kZ)=fP at *;obtain⟨mE,av⟩:∃mE,x.n.E.length=mE:=⟨_,rfl⟩;have bb:=au av;rw[av] at aV ac PR mI aY;clear av;generalize x.n.E=E at *
  gi_wp2
  gi_loopw [15] (λi wr=>∃j:Nat,j<=mE/\i= .int .i64 (j:Int)/\Hid (az [w.heap.size+1] W wr/\bh wr (w.heap.size+1) (dE (dI 32 λq=>fP q+yC E j q)).toArray 182))
   (λi _=>mE-(intOf i).toNat)
  case atStart=>exact⟨0,by omega,rfl,aF.out⟩
  case round=>
   clear aF aV;obtain⟨j,hj,rfl,HI⟩:=hrel;by_cases ae:j<mE
   ·have OL:(j:Int)<(mE:Int):=by omega
    have BI:(0:Int)<=(j:Int):=by omega
    obtain⟨bk,off,rfl,d1,d2⟩:=ac.out j ae;have aj:=HI.out.1.block g bk (by rw[ay];have :=bj.out;omega);have bf:Hid ((loadVar 87 ⟨g,off+j*2,none⟩).run prog wr= .ok (.agg #[.string (eU E j),.int .i64 (jl E j)]) wr):=
     zK ((aO (w:=W) (a:=⟨g,off+j*2,none⟩) aj).trans d1) ((aO (w:=W) (a:=⟨g,off+j*2+1,none⟩) aj).trans d2)
    obtain⟨aX,bv⟩:=PR.out j ae;have aS:=λq=>Ub (E:=E) (j:=j) (by rw[bb.out];exact ae) q
    have aI:=λq=>Ru E j q
    generalize jl E j=yi at *;obtain⟨y,rfl⟩:=cu aX;have bc:y<32:=by omega
    obtain⟨w6,p1,p2,p3⟩:=A7 (eU E j) (y:Int) (bh.new wr #[.string ⟨#[]⟩,.int .i64 0] 87) rfl;have kG:az [] wr w6:=((az.refl [] wr).alloc _).trans p3 (by intro x hx;rw[ay] at hx;omega);have c1:w6.cell? ⟨wr.heap.size,1,none⟩=some (.int .i64 (y:Int)):=by rw[p2.cell];rfl
    have yP:=HI.out.2.keep kG (by simp);have c2:=Kp yP (j:=y) bc;obtain⟨z,hz⟩:∃z,fP y+yC E j y=z:=⟨_,rfl⟩;rw[hz] at c2;have bu:z<=1000:=by have :=aH.out y;have :=aI y;have :=aN.out;omega
    have KV:Hid (∀x:Int,x=((z+1:Nat):Int)->bh (w6.setCell ⟨w.heap.size+1,y,none⟩ (.int .i64 x)) (w.heap.size+1) (dE (dI 32 λq=>fP q+yC E (j+1) q)).toArray 182):=λx hx=>MP yP y (λq hq=>by
     rw[aS q];by_cases e:q=y
     ·subst e;rw[aC rfl,aC rfl];omega
     ·rw[aB e,aB (by omega)];omega) (by rw[hx,hz])
    have f2:=yP.frozen y;have nD:Hid (az [w.heap.size+1] W w6):=HI.out.1.trans' (kG.mono (by simp));have DG:=au p1;have bz:(0:Int)<=(y:Int):=by omega
    clear HI aj d1 d2 aS aI hz p1 p2 p3 kG yP mI PR ac aH aN;generalize eU E j=sj at *
    gi_wp2_with (first|((with_reducible show wpListIn _ _ _ _ _ (⟨_,.load 87 (.tmp 17),_,_,_,_⟩::_) _ _);refine o5 (r:=some l) rfl 87 (.tmp 17) rfl _ rfl _ bf.out ?_)|((with_reducible show wpListIn _ _ _ _ _ (⟨_,.store 87 (.tmp 7) (.tmp 18),_,_,_,_⟩::_) _ _);refine jB (r:=some l) rfl 87 (.tmp 7) (.tmp 18) rfl _ rfl _ rfl _ DG.out ?_))
    go_roundw
    case rel=>exact⟨j+1,by omega,by go_num,nD.out.setCell (.inl (by simp)) _,KV.out _ (by go_num)⟩
    case measure=>simp[intOf];omega
   ·obtain rfl:j=mE:=by omega
    have HF:=au (mI.out _ HI.out.1 HI.out.2);clear HI mI PR ac hj ae
    gi_wp2
    exact HF.out
 case done=>
  rintro D xs W hD aJ ⟨ou,K4,zT,-⟩ IJ;rw[aJ,rW (λq _=>XQ ar 32 q)] at K4;have aT:Hid ((loadVar 182 ⟨w.heap.size+1,0,none⟩).run prog W= .ok (.agg (dE (dI 32 (lf T))).toArray) W):=MS K4;obtain⟨wS,p1,p2,p3⟩:=I9 (f':=lf T) (show bh W w.heap.size (dE (dI 32 λ_=>0)).toArray 182 by rw[aA.out];exact zT);have aL:=au p1;have YN:Hid (wS.heap[D]? =some (.deferred (some []))):=(p3.block D (Array.getElem?_eq_some_iff.1 IJ).1 (by rw[ay];omega)).trans IJ;have uN:Hid (∀V,az [D] wS V->(loadVar 182 ⟨w.heap.size,0,none⟩).run prog V= .ok (.agg (dE (dI 32 (lf T))).toArray) V/\az [] w V):=λV J=>⟨MS (p2.keep J (by rw[ay];omega)),(ou.trans p3 (by intro y hy;rw[ay] at hy;omega)).trans J (by intro y hy;rw[ay] at hy;omega)⟩
  clear ou K4 zT IJ aJ p1 p2 p3 KX mq aa aK aM HS aA ag ar ah;obtain⟨ZR,ai⟩:∃ZR,(dE (dI 32 (lf T))).toArray=ZR:=⟨_,rfl⟩;rw[ai] at aT aL uN;have bg:=au ai;clear ai;go_wp2_with(first|(with_reducible refine gL 182 aT.out ?_)|(with_reducible refine gS 182 aL.out ?_));refine lQ [D] wS (by simp) (λD' aW=>by rw[ay] at aW;subst aW;exact YN.out) λV J=> ?_
  obtain⟨h1,h2⟩:=uN.out V J;exact⟨_,b9 results128 rfl h1,by rw[<-bg.out],h2⟩
end Go.Proofs.YtepbpdipenedhaaGreatDoor
namespace Go.Proofs.YtepbpdipenedhaaGreatDoor
open Go.Proofs.Tryz
open Go.RowKit
variable{A w z:World}{b gp k n:Nat}{P:Program}{Q:Exit->Act->World->Prop}{a:Act}{T:List (bP×Value)}{B:List Int}{ps:List (Int×Int)}{own:Nat->List Nat}
theorem KG (h:eO w b gp B ps)(ae:In64 (aA B ps)){n:bP}(v:Value)(hB:n.B.length=13)(hR:bZ n)(hK:n.K=1):
  Calls prog 134 #[.pointer (some ⟨b,0,none⟩),.agg (aR n v)] w (dh w (jR (aA B ps) n)):=by
 have hS:0<=n.S/\n.S<=832:=by
  rcases hR.2.2 with h|h
  ·exact h.2.1
  ·omega
 have J:=tX hR hB;have HG:Hid (∀wx,az [] w wx->∀i:Nat,i<3128->Calls prog 127 #[.pointer (some ⟨b,0,none⟩),.int .i64 (i:Int)] wx λe w'=>e= .returned (.int .u64 (((aA B ps).getD i 0).toNat:Int))/\wx=w'):=λwx hk i hi=>by
  have :=oC (h.keep hk (by simp) (by simp)) (i:Int);rw[MO hi] at this;rwa[jr (ae i).1]
 have HP:Hid (∀(r:Bool) w',(r=true↔(n.S%64≠0->n.B.getD (n.S/64).toNat 0≠0->∀j:Nat,n.S%64<=(j:Int)->j<64->qR ((aA B ps).getD (1080+8*(n.B.getD (n.S/64).toNat 0).toNat+j/8) 0).toNat (j%8)=0))->az [] w w'->dh w (jR (aA B ps) n) (.returned (.bool r)) w'):=λr w' hr hk=>⟨r,rfl,hr.trans (Uc hB hR hK).symm,hk⟩
 have z:=bh.new w (aR n v) 111;have dt:=(az.refl [] w).alloc (.cells (aR n v) 111);generalize aA B ps=X at *;generalize jR X n=pT at *;obtain⟨s,hs⟩:=cu hS.1;have c3:(w.alloc (.cells (aR n v) 111)).cell? ⟨w.heap.size,3,none⟩=some (.int .i64 (s:Int)):=by rw[z.cell,<-hs];exact(iX v hB).f3
 have hm:(s:Int).tmod 64=((s%64:Nat):Int):=rfl;have hd:(s:Int).tdiv 64=((s/64:Nat):Int):=rfl;have aC:s<=832:=by omega
 have G:Hid (∀(r:Bool) w',(r=true↔(s%64≠0->n.B.getD (s/64) 0≠0->∀j:Nat,s%64<=j->j<64->qR (X.getD (1080+8*(n.B.getD (s/64) 0).toNat+j/8) 0).toNat (j%8)=0))->az [] w w'->dh w pT (.returned (.bool r)) w'):=λr w' hr hk=>HP.out r w' (hr.trans (by
  rw[hs,show((s:Int)/64).toNat=s/64 by omega];constructor
  ·intro h h0 z j hj
   exact h (by omega) z j (by omega)
  ·intro h h0 z j hj
   exact h (by omega) z j (by omega))) hk
 clear HP hs h ae hS;by_cases h0:s%64=0
 ·have HF:=au (G.out true _ ⟨λ_ h=>absurd h0 h,λ_=>rfl⟩ dt)
  rw[h0] at hm;clear G HG z dt J h0;generalize aR n v=Z at *;go_enter func134,ntmps134;go_wp2_with fail;go_ret;exact HF.out
 ·have hq:s/64<13:=by omega
  have c4:(w.alloc (.cells (aR n v) 111)).cell? ⟨w.heap.size,4+s/64,none⟩=some (.int .i64 (n.B.getD (s/64) 0)):=by rw[z.cell];exact(iX v hB).f4 _ hq
  have hy:=J (s/64);have UM:Hid (s%64≠0):=h0;have wD:s%64<64:=iw _ (by omega);have fW:=au dt;generalize n.B.getD (s/64) 0=y at *;obtain⟨q,af⟩:∃q,s/64=q:=⟨_,rfl⟩;rw[af] at c4 hd hq;have aQ:(q:Int)<13:=by omega
  have aK:(0:Int)<=(q:Int):=by omega
  have Ki:((s%64:Nat):Int)≠0:=by omega
  obtain⟨r,aj⟩:∃r,s%64=r:=⟨_,rfl⟩;rw[aj] at hm wD UM G Ki;have aL:((r:Int)==0)=false:=by simpa using Ki
  clear z dt J h0 af aj aC Ki;generalize aR n v=Z at *;by_cases U:y=0
  ·subst U
   have HF:=au (G.out true _ ⟨λ_ _ h=>absurd rfl h,λ_=>rfl⟩ fW.out);clear G HG hy;go_enter func134,ntmps134;go_wp2_with fail;go_ret;exact HF.out
  ·obtain⟨V,rfl⟩:=cu hy.1
   rw[aH] at G;have aF:(((V:Nat):Int)==0)=false:=by simpa using U
   have aO:V<256:=by omega
   have ax:Hid (((V:Nat):Int)≠0):=U;have D8:=au (λw=>jU (V:Int) w);rw[show iL (V:Int)=((1080+8*V:Nat):Int) by unfold iL;rw[aB (by omega)];omega] at D8;have HQ:Hid (∀k:Nat,k<64->1080+8*V+k/8<3128):=λk hk=>by omega
   clear hy U;generalize 1080+8*V=Q at *;go_enter func134,ntmps134;go_wp2_with fail;go_loopg [7] (64-r) (λgh s7 wx=>∃k:Nat,k+gh=64/\s7= .int .i64 (k:Int)/\Hid (az [] w wx/\r<=k/\∀j,r<=j->j<k->qR (X.getD (Q+j/8) 0).toNat (j%8)=0))
   case atStart=>exact⟨r,by omega,rfl,fW.out,aI _,λj h1 h2=>by omega⟩
   case round=>
    clear c3 c4 hm hd;obtain⟨k,hk,rfl,W⟩:=hrel;cases gk with
    |zero=>
     obtain rfl:k=64:=by omega
     have HF:=au (G.out true _ ⟨λ_ _ _=>W.out.2.2,λ_=>rfl⟩ W.out.1);clear W G HG D8 HQ;go_wp2_with fail;go_ret;exact HF.out
    |succ gg=>
     have ai:k<64:=by omega
     have Bp:(k:Int)<64:=by omega
     have hp:=HQ.out k ai;obtain⟨p,YO⟩:∃p,Q+k/8=p:=⟨_,rfl⟩;have mI:Hid (qR (X.getD p 0).toNat (k%8)=0->r<=k+1/\∀j,r<=j->j<k+1->qR (X.getD (Q+j/8) 0).toNat (j%8)=0):=λz=>⟨by have :=W.out.2.1;omega,λj h1 h2=>by
      by_cases e:j=k
      ·rw[e,YO];exact z
      ·exact W.out.2.2 j h1 (by omega)⟩
     have jC:Hid (qR (X.getD p 0).toNat (k%8)≠0->¬(r≠0->((V:Nat):Int)≠0->∀j:Nat,r<=j->j<64->qR (X.getD (Q+j/8) 0).toNat (j%8)=0)):=λz hh=>z (by
      have :=hh UM.out ax.out k W.out.2.1 ai;rwa[YO] at this)
     have aa:=au W.out.1;rw[YO] at hp;have aM:(Q:Int)+((k/8:Nat):Int)=(p:Int):=by rw[<-YO];omega
     have aP:(k:Int).tmod 8=((k%8:Nat):Int):=rfl;have EY:(k:Int).tdiv 8=((k/8:Nat):Int):=rfl;have av:k%8<8:=iw _ (by omega);have aJ:((k%8:Nat):Int)<8:=by omega
     have BI:(0:Int)<=((k%8:Nat):Int):=by omega
     have aG:IntKind.i64.wrap (p:Int)=(p:Int):=eW _ (by omega);have aD:wrap64 (p:Int)=(p:Int):=by unfold wrap64;omega
     clear W HQ YO;generalize k/8=d8 at *;generalize k%8=j8 at *;have ar:=au (D8.out wr);go_wp2_with fail;refine ar.out.mono ?_;rintro e w1 ⟨rfl,rfl⟩;have ak:=au (HG.out wr aa.out p hp);have ah:=au (Am (X.getD p 0).toNat wr);clear D8 ar HG;generalize (X.getD p 0).toNat=WD at *;go_wp2_with fail;refine ak.out.mono ?_;rintro e w1 ⟨rfl,rfl⟩;clear ak;go_wp2_with fail;refine ah.out.mono ?_;rintro e w2 ⟨rfl,ag⟩;obtain⟨w3,p1,p2,p3⟩:=xd (tI 0 0) (lj WD) (bh.new w2 (od (oI 0 0)).toArray 203);have c8:w3.cell? ⟨w2.heap.size,j8,none⟩=some (.int .u8 ((qR WD j8:Nat):Int)):=by
      rw[p2.cell,<-tB WD j8 av];simpa using Al (l:=kS WD) (j:=j8) (by rw[lj];omega)
     have xX:=au p1;rw[<-zm 0] at xX;have mV:Hid (az [] w w3):=(aa.out.trans' ag).trans' (((az.refl [] w2).alloc _).trans p3 (by intro x hx;rw[ay] at hx;omega));have aN:=Br WD j8;clear ah ag p1 p2 p3 aa;generalize (od (kS WD)).toArray=ZB at *;generalize qR WD j8=bv at *;by_cases ac:bv=0
     ·subst ac
      have HN:=au (mI.out rfl);clear mI jC G;go_wp2_with(with_reducible refine gS 203 xX.out ?_);go_roundg gg;case measure=>omega
      case rel=>exact⟨k+1,by omega,by go_num,mV.out,HN.out⟩
     ·have CX:(((bv:Nat):Int) != 0)=true:=bne_iff_ne.2 (by omega)
      have HF:=au (G.out false _ ⟨(λh=>by cases h),λhh=>absurd hh (jC.out ac)⟩ mV.out);clear mI jC G ac;go_wp2_with(with_reducible refine gS 203 xX.out ?_);go_ret;exact HF.out
end Go.Proofs.YtepbpdipenedhaaGreatDoor
namespace Go.Proofs.YtepbpdipenedhaaGreatDoor
open Go.Proofs.Tryz
open Go.RowKit Go.Shelf
variable{A w z:World}{b gp k n:Nat}{P:Program}{Q:Exit->Act->World->Prop}{a:Act}{T:List (bP×Value)}{B:List Int}{ps:List (Int×Int)}{own:Nat->List Nat}
attribute [local go_sem] jO
theorem Vb{X:List Int}(h:qJ X T own){xs:List GX}(z:xs.map kZ=km T 32):(∀x∈xs,rU x.i x.n (lf T x.i))↔xC T:=by
 constructor
 ·intro W i hi
  rcases h.form i with ⟨J,-,-⟩|⟨-,V,-⟩
  ·have G:(i,nT T i)∈km T 32:=oa.2 ⟨hi,rfl,J⟩
   rw[<-z] at G;obtain⟨x,U,e⟩:=bH.1 G;have :=W x U
   injection e with e1 e2
   rwa[e1,e2] at this
  ·rw[V]
   exact⟨(λh=>by cases h),(λh=>by cases h)⟩
 ·intro W x U
  have G:kZ x∈km T 32:=by rw[<-z];exact bH.2 ⟨x,U,rfl⟩
  obtain⟨J,V,-⟩:=oa.1 G;have :=W x.i J;rwa[<-show x.n=nT T x.i from V] at this
theorem DX (h:gN w b gp B ps T own):
  Calls prog 84 #[.pointer (some ⟨b,0,none⟩)] w (dh w (xC T)):=by
 have bu:=MQ;have ub:=eA;obtain⟨Z0,Cn⟩:∃Z0,aR cr (.slice none 0 0)=Z0:=⟨_,rfl⟩;have GA:Hid (Z0.size=18):=by show _=_;rw[<-Cn];rfl
 rw[Cn] at ub;clear Cn;have HS:=au h;clear h;generalize aS:(dE (dI 32 λ_=>0)).toArray=ZC at *;have ba:=au aS;clear aS;have PR:Hid (∀z,az [] w z->Calls prog 128 #[.pointer (some ⟨b,0,none⟩)] z λe w'=>e= .returned (.agg (dE (dI 32 (lf T))).toArray)/\az [] z w'):=λz G=>Gv (HS.out.keep0 G)
 have ax:=(az.refl [] w).alloc (.cells #[.bool false] 4);have aA:=au (PR.out _ ax);have iU:=au ax;have KW:=au (bh.new w #[.bool false] 4);clear PR ax;obtain⟨ZR,aB⟩:∃ZR,(dE (dI 32 (lf T))).toArray=ZR:=⟨_,rfl⟩;rw[aB] at aA;have aX:=au aB;clear aB;refine(callsIn_wide (n:=5)).1 (callsIn_of_wp_marks func84 rfl trivial (wpIn_wide.2 ?_) rfl);simp only[ntmps84,bN,bQ,b8,Nat.reduceAdd,Nat.reduceSub,gj,gy,iF,gM,bY,ib];go_wp2_with fail;refine aA.out.mono ?_;rintro e w2 ⟨rfl,ac⟩;obtain⟨w3,p1,p2,p3⟩:=I9 (f':=lf T) (show bh (w2.alloc (.cells ZC 182)) w2.heap.size (dE (dI 32 λ_=>0)).toArray 182 by rw[ba.out];exact bh.new w2 _ _);rw[aX.out] at p1;have xX:=au p1;have rb:=au p2;have mH:az [] w2 w3:=((az.refl [] w2).alloc _).trans p3 (by intro x U;rw[ay] at U;omega);have ak:=au (KW.out.keep (ac.trans' mH) (by simp));have mV:=au (iU.out.trans' (ac.trans' mH));clear p1 p2 p3 mH ac aA KW iU;have bf:=rb.out.lt;go_wp2_with(with_reducible refine gS 182 xX.out ?_);generalize w2.heap.size=cb at *;refine(Qr b _).mono ?_;rintro e w4 ⟨rfl,af⟩;go_wp2_with fail;rw[<-af];have bl:w4.heap.size=w3.heap.size+1:=by rw[af];simp
 have AW:az [] w3 w4:=by rw[af];exact(az.refl [] w3).alloc _
 have KX:bh w4 cb (dE (dI 32 (lf T))).toArray 182 :=rb.out.keep AW (by simp);have mq:bh w4 w.heap.size #[.bool false] 4 :=ak.out.keep AW (by simp);have uM:bh w4 w3.heap.size #[.pointer (some ⟨b,0,none⟩)] 50 :=by rw[af];exact bh.new w3 _ _
 have ae:az [] w w4:=mV.out.trans' AW;have aO:=HS.out.keep0 ae;have bn:=HS.out.lt;have bt:=mV.out.size;have bq:w.heap.size≠cb:=λe=>by
  have V:w3.heap[cb]? =some (.cells #[.bool false] 4 (0,0)):=by rw[<-e];exact ak.out
  have h3:=Option.some.inj (V.symm.trans rb.out)
  injection h3 with q1 q2
  exact absurd q2 (by decide)
 have vU:=CG (n:=5-1) (by omega) aO uM (C:=[w.heap.size]) (λk G=>by rw[ay] at G;subst G;have :=ak.out.lt;omega);have aD:∀xs:List GX,xs.map kZ=km T 32->((∀x∈xs,rU x.i x.n (lf T x.i))↔xC T):=λxs h=>Vb HS.out.gots h
 have aG:∀i,(nT T i).F≠0->(nT T i).K=1\/(nT T i).K=2:=λi hi=>by
  rcases HS.out.gots.form i with ⟨-,-,V⟩|⟨V,-⟩
  ·exact V.right.2.2.imp (·.1) (·.1)
  ·exact absurd V hi
 have bj:=ak.out.lt;clear af aO uM rb ak mV xX;refine(wpIn_wide (n:=5)).1 ?_;refine sw (by omega) (gf:= 162) (lb:= #[.pointer (some ⟨w3.heap.size,0,none⟩)]) rfl (enters_of func162 (by kernel_rfl) rfl) vU (λk G=>by rw[ay] at G;subst G;omega) (λ_=>rfl)
  (λJ A=>az [] w A/\bh A cb (dE (dI 32 (lf T))).toArray 182/\bh A w.heap.size #[.bool false] 4/\∀x∈J,rU x.i x.n (lf T x.i))
  (λc J A=>c= .ret/\az [] w A/\bh A w.heap.size #[.bool false] 4/\∃x∈J,¬rU x.i x.n (lf T x.i))
  (λJ A A' h hb=>⟨h.1.below_trans hb (by omega),h.2.1.low hb (by omega),h.2.2.1.low hb (by omega),h.2.2.2⟩)
  (λc J A A' h hb=>⟨h.1,h.2.1.below_trans hb (by omega),h.2.2.1.low hb (by omega),h.2.2.2⟩)
  ⟨ae,KX,mq,λx U=>by cases U⟩
  (λl x A A' h G=>h.keep G λk G=>by rw[ay] at G;omega)
  (λx a' W=>∃g5,bh W g5 (aR x.n x.v) 111/\w4.heap.size<=g5/\a'={ tmps:= #[.pointer (some ⟨b,0,none⟩),undef,.pointer (some ⟨w.heap.size,0,none⟩),.pointer (some ⟨cb,0,none⟩),.int .i64 (x.i:Int),.pointer (some ⟨g5,0,none⟩),.pointer (some ⟨b,0,none⟩),.agg ZR,.pointer (some ⟨b,0,none⟩),.func (.func 162) #[] #[.pointer (some ⟨w3.heap.size,0,none⟩)],.int .i64 (x.i:Int),.agg (aR x.n x.v),undef,undef,undef,undef,undef,undef,undef],defers:=[] })
  (λl x a' A A' _ hr h G=>by
   obtain⟨g5,V,h2,h3⟩:=h;obtain⟨r,hr⟩:=hr;refine⟨g5,V.keep G λhm=> ?_,h2,h3⟩;rw[ay] at hm;subst hm;rw[V] at hr;cases hr)
  ?assign (λl x A A' h G=>h.keep G (by simp)) ?body ?done ?stop
 case assign=>
  rintro l x W K ⟨V,h2,h3,h4,g,h5,h6⟩ bb hK;obtain⟨w5,p1,p2,p3⟩:=dc (n:=x.n) (v:=x.v) (bh.new W Z0 111) GA.out h4 h6.one;have zz:=au p1;have j6:az [] W w5:=((az.refl [] W).alloc _).trans p3 (by intro x U;rw[ay] at U;omega);have HF:=au (hK _ w5 j6 ⟨W.heap.size,p2,by omega,rfl⟩);clear p1 p2 p3 j6 hK V h2 h3 h4 h5 h6;unfold U9;generalize aR x.n x.v=ZN at *
  gi_wp2_with ((with_reducible show wpListIn _ _ _ _ _ (⟨_,.store 111 (.tmp 5) (.tmp 11),_,_,_,_⟩::_) _ _);refine jB (r:=some l) rfl 111 (.tmp 5) (.tmp 11) rfl _ rfl _ rfl _ zz.out ?_)
  exact HF.out
 case body=>
  rintro l J x a' W hl bk ⟨ou,K4,zT,aa⟩ hN ⟨aW,aF,aM,aT,g,hg,hE⟩ ⟨g5,rI,bg,rfl⟩;have aH:=aG x.i (by rw[<-aF];exact aM);rw[<-aF] at aH;have bp:g5≠w.heap.size:=by have :=ae.size;omega
  obtain⟨pb,ar⟩:∃pb:Bool,(pb=true↔rU x.i x.n (lf T x.i)):=by
   by_cases hp:rU x.i x.n (lf T x.i)
   ·exact⟨true,λ_=>hp,λ_=>rfl⟩
   ·exact⟨false,(λh=>by cases h),λh=>absurd h hp⟩
  have aP:Hid (∀z,Calls prog 131 #[.int .i64 (x.i:Int),.agg (aR x.n x.v),.int .i64 (lf T x.i:Int)] z λe w'=>e= .returned (.bool pb)/\az [] z w'):=λz=>(Ud x.v aT aH x.i (lf T x.i) z).mono λe w' ⟨r,V,h2,h3⟩=>⟨by rw[V,Bool.eq_iff_iff.2 (h2.trans ar.symm)],h3⟩
  have vY:Hid (∀z,az [] W z->(loadVar 111 ⟨g5,0,none⟩).run prog z= .ok (.agg (aR x.n x.v)) z):=λz G=>ct (rI.keep G (by simp)) aT
  have PC:Hid (∀z,az [] W z->z.cell? ⟨cb,x.i,none⟩=some (.int .i64 (lf T x.i:Int))):=λz G=>Kp (K4.keep G (by simp)) aW
  have jK:(x.i:Int)<32:=by omega
  have bo:(0:Int)<=(x.i:Int):=by omega
  have Dy:Hid (∀z,az [] W z->z.cell? ⟨w.heap.size,0,none⟩=some (.bool false)/\z.frozen? ⟨w.heap.size,0,none⟩=false):=λz G=>by
   have hb:=zT.keep G (by simp);exact⟨by rw[hb.cell];rfl,hb.frozen 0⟩
  have mI:Hid (pb=true->∀z,az [] W z->uH [w.heap.size] (λJ A=>az [] w A/\bh A cb (dE (dI 32 (lf T))).toArray 182/\bh A w.heap.size #[.bool false] 4/\∀x∈J,rU x.i x.n (lf T x.i)) (λc J A=>c= .ret/\az [] w A/\bh A w.heap.size #[.bool false] 4/\∃x∈J,¬rU x.i x.n (lf T x.i)) (J++[x]) W .normal { tmps:= #[],defers:=[] } z):=λhp z G=>
   ⟨G.mono (by simp),ou.trans' G,K4.keep G (by simp),zT.keep G (by simp),λy hy=>by
    rcases aU.1 hy with hy|hy
    ·exact aa y hy
    ·rw[ay] at hy
     subst hy;exact ar.1 hp⟩
  have jC:Hid (pb=false->∀z,az [] W z->uH [w.heap.size] (λJ A=>az [] w A/\bh A cb (dE (dI 32 (lf T))).toArray 182/\bh A w.heap.size #[.bool false] 4/\∀x∈J,rU x.i x.n (lf T x.i)) (λc J A=>c= .ret/\az [] w A/\bh A w.heap.size #[.bool false] 4/\∃x∈J,¬rU x.i x.n (lf T x.i)) (J++[x]) W .ret { tmps:= #[],defers:=[] } (z.setCell ⟨w.heap.size,0,none⟩ (.bool false))):=λhp z G=>
   ⟨(G.mono (l':=[w.heap.size]) (by simp)).setCell (.inl (by simp)) _,rfl,(ou.trans' G).setCell (.inr (aI _)) _,(zT.keep G (by simp)).set 0 (.bool false),x,by simp,λh=>by rw[ar.2 h] at hp;cases hp⟩
  have qB:Hid (az [] W W.drew):=(az.refl _ _).drew;clear ou K4 zT aa hN aF aM hE rI aH ar aD aG KX mq ae vU;generalize aR x.n x.v=ZN at *;generalize (lf T x.i:Int)=cI at *;refine wpIn_block (wpIn_seq_k λK aJ=> ?_);refine CF (r:=some l) (S:=λz=>az [] W z) (by kernel_rfl) (by rintro⟨a,w,h⟩;exact h) (by kernel_rfl) (by kernel_rfl) (λd _ _ _ _ h=>by cases d<;>exact h) qB.out (by kernel_rfl) ?_;repeat (first
   |(refine aK.cons (.bool pb) (bc.call rfl 131 #[.int .i64 (x.i:Int),.agg ZN,.int .i64 cI] ?he ?h) ?_;(case he=>(intro wz;go_simp));(case h=>exact λz U=>(aP.out z).mono λe w' he=>⟨he.1,U.trans' he.2⟩);simp only[Act.put,ag,ah,ai])
   |(refine aK.cons (.agg ZN) (bc.load rfl 111 (.tmp 5) rfl _ rfl λz U=>vY.out z U) ?_;simp only[Act.put,ag,ah,ai])
   |(refine aK.cons ?_ (bc.val rfl ?h) ?_;(case h=>(intro z U;have br:=PC.out z U;clear U;go_simp;rfl));simp only[Act.put,ag,ah,ai]))
  refine aK.done λz U=> ?_
  refine aJ _ _ ?_;have aC:=au (λh=>mI.out h z U);have O0:=au (λh=>jC.out h z U);obtain⟨aZ,aY⟩:=Dy.out z U;clear aJ U mI jC Dy PC vY aP qB;cases pb
  ·have HF:=au (O0.out rfl)
   clear aC O0
   gi_wp2
   exact HF.out
  ·have HF:=au (aC.out rfl)
   clear aC O0
   gi_wp2
   exact HF.out
 case stop=>
  rintro D c J W hD av ⟨rfl,ou,zT,x,U,aQ⟩ IJ;have aV:¬xC T:=λh=>aQ (by
   obtain⟨V,h2,-⟩:=oa.1 (av.2 x U);have :=h x.i V;rwa[<-show x.n=nT T x.i from h2] at this)
  have YN:=au IJ;have uN:Hid (∀W',az [D] W W'->W'.cell? ⟨w.heap.size,0,none⟩=some (.bool false)/\dh w (xC T) (.returned (.bool false)) W'):=λW' G=>⟨by rw[(zT.keep G (by rw[ay];omega)).cell];rfl,false,rfl,⟨(λh=>by cases h),λh=>absurd h aV⟩,ou.trans G (by intro y hy;rw[ay] at hy;omega)⟩
  clear ou zT aQ U av IJ aV;refine wpIn_wide.2 ?_;go_wp2_with fail;refine lQ [D] W (by simp) (λD' aj=>by rw[ay] at aj;subst aj;exact YN.out) λW' G=> ?_
  obtain⟨V,h2⟩:=uN.out W' G;exact⟨.bool false,by simp[results,results84,go_sem,V],h2⟩
 case done=>
  rintro D xs W hD aL ⟨ou,K4,zT,aa⟩ IJ;have hr:=(aD xs aL).1 aa;have aZ:W.cell? ⟨w.heap.size,0,none⟩=some (.bool false):=by rw[zT.cell];rfl
  have aY:=zT.frozen 0;have aN:=zT.set 0 (.bool true);have ac:az [w.heap.size] W (W.setCell ⟨w.heap.size,0,none⟩ (.bool true)):=(az.refl _ _).setCell (.inl (by simp)) _;have YN:Hid ((W.setCell ⟨w.heap.size,0,none⟩ (.bool true)).heap[D]? =some (.deferred (some []))):=(ac.block D (Array.getElem?_eq_some_iff.1 IJ).1 (by rw[ay];omega)).trans IJ;have uN:Hid (∀W',az [D] (W.setCell ⟨w.heap.size,0,none⟩ (.bool true)) W'->W'.cell? ⟨w.heap.size,0,none⟩=some (.bool true)/\dh w (xC T) (.returned (.bool true)) W'):=λW' G=>⟨by rw[(aN.keep G (by rw[ay];omega)).cell];rfl,true,rfl,⟨λ_=>hr,λ_=>rfl⟩,(ou.trans ac (by intro y hy;rw[ay] at hy;omega)).trans G (by intro y hy;rw[ay] at hy;omega)⟩
  clear ou K4 zT aa IJ hr aN ac aL aD aG KX mq ae vU;go_wp2_with fail;refine lQ [D] _ (by simp) (λD' aj=>by rw[ay] at aj;subst aj;exact YN.out) λW' G=> ?_
  obtain⟨V,h2⟩:=uN.out W' G;exact⟨.bool true,by simp[results,results84,go_sem,V],h2⟩
end Go.Proofs.YtepbpdipenedhaaGreatDoor
