/- Lemmas. -/
import Derived.Test.YtepbpdipenedhaaGreatDoorS28
set_option maxHeartbeats 2000000
set_option maxRecDepth 100000
namespace Go.Proofs.YtepbpdipenedhaaGreatDoor
open Go.Proofs.Tryz
open Go.RowKit
open Go.RowKit
variable{b n:Nat}{w w':World}{r:lS}{Z:Array Value}{l:List Nat}{B:List Int}
end Go.Proofs.YtepbpdipenedhaaGreatDoor
namespace Go.Proofs.YtepbpdipenedhaaGreatDoor
open Go.Proofs.Tryz
open Go.RowKit
variable{b n:Nat}{w w':World}{r:lS}{Z:Array Value}{l:List Nat}{B:List Int}
section
variable {X:List Int} {T:List (bN×Value)} {own:Nat->List Nat} {M:Nat->Nd}
open Classical in
end
section
variable {X:List Int} {T:List (bN×Value)} {own:Nat->List Nat} {M:Nat->Nd}
end
section
variable {P:Program} {ops:Array Oper} {Q:Exit->Act->World->Prop} {md:Region.Mode} {S:World->Prop}
end
section
variable {P:Program} {ops:Array Oper} {Q:Exit->Act->World->Prop} {S:World->Prop}
theorem Ea {id:Nat}{a:Act}{w:World}{l l2:List Oper}{o:Oper}(hm:P.follows .mixedOrders=true)(od:ops.toList=l++(o::l2))(ht:uV .any ops l.length l.length=true)(V:uV .any ops ops.size ops.size=true)(hQ:∀d v c a w,Q (.panic c) (Act.put a d v) w->Q (.panic c) a w)(U:S w.drew)
  (J:Region.ready .any ops (dU ops.size l.length)=[l.length]) (Z:Region.ready .any ops (dU ops.size ops.size)=[])
  (h:aH P ops S (wpList P ops (Vp (λ_=>True) (λG w'=>∃z:World->Prop,z w'/\aH P ops z (Q .normal) l2 G) Q) [o]) l a):(Code.region id ops true).wp P Q a w:=by
 have aa:ops.size=l.length+(l2.length+1):=by rw[<-cV,od];simp
 refine wp_region_any hm ?_;rw[<-kA];refine lY (S:=λ_=>S) (F:=ops.size) (L:=l.length) _ _ _ ?_ _ U;have y:∀k,ops[k]? =(l++(o::l2))[k]? :=λk=>by rw[<-od,cE]
 refine Ez (m:=l.length) ht (aG _) (by omega) hQ (E:=λa=>∀w,S w->wpList P ops (Vp (λ_=>True) (λG w'=>∃z:World->Prop,z w'/\aH P ops z (Q .normal) l2 G) Q) [o] a w) (λa h=> ?_) l 0 a (by simp) (by omega) (λk hk=>by rw[y,aV,bg hk]) (aH.toB _ _ h);have ho:ops[l.length]? =some o:=by rw[y,aT (aG _),Nat.sub_self];rfl
 rw[show ops.size-l.length=l2.length+1 by omega];refine⟨λh0=>(by rw[J] at h0;cases h0),λi hi W=> ?_,λ_ w U=> ?_⟩
 ·rw[J,au] at hi
  exact absurd hi W
 ·refine wpOp_mono (λG w' h'=> ?_) (xq ho (h w U))
  obtain⟨-,z,Zj,h2⟩:=h';rw[lj];refine lY (S:=λ_=>z) (F:=ops.size) (L:=ops.size) _ _ _ ?_ _ Zj;have :=Ez (md:= .any) (m:=ops.size) V (aG _) (aG _) hQ (E:=λa=>∀w,z w->Q .normal a w) (λa h=>by rw[Nat.sub_self];exact⟨Z,h⟩) l2 (l.length+1) G (by omega) (aG _) (λk hk=>by
   rw[y,aT (by omega),show l.length+1+k-l.length=k+1 by omega,cN]) (aH.toB _ _ h2)
  rwa[show ops.size-(l.length+1)=l2.length by omega] at this
end
def wM (n:Nat) (w:World) (r:lS) (Z:Array Value):Prop:=∃vd h,Z=GM r vd h/\(∃g,Reads w vd g (QS r.D)/\(r.D≠[]->n<=g))/\∃g,br w h g r.S/\(r.S≠[]->n<=g)
theorem wM.at(h:wM n w r Z):GN w r Z:=by
 obtain⟨vd,U,J,⟨g,y,-⟩,G,z,-⟩:=h;exact⟨vd,U,J,⟨g,y⟩,G,z⟩
theorem wM.mono{m:Nat}(h:wM n w r Z)(y:m<=n):wM m w r Z:=by
 obtain⟨vd,V,U,⟨g,z,a⟩,J,G,c⟩:=h;exact⟨vd,V,U,⟨g,z,λh=>cJ y (a h)⟩,J,G,λh=>cJ y (c h)⟩
theorem wM.keep(h:wM n w r Z)(J:ay l w w')(W:∀x∈l,x<n):wM n w' r Z:=by
 obtain⟨vd,ve,h1,⟨g,G,a⟩,V,h3,c⟩:=h;refine⟨vd,ve,h1,⟨g,?_,a⟩,V,h3.keep J (λy z=> ?_),c⟩
 ·by_cases U:r.D=[]
  ·obtain⟨ad,cap,e,b1,b2,-⟩:=G
   exact⟨ad,cap,e,b1,b2,λy=>absurd (by rw[U];rfl) y⟩
  ·exact G.keep J (λz=>by have :=W g z;have :=a U;omega)
 ·have :=W V z
  have :=c (λe=>y (by rw[e];rfl));omega
def XT (w:World) (r:lS) (Z:Array Value):Prop:=∀n,wM n w r Z
theorem XT.plain(w:World){r:lS}(y:r.D=[])(z:r.S=[]):XT w r (GM r (.slice none 0 0) (.slice none 0 0)):=λn=>⟨_,_,rfl,⟨0,by rw[y];exact wK w 0,λh=>absurd y h⟩,0,by rw[z];exact br.nil w 0,λh=>absurd z h⟩
def qo (w:World) (b y:Nat) (B:List Int) (R:lS->List (Int×Int)->Prop) (e:Ending) (w':World):Prop:=
 ∃r Z qs h,e= .returned (.agg Z)/\wM w.heap.size w' r Z/\(h=y\/(w.heap.size<=h/\h<w'.heap.size))/\eT w' b h B qs/\ay [b,y] w w'/\qs.length<=100000/\R r qs
theorem TK{W G:World}{g T:Nat}{y:Array Value}(hb:bf W g y T)(hc:y.size=7)(hk:ay l W G)(hg:g∉l)(hD:r.D=[])(hS:r.S=[])(hZ:Z=GM r (.slice none 0 0) (.slice none 0 0)):
  ∃h,(storeVar 34 ⟨g,0,none⟩ (.agg Z)).run prog G= .ok () h/\(loadVar 34 ⟨g,0,none⟩).run prog h= .ok (.agg Z) h/\XT h r Z/\ay [g] G h:=by
 have hz:GN G r Z:=by rw[hZ];exact TB G hD hS
 have z:∀J,XT J r Z:=λJ=>by rw[hZ];exact XT.plain J hD hS
 have V:=hb.keep hk hg;have h1:=hz.one;have U:=hz.size;obtain⟨zl⟩:=Z;simp only[bH] at U;obtain⟨h,s1,s2,s3⟩:=bo (P:= prog) (ty:= 34) (cs:=zl) (by rw[U];exact GP) V (by rw[hc,U]) h1;exact⟨h,s1,A9 s2 (z h 0).at,z h,s3⟩
theorem Nq (w:World)(J h:Array Value):∃W,(w.alloc (.cells J 79)).alloc (.cells h 34)=W/\ay [] w W/\bf W w.heap.size J 79/\bf W (w.heap.size+1) h 34/\W.heap.size=w.heap.size+2:=
 ⟨_,rfl,((ay.refl _ _).alloc _).alloc _,(bf.new w _ _).alloc _,bf.new2 w _ _ _ _,by rw[bO,bO]⟩
section
variable {w w':World} {b gp ib:Nat} {B:List Int} {ps qs:List (Int×Int)} {T T':List (bN×Value)} {own cH:Nat->List Nat} {ex ex':List Nat} {M M':Nat->Nd}
theorem qo.none{R:lS->List (Int×Int)->Prop}{r:lS}{Z:Array Value}(h:Di w b gp B [] T own ex M)(y:ay [] w w')(G:XT w' r Z)(z:R r []):qo w b gp B R (.returned (.agg Z)) w':=
 ⟨r,Z,[],gp,rfl,G _,.inl rfl,h.sh.keep y (by simp) (by simp),y.mono (by simp),by simp,z⟩
theorem qo.some{R:lS->List (Int×Int)->Prop}{r:lS}{Z:Array Value}{m:Nat}{Rq:Int->List (Int×Int)->Prop}{wa G wc:World}{x:Int}(ac:b<w.heap.size/\gp<w.heap.size)(z:ay [] w wa)(V:w.heap.size+2<=wa.heap.size)(hp:gQ wa b gp B [] m Rq (.returned (.int .i64 x)) G)(hm:m<=100000)(h:ay [w.heap.size+1] G wc)(W:XT wc r Z)(hR:∀qs,Rq x qs->R r qs):qo w b gp B R (.returned (.agg Z)) wc:=by
 obtain⟨x',qs,ib,he,h1,h2,U,h4,J⟩:=hp;cases he;have aa:=h.size;refine⟨r,Z,qs,ib,rfl,W _,by omega,h2.keep h (by rw[au];omega) (by rw[au];omega),((z.mono (by simp)).trans' U).trans h (λy hy=>by rw[au] at hy;omega),by omega,hR _ J⟩
end
structure Me (w:World) (o:pX) (vp vq vd:Value):Prop where
 p:∃g,jh w vp g o.P
 ps:∀s∈o.P,s.size<=9223372036854775807
 q:∃g,jh w vq g o.Q
 qs:∀s∈o.Q,s.size<=9223372036854775807
 d:∃g,Reads w vd g (QS o.D)
 ds:∀x∈o.D,0<=x/\x<256
theorem Me.keep{o:pX}{z vq vd:Value}(h:Me w o z vq vd)(y:ay [] w w'):Me w' o z vq vd:=by
 obtain⟨⟨g1,U⟩,G,⟨g3,J⟩,h4,⟨V,Z⟩,W⟩:=h;exact⟨⟨g1,U.keep y (by simp)⟩,G,⟨g3,J.keep y (by simp)⟩,h4,⟨V,Z.keep y (by simp)⟩,W⟩
theorem C4{P:Program}{f:FuncId}{fn:Func}(y:P.funcs[f]? =some fn)(G:(fn.name == "runtime.NumGoroutine")=false)(h:fn.body.isNone=false)(args:Array Value)(w:World):(callFunc f args).run P w= .ok (.enter f args) w:=by
 have J:fn.name≠ "runtime.NumGoroutine" :=by simpa using G
 have z:fn.body≠none:=λe=>by rw[e] at h;cases h
 unfold callFunc;simp[go_sem,y,J,z]
def GY (M:Nat->Nd) (o:pX):Prop:=∀(w:World) (b z:Nat) (B:List Int) (T:List (bN×Value)) (own:Nat->List Nat) (h vq vd:Value),Di w b z B [] T own [] M->dY M->Me w o h vq vd->
 Calls prog 27 #[.agg (iR b o h vq vd)] w λe w'=>∃fn,e= .returned (.func (.func fn) #[.agg (iR b o h vq vd)] #[])/\ay [] w w'/\(∀G,(callFunc fn #[.agg (iR b o h vq vd)]).run prog G= .ok (.enter fn #[.agg (iR b o h vq vd)]) G)/\∀y,ay [] w y->Calls prog fn #[.agg (iR b o h vq vd)] y (qo y b z B (Bb B M o))
theorem JY{gn gl gf:Nat}{s:iN}(h:dQ w b gn gl gf s)(hp:∀k:Nat,k<s.now.length->s.refusal (k:Int)=0/\s.load (k:Int)=s.now.getD k 0):
  Calls prog 25 #[.pointer (some ⟨b,0,none⟩)] w (nV w s.now):=by
 have H:=ar h;have W:=ar hp;have hm:=h.n9;have AV:=ar (Kl h);generalize Z:s.now=xs at *;obtain⟨m,y⟩:∃m,xs.length=m:=⟨_,rfl⟩;rw[y] at AV W hm;have ae:=wX m (by omega) (m:Int) rfl m (.inr rfl) w;have U:=CY w m (by omega);rw[show List.replicate m (0:Int)=dn 0 xs 0 by rw[jA,y]] at U;have U:=ar U;have G:=ar y;generalize madeCells #[Value.int .u64 0] m=mc at *;clear h hp Z y;go_enter func25,ntmps25;go_wp2_with(go_at_call 46;refine AV.out.mono ?_;rintro e w' ⟨rfl,rfl⟩);go_loopg [5,6,7,15] m (λgh s5 s6 s7 s15 wx=>∃k:Nat,k+gh=m/\s15= .int .i64 (k:Int)/\
  Hid (eQ wx (.slice (some ⟨w.heap.size,0,none⟩) m m) w.heap.size 56 1 m (aO (dn 0 xs k))/\ay [] w wx))
 case atStart=>exact⟨0,by omega,rfl,U.out,(ay.refl _ _).alloc _⟩
 case round=>
  obtain⟨k,hk,rfl,z⟩:=hrel;cases gk with
  |zero=>
   obtain rfl:k=m:=by omega
   have ac:¬(k:Int)<(k:Int):=by omega
   have aa:Hid (nV w xs (.returned (.tuple #[.slice (some ⟨w.heap.size,0,none⟩) k k,.int .i64 0])) wr):=by
    obtain⟨ho,eW⟩:=z.out;have e:dn 0 xs k=xs:=by
     have :=j5 (0:Int) xs;rwa[G.out] at this
    rw[e] at ho;exact⟨_,_,rfl,ho.reads,aG _,eW⟩
   go_wp2_with fail;go_ret2;exact aa.out
  |succ gg=>
   have ac:(k:Int)<(m:Int):=by omega
   have V:=Mv (H.out.keep z.out.2 (by simp) (by simp)) (k:Int);rw[(W.out k (by omega)).1,(W.out k (by omega)).2] at V;have HL:=ar V;have hl:=jG (0:Int) xs k (by rw[G.out];omega);rw[G.out] at hl;obtain⟨-,-,hc,hf⟩:=z.out.1.cell (by omega);have d0:=(hc k (by omega)).trans (cG (l:=dn 0 xs k) (by omega));have f0:=hf k;have HE:=ar (jB (0:Int) xs k (by rw[G.out];omega) (xs.getD k 0) (by simp[show k<xs.length by rw[G.out];omega]));generalize (dn 0 xs k).getD k 0=o1 at *;have J:=z.out.1.set k (.int .u64 (xs.getD k 0));rw[ku] at J;have J:=ar J;have iA:=ar z.out.2;generalize xs.getD k 0=x at *;clear hc hf hl z V;go_wp2_with(go_at_call 52;refine HL.out.mono ?_;rintro e w' ⟨rfl,rfl⟩);go_roundg gg;case measure=>omega
   case rel=>
    refine⟨k+1,by omega,by go_num,?_,iA.out.setCell (.inr (aG _)) _⟩;rw[<-HE.out];exact J.out
def WB (w:World) (f b:Nat):Prop:=bf w f #[.pointer (some ⟨b,0,none⟩)] 75
theorem JZ (X:List Int)(k:Nat)(hx:X.length=3128)(W:k<3128)(w:World):(Instr.index 116 (.agg (aO X).toArray) (.int .i64 (k:Int))).run prog w= .ok (.int .u64 (X.getD k 0)) w:=by
 have z:=cP (P:= prog) underlying116;have G:=cP (P:= prog) underlying56;obtain⟨i0,y,U,h,Z⟩:=cr Tryz.info_u64;have J:(aO X)[k]? =some (.int .u64 (X.getD k 0)):=cG (by omega);have V:(0:Int)<=(k:Int):=by omega
 generalize X.getD k 0=x at *;simp[Instr.index,asIntOf,z,V,W,sizeOf,typeInfo,y,h,part,isAgg,G,J]
theorem J0{gp:Nat}{X:List Int}{us:List (Int×Int)}(h:jo w b gp B X us):
  Calls prog 29 #[.pointer (some ⟨b,0,none⟩)] w (ky w (cu B X 3128)):=by
 obtain⟨i0,hi,ac,ag,af⟩:=cr Tryz.info_pair;have H:=ar h;have aa:=ar h.lx;have aj:=h.lt;obtain⟨lb,lx,vp,h1,h2,h3⟩:=h;have HL:=ar (Bp h1 lb lx);clear lb lx h1 h2 h3 vp;have ae:=ar (λ(k:Nat) (hk:k<3128)=>JZ X k aa.out hk);generalize (aO X).toArray=Y at *;go_enter func29,ntmps29;go_wp2_with(with_reducible refine gL 116 HL.out ?_);clear HL;go_loopg [3,10] 3128 (λgh s3 UT wx=>∃k:Nat,k+gh=3128/\UT= .int .i64 (k:Int)/\
  Hid (wx.ownsRow w.heap.size 58 2 s3 (cu B X k).length (iz (cu B X k))/\ay [] w wx))
 case atStart=>exact⟨0,by omega,rfl,⟨rfl,.inl ⟨rfl,rfl⟩⟩,ay.refl _ _⟩
 case round=>
  obtain⟨k,hk,rfl,HR⟩:=hrel;cases gk with
  |zero=>
   obtain rfl:k=3128:=by omega
   have HM:Hid (ky w (cu B X 3128) (.returned u3) wr):=by
    obtain⟨hr,V⟩:=HR.out;obtain⟨g',ho,hb⟩:=eQ.of_row hr;by_cases e:(cu B X 3128).length=0
    ·exact ky.mk (ho.anyG e w.heap.size) rfl (aG _) V
    ·exact ky.mk ho rfl (hb e).1 V
   clear hk;go_wp2_with fail;go_ret;exact HM.out
  |succ gg=>
   have Z:k<3128:=by omega
   have ak:(k:Int)<3128:=by omega
   have eo:(0:Int)<=(k:Int):=by omega
   obtain⟨U,V⟩:=HR.out;have c0:=(H.out.keep V (by simp) (by simp)).cell0 (i:=k) Z;have Ad:=ae.out k Z;have ai:=Ku B X k;have ah:=V.size;have z:=ar U;have iA:=ar V;clear U V HR;by_cases W:X.getD k 0=B.getD k 0
   ·have HD:=ar (zu B X k W)
    have e1:(X.getD k 0 != B.getD k 0)=false:=by simpa using W
    clear W;generalize X.getD k 0=x at *;generalize B.getD k 0=y at *;go_wp2_with fail;go_roundg gg;case measure=>omega
    case rel=>exact⟨k+1,by omega,by go_num,by rw[HD.out];exact z.out,iA.out⟩
   ·have HD:=ar (Kt B X k W)
    have e1:(X.getD k 0 != B.getD k 0)=true:=by simpa using W
    clear W;generalize X.getD k 0=x at *;generalize B.getD k 0=y at *;go_wp2_with(at_builtin;refine dw _ rfl _ _ 54 rfl w.heap.size 58 i0 (.agg #[.int .i64 0,.int .u64 0]) 2 16 underlying54 hi ac ag af rfl (by decide) u3 (cu B X k).length _ rfl (z.out.alloc _) ⟨wr.heap.size,0,none⟩ 1 1 [.int .i64 (k:Int),.int .u64 x] rfl rfl ?c1 ?c2 (by unfold maxLen;omega) (by omega) (by simp;omega) ?_);case c1=>exact iX _ [_,_] _ _ rfl
    case c2=>simp[Value.oneCell']
    intro v' w1 J G _;have Ag:=ar J;have jl:=ar ((iA.out.alloc _).grown G (cz z.out));clear J G;go_wp2_with fail;go_roundg gg;case measure=>omega
    case rel=>
     refine⟨k+1,by omega,by go_num,?_,jl.out⟩;have :=Ag.out;rw[HD.out,aD,qf];exact this
theorem Mf{y:Nat}{ps:List (Int×Int)}(h:eT w b y B ps):
  Calls prog 29 #[.pointer (some ⟨b,0,none⟩)] w (ky w (cu B (az B ps) 3128)):=J0 h.raw
end Go.Proofs.YtepbpdipenedhaaGreatDoor
