/- Lemmas. -/
import Derived.Test.YtimcfdnbpkiniaaGreatDoorM24
set_option maxHeartbeats 4000000
set_option maxRecDepth 100000
namespace Go.Proofs.YtimcfdnbpkiniaaGreatDoor
open Go.Proofs.Tryz
open Go.RowKit
variable{U b g gf gl gn gp n:Nat}{W w w':World}{r:lX}{Z:Array Value}{l:List Nat}{T:List (bS×Value)}{B X:List Int}{own:Nat->List Nat}{M:Nat->Nd}{o:iP}{vd vq:Value}{s:kp}{f:Int}
section
variable {P:Program} {ops:Array Oper} {Q:Exit->Act->World->Prop} {S:World->Prop}
theorem Jb {id:Nat}{a:Act}{w:World}{l l2:List Oper}{o:Oper}(hm:P.follows .mixedOrders=true)(pj:ops.toList=l++(o::l2))(ht:xb .any ops l.length l.length=true)(aa:xb .any ops ops.size ops.size=true)(hQ:∀d v c a w,Q (.panic c) (Act.put a d v) w->Q (.panic c) a w)(V:S w.drew)
  (U:Region.ready .any ops (dG ops.size l.length)=[l.length]) (ac:Region.ready .any ops (dG ops.size ops.size)=[])
  (h:aS P ops S (wpList P ops (abB (λ_=>True) (λJ w'=>∃G:World->Prop,G w'/\aS P ops G (Q .normal) l2 J) Q) [o]) l a):(Code.region id ops true).wp P Q a w:=by
 have af:ops.size=l.length+(l2.length+1):=by rw[<-dK,pj];simp
 refine wp_region_any hm ?_;rw[<-kF];refine oo (S:=λ_=>S) (F:=ops.size) (L:=l.length) _ _ _ ?_ _ V;have z:∀k,ops[k]? =(l++(o::l2))[k]? :=λk=>by rw[<-pj,dw]
 refine JA (m:=l.length) ht (aI _) (by omega) hQ (E:=λa=>∀w,S w->wpList P ops (abB (λ_=>True) (λJ w'=>∃G:World->Prop,G w'/\aS P ops G (Q .normal) l2 J) Q) [o] a w) (λa h=> ?_) l 0 a (by simp) (by omega) (λk hk=>by rw[z,bp,bh hk]) (aS.toB _ _ h);have ho:ops[l.length]? =some o:=by rw[z,aT (aI _),ja];rfl
 rw[show ops.size-l.length=l2.length+1 by omega];refine⟨λh0=>(by rw[U] at h0;cases h0),λi hi ae=> ?_,λ_ w V=> ?_⟩
 ·rw[U,au] at hi
  exact absurd hi ae
 ·refine wpOp_mono (λJ w' h'=> ?_) (Bg ho (h w V))
  obtain⟨-,G,W,h2⟩:=h';rw[nJ];refine oo (S:=λ_=>G) (F:=ops.size) (L:=ops.size) _ _ _ ?_ _ W;have :=JA (md:= .any) (m:=ops.size) aa (aI _) (aI _) hQ (E:=λa=>∀w,G w->Q .normal a w) (λa h=>by rw[ja];exact⟨ac,h⟩) l2 (l.length+1) J (by omega) (aI _) (λk hk=>by
   rw[z,aT (by omega),show l.length+1+k-l.length=k+1 by omega,iu]) (aS.toB _ _ h2)
  rwa[show ops.size-(l.length+1)=l2.length by omega] at this
end
def tO (n:Nat) (w:World) (r:lX) (Z:Array Value):Prop:=∃vd h,Z=tU r vd h/\(∃g,Reads w vd g (ky r.D)/\(r.D≠[]->n<=g))/\∃g,bD w h g r.S/\(r.S≠[]->n<=g)
theorem tO.at(h:tO n w r Z):Db w r Z:=by
 obtain⟨vd,G,z,⟨g,V,-⟩,U,J,-⟩:=h;exact⟨vd,G,z,⟨g,V⟩,U,J⟩
theorem tO.mono{m:Nat}(h:tO n w r Z)(z:m<=n):tO m w r Z:=by
 obtain⟨vd,J,G,⟨g,W,a⟩,V,U,c⟩:=h;exact⟨vd,J,G,⟨g,W,λh=>cL z (a h)⟩,V,U,λh=>cL z (c h)⟩
theorem tO.keep(h:tO n w r Z)(J:ay l w w')(U:∀x∈l,x<n:=by simp):tO n w' r Z:=by
 obtain⟨vd,ve,h1,⟨g,V,a⟩,W,h3,c⟩:=h;refine⟨vd,ve,h1,⟨g,?_,a⟩,W,h3.keep J (λG z=> ?_),c⟩
 ·by_cases hD:r.D=[]
  ·obtain⟨ad,cap,e,b1,b2,-⟩:=V
   exact⟨ad,cap,e,b1,b2,λG=>absurd (by rw[hD];rfl) G⟩
  ·exact V.keep J (λz=>by have :=U g z;have :=a hD;omega)
 ·have :=U W z
  have :=c (λe=>G (by rw[e];rfl));omega
def RsP (w:World) (r:lX) (Z:Array Value):Prop:=∀n,tO n w r Z
theorem RsP.plain(w:World){r:lX}(z:r.D=[])(G:r.S=[]):RsP w r (tU r (.slice none 0 0) (.slice none 0 0)):=λn=>⟨_,_,rfl,⟨0,by rw[z];exact tM w 0,λh=>absurd z h⟩,0,by rw[G];exact bD.nil w 0,λh=>absurd G h⟩
def fH (w:World) (b z:Nat) (B:List Int) (R:lX->List (Int×Int)->Prop) (e:Ending) (w':World):Prop:=
 ∃r Z qs h,e= .returned (.agg Z)/\tO w.heap.size w' r Z/\(h=z\/(w.heap.size<=h/\h<w'.heap.size))/\eN w' b h B qs/\ay [b,z] w w'/\qs.length<=100000/\R r qs
theorem yA{z:World}{T:Nat}{J:Array Value}(hb:bc W g J T)(hc:J.size=7)(hk:ay l W z)(hg:g∉l)(hD:r.D=[])(hS:r.S=[])(hZ:Z=tU r (.slice none 0 0) (.slice none 0 0)):
  ∃h,(storeVar 38 g (.agg Z)).run prog z= .ok () h/\(loadVar 38 g).run prog h= .ok (.agg Z) h/\RsP h r Z/\ay [g] z h:=by
 have hz:Db z r Z:=by rw[hZ];exact aab z hD hS
 have G:∀V,RsP V r Z:=λV=>by rw[hZ];exact RsP.plain V hD hS
 have U:=hb.keep hk hg;have h1:=hz.one;have h2:=hz.size;obtain⟨zl⟩:=Z;simp only[bP] at h2;obtain⟨h,s1,s2,s3⟩:=bE (P:= prog) (ty:= 38) (cs:=zl) (by rw[h2];exact Ff) U (by rw[hc,h2]) h1;exact⟨h,s1,wQ s2 (G h 0).at,G h,s3⟩
theorem mq (w:World)(J h:Array Value):∃W,(w.alloc (.cells J 91)).alloc (.cells h 38)=W/\ay [] w W/\bc W w.heap.size J 91/\bc W (w.heap.size+1) h 38/\W.heap.size=w.heap.size+2:=
 ⟨_,rfl,((ay.refl _ _).alloc _).alloc _,(bc.new w _ _).alloc _,bc.new2 w _ _ _ _,by rw[aU,aU]⟩
section
variable {w w':World} {b gp gG:Nat} {B:List Int} {ps qs:List (Int×Int)} {T T':List (bS×Value)} {own cY:Nat->List Nat} {ex ex':List Nat} {M M':Nat->Nd}
theorem fH.none{R:lX->List (Int×Int)->Prop}{r:lX}{Z:Array Value}(h:rz w b gp B [] T own ex M)(z:ay [] w w')(G:RsP w' r Z)(J:R r []):fH w b gp B R (.returned Z) w':=
 ⟨r,Z,[],gp,rfl,G _,.inl rfl,h.sh.keep z,z.mono,by simp,J⟩
theorem fH.noneAt{R:lX->List (Int×Int)->Prop}{r:lX}{Z:Array Value}(h:rz w b gp B [] T own ex M)(z:ay [] w w')(G:tO w.heap.size w' r Z)(J:R r []):fH w b gp B R (.returned Z) w':=
 ⟨r,Z,[],gp,rfl,G,.inl rfl,h.sh.keep z,z.mono,by simp,J⟩
theorem fH.some{R:lX->List (Int×Int)->Prop}{r:lX}{Z:Array Value}{m:Nat}{Rq:Int->List (Int×Int)->Prop}{wa G wc:World}{x:Int}(W:b<w.heap.size/\gp<w.heap.size)(z:ay [] w wa)(aa:w.heap.size+2<=wa.heap.size)(J:cQ wa b gp B [] m Rq (.returned x) G)(hm:m<=100000)(h:ay [w.heap.size+1] G wc)(hr:RsP wc r Z)(hR:∀qs,Rq x qs->R r qs):fH w b gp B R (.returned Z) wc:=by
 obtain⟨x',qs,gG,V,h1,h2,h3,h4,h5⟩:=J;cases V;have U:=h.size;refine⟨r,Z,qs,gG,rfl,hr _,by omega,h2.keep h (by rw[au];omega) (by rw[au];omega),((z.mono).trans' h3).trans h (λy hy=>by rw[au] at hy;omega),by omega,hR _ h5⟩
end
theorem V8 (h:rz w b U B [] T own [] M){o:iP}{z vq vd:Value}(hK:¬(0<=o.K/\o.K<=12)):
  Calls prog 77 #[cC b o z vq vd] w (fH w b U B (kY B M o)):=by
 obtain⟨W,hW,cM,jK,jI,G⟩:=mq w (cC b o z vq vd) (tU fh (.slice none 0 0) (.slice none 0 0));obtain⟨wy,s1,s2,s3,s4⟩:=yA jI rfl (ay.refl [] W) (by simp) (r:=cW 1) rfl rfl rfl;have HF:Hid (fH w b U B (kY B M o) (.returned (tU (cW 1) (.slice none 0 0) (.slice none 0 0))) wy):=fH.none h (cM.trans s4 (by intro y hy;rw[au] at hy;omega)) s3 (.inr (.inl ⟨by show(1:Int)≠0;omega,by rw[acA hK];rfl⟩));obtain⟨HS,HL⟩:=hh2 s1 s2;have EU:=lD;clear h cM jK jI G s1 s2 s3 s4;have e0:tU fh (.slice none 0 0) (.slice none 0 0)= #[.int .i64 0,.int .i64 0,.int .i64 0,.int .i64 0,.int .i64 0,.slice none 0 0,.slice none 0 0]:=rfl;have V:tU (cW 1) (.slice none 0 0) (.slice none 0 0)= #[.int .i64 1,.int .i64 0,.int .i64 0,.int .i64 0,.int .i64 0,.slice none 0 0,.slice none 0 0]:=rfl;rw[e0] at hW EU;rw[V] at HS HL HF;clear e0 V;generalize cC b o z vq vd=J at *;go_in;go_wp2_with(with_reducible refine gS 38 HS.out ?_);exact aH (bu results77 rfl HL.out) rfl HF.out
structure BO (w:World) (o:iP) (vp vq vd:Value):Prop where
 p:∃g,fU w vp g o.P
 ps:∀s∈o.P,s.size<=9223372036854775807
 q:∃g,fU w vq g o.Q
 qs:∀s∈o.Q,s.size<=9223372036854775807
 d:∃g,Reads w vd g (ky o.D)
 ds:∀x∈o.D,0<=x/\x<256
theorem BO.keep{G:Value}(h:BO w o G vq vd)(z:ay [] w w'):BO w' o G vq vd:=by
 obtain⟨⟨U,J⟩,h2,⟨W,h3⟩,h4,⟨g5,h5⟩,V⟩:=h;exact⟨⟨U,J.keep z⟩,h2,⟨W,h3.keep z⟩,h4,⟨g5,h5.keep z⟩,V⟩
theorem fA{P:Program}{f:FuncId}{fn:Func}(G:P.funcs[f]? =some fn)(U:(fn.name == "runtime.NumGoroutine")=false)(h:fn.body.isNone=false)(args:Array Value)(w:World):(callFunc f args).run P w= .ok (.enter f args) w:=by
 have z:fn.name≠ "runtime.NumGoroutine" :=by simpa using U
 have J:fn.body≠none:=λe=>by rw[e] at h;cases h
 unfold callFunc;simp[go_sem,G,z,J]
def LO (M:Nat->Nd) (o:iP):Prop:=∀(w:World) (b G:Nat) (B:List Int) (T:List (bS×Value)) (own:Nat->List Nat) (h vq vd:Value),rz w b G B [] T own [] M->dB M->BO w o h vq vd->
 Calls prog 33 #[cC b o h vq vd] w λe w'=>∃fn,e= .returned (.func (.func fn) #[cC b o h vq vd] #[])/\ay [] w w'/\(∀J,(callFunc fn #[cC b o h vq vd]).run prog J= .ok (.enter fn #[cC b o h vq vd]) J)/\∀z,ay [] w z->Calls prog fn #[cC b o h vq vd] z (fH z b G B (kY B M o))
theorem Hs (h:fM w b gn gl gf s)(hp:∀k:Nat,k<s.now.length->s.refusal (k:Int)=0/\s.load (k:Int)=s.now.getD k 0):
  Calls prog 31 #[b] w (uw w s.now):=by
 obtain⟨H,G⟩:=hh2 h hp;have hm:=h.n9;have Ih:=ar (Xf h);generalize ac:s.now=xs at *;obtain⟨m,z⟩:∃m,xs.length=m:=⟨_,rfl⟩;rw[z] at Ih G hm;have af:=AR m (by omega) (m:Int) rfl m (.inr rfl) w;have W:=Hb w m (by omega);rw[show List.replicate m (0:Int)=eH 0 xs 0 by rw[l8,z]] at W;obtain⟨W,U⟩:=hh2 W z;generalize madeCells #[Value.int .u64 0] m=mc at *;clear h hp ac z;go_in;go_wp2_with(go_at_call 45;refine C' Ih.out ?_);go_loopg [5,6,7,15] m (λgh s5 s6 s7 s15 wx=>∃k:Nat,k+gh=m/\s15= .int .i64 (k:Int)/\
  Hid (fw wx (.slice w.heap.size m m) w.heap.size 70 1 m (aX (eH 0 xs k))/\ay [] w wx))
 case atStart=>exact⟨0,by omega,rfl,W.out,(ay.refl _ _).alloc _⟩
 case round=>
  obtain⟨k,hk,rfl,J⟩:=hrel;cases gk with
  |zero=>
   obtain rfl:k=m:=by omega
   have ae:¬(k:Int)<(k:Int):=by omega
   have aa:Hid (uw w xs (.returned (.tuple #[.slice w.heap.size k k,(0:Int)])) wr):=by
    obtain⟨ho,gD⟩:=J.out;have e:eH 0 xs k=xs:=by
     have :=nj (0:Int) xs;rwa[U.out] at this
    rw[e] at ho;exact⟨_,_,rfl,ho.reads,aI _,gD⟩
   go_wp2;go_ret2;exact aa.out
  |succ gg=>
   have ae:(k:Int)<(m:Int):=by omega
   have hL:=Sb (H.out.keep J.out.2) (k:Int);rw[(G.out k (by omega)).1,(G.out k (by omega)).2] at hL;have HL:=ar hL;have hl:=mg (0:Int) xs k (by rw[U.out];omega);rw[U.out] at hl;obtain⟨-,-,hc,hf⟩:=J.out.1.cell (by omega);have d0:=(hc k (by omega)).trans (dM (l:=eH 0 xs k) (by omega));have f0:=hf k;have HE:=ar (l9 (0:Int) xs k (by rw[U.out];omega) (xs.getD k 0) (by simp[show k<xs.length by rw[U.out];omega]));generalize (eH 0 xs k).getD k 0=o1 at *;have V:=J.out.1.set k (.int .u64 (xs.getD k 0));rw[mz] at V;obtain⟨V,jD⟩:=hh2 V J.out.2;generalize xs.getD k 0=x at *;clear hc hf hl J hL;go_wp2_with(go_at_call 55;refine C' HL.out ?_);go_roundg gg;case measure=>omega
   case rel=>
    refine⟨k+1,by omega,by go_num,?_,jD.out.setCell (.inr (aI _)) _⟩;rw[<-HE.out];exact V.out
def aai (w:World) (f b:Nat):Prop:=bc w f #[b] 87
theorem Ht{f:Nat}(hf:aai w f b)(h:fM w b gn gl gf s)(hn:s.now.length=3128)(U:∀k:Nat,k<s.now.length->s.refusal (k:Int)=0/\s.load (k:Int)=s.now.getD k 0):
  Calls prog 16 #[f] w (yJ w s.now):=by
 have c0:w.cell? f=some (.pointer (some ⟨b,0,none⟩)):=by rw[hf.cell];rfl
 have HL:=ar (Hs h U);have OS:kN s.now=s.now:=by
  apply cX (by rw[iw,hn]);intro k J G;have :=uK s.now k;rw[aj,aD J,eZ] at this;rw[this,aB,aj,aD G];rfl
 have z:=ar OS;clear hf h hn U OS;go_in;go_wp2_with fail;refine HL.out.mono ?_;rintro e w1 ⟨v,g,rfl,hr,hg,hk⟩;obtain⟨HN,HK⟩:=hh2 (A0 hr) hk;clear HL hr hg hk;go_wp2_with fail;refine HN.out.mono ?_;rintro e w2 ⟨V,rfl,J,G,W⟩;have HE:Hid (yJ w s.now (.returned V) w2):=by
  rw[z.out] at G;exact⟨V,rfl,cL HK.out.size J,G,HK.out.trans' W⟩
 clear J G W HN z;go_wp2;go_ret;exact HE.out
theorem OT (X:List Int)(k:Nat)(hx:X.length=3128)(J:k<3128)(w:World):(Instr.index 119 (.agg (aX X).toArray) (.int .i64 (k:Int))).run prog w= .ok (.int .u64 (X.getD k 0)) w:=by
 have G:=dD (P:= prog) underlying119;have U:=dD (P:= prog) underlying70;obtain⟨i0,hi,V,h,W⟩:=df Tryz.info_u64;have z:(aX X)[k]? =some (.int .u64 (X.getD k 0)):=dM (by omega);have h0:(0:Int)<=(k:Int):=by omega
 generalize X.getD k 0=x at *;simp[Instr.index,asIntOf,G,h0,J,sizeOf,typeInfo,hi,h,part,isAgg,U,z]
theorem OU{us:List (Int×Int)}(h:kP w b gp B X us):
  Calls prog 35 #[b] w (mH w (dm B X 3128)):=by
 obtain⟨i0,hi,ag,ae,af⟩:=df Tryz.info_pair;obtain⟨H,ah⟩:=hh2 h h.lx;have au:=h.lt;obtain⟨lb,lx,vp,h1,h2,h3⟩:=h;have HL:=ar (Fy h1 lb lx);clear lb lx h1 h2 h3 vp;have ac:=ar (λ(k:Nat) (hk:k<3128)=>OT X k ah.out hk);generalize (aX X).toArray=Y at *;go_in;go_wp2_with(with_reducible refine gL 119 HL.out ?_);clear HL;go_loopg [3,10] 3128 (λgh s3 XA wx=>∃k:Nat,k+gh=3128/\XA= .int .i64 (k:Int)/\
  Hid (wx.ownsRow w.heap.size 82 2 s3 (dm B X k).length (je (dm B X k))/\ay [] w wx))
 case atStart=>exact⟨0,by omega,rfl,⟨rfl,.inl ⟨rfl,rfl⟩⟩,ay.refl _ _⟩
 case round=>
  obtain⟨k,hk,rfl,HR⟩:=hrel;cases gk with
  |zero=>
   obtain rfl:k=3128:=by omega
   have HM:Hid (mH w (dm B X 3128) (.returned u3) wr):=by
    obtain⟨hr,V⟩:=HR.out;obtain⟨g',ho,hb⟩:=fw.of_row hr;by_cases e:(dm B X 3128).length=0
    ·exact mH.mk (ho.anyG e w.heap.size) rfl (aI _) V
    ·exact mH.mk ho rfl (hb e).1 V
   clear hk;go_wp2;go_ret;exact HM.out
  |succ gg=>
   have aa:k<3128:=by omega
   have aj:(k:Int)<3128:=by omega
   have cM:(0:Int)<=(k:Int):=by omega
   obtain⟨U,V⟩:=HR.out;have c0:=(H.out.keep V).cell0 (i:=k) aa;have Ib:=ac.out k aa;have ai:=PU B X k;have ak:=V.size;obtain⟨J,jD⟩:=hh2 U V;clear U V HR;by_cases W:X.getD k 0=B.getD k 0
   ·have HD:=ar (Dz B X k W)
    have e1:(X.getD k 0 != B.getD k 0)=false:=by simpa using W
    clear W;generalize X.getD k 0=x,B.getD k 0=y at *;go_wp2;go_roundg gg;case measure=>omega
    case rel=>exact⟨k+1,by omega,by go_num,by rw[HD.out];exact J.out,jD.out⟩
   ·have HD:=ar (PT B X k W)
    have e1:(X.getD k 0 != B.getD k 0)=true:=by simpa using W
    clear W;generalize X.getD k 0=x,B.getD k 0=y at *;go_wp2_with(at_builtin;refine eO _ rfl _ _ 80 rfl w.heap.size 82 i0 (.agg #[(0:Int),.int .u64 0]) 2 16 underlying80 hi ag ae af rfl (by decide) u3 (dm B X k).length _ rfl (J.out.alloc _) ⟨wr.heap.size,0,none⟩ 1 1 [.int .i64 (k:Int),.int .u64 x] rfl rfl ?c1 ?c2 (by unfold maxLen;omega) (by omega) (by simp;omega) ?_);case c1=>exact lu _ [_,_] _ _ rfl
    case c2=>simp[Value.oneCell']
    intro v' w1 z G _;obtain⟨MI,jv⟩:=hh2 z ((jD.out.alloc _).grown G (dO J.out));clear z G;go_wp2;go_roundg gg;case measure=>omega
    case rel=>
     refine⟨k+1,by omega,by go_num,?_,jv.out⟩;have :=MI.out;rw[HD.out,aC,uz];exact this
theorem RA{z:Nat}{ps:List (Int×Int)}(h:eN w b z B ps):
  Calls prog 35 #[b] w (mH w (dm B (az B ps) 3128)):=OU h.raw
theorem nS.of_len(X:List Int)(qs:List (Int×Int)):nS X (az X qs) qs.length:=
 nS.puts (L:=qs.map λp=>p.1.toNat) (by rw[b7];exact aI _) λp h=>bH.2 ⟨p,h,rfl⟩
theorem ae2 (h:l6 X T own [] M){o:iP}(J:o.K=11){r:Int}{qs:List (Int×Int)}(V:C8 X o.N r qs)(hq:qs.length<=2):kY X M o { fh with E:=r } qs:=by
 have z:=aeZ (M:=M) J;rcases acw h V with ⟨rfl,G,-⟩|⟨rfl,G,W,-,U⟩
 ·rw[aA G] at z
  exact .inr (.inl ⟨by show(1:Int)≠0;omega,by rw[z]⟩)
 ·rw[aB G] at z
  exact .inr (.inr ⟨rfl,by rw[z];rfl,.inl (by rw[z];rfl),T,own,by rw[z];exact W.nd,λk hk _=>U k (by omega),(nS.of_len X qs).mono (by omega)⟩)
theorem Tu (h:l6 X T own [] M){o:iP}(V:o.K=12){r:Int}{qs:List (Int×Int)}(hs:qX X T r qs):
  (r≠0/\kY X M o { fh with E:=r } qs)\/(r=0/\(∀n:Int,n=0\/n=1->kY X M o { fh with N:=n } qs)/\∃J G,l6 (az X qs) J G [] M):=by
 have z:=acz (M:=M) V;rcases Zz h hs with ⟨rfl,-,U⟩|⟨rfl,J,G,U,h2,L,h3,W⟩
 ·exact .inl ⟨by omega,.inl ⟨rfl,by rw[V];rfl,.inl (by rw[z];rfl),.inl (by omega)⟩⟩
 ·exact .inr ⟨rfl,λn hn=> .inr (.inr ⟨rfl,by rw[z];rfl,.inr ⟨V,n,hn,by rw[z]⟩,J,G,by rw[z];exact U.nd,h2,L,by omega,W⟩),J,G,U⟩
theorem lF:tU fh (.slice none 0 0) (.slice none 0 0)= #[.int .i64 0,.int .i64 0,.int .i64 0,.int .i64 0,.int .i64 0,.slice none 0 0,.slice none 0 0]:=rfl
theorem lG{J:World}{T:Nat}{G:Array Value}(hb:bc W g G T)(U:G.size=7)(V:ay l W J)(hg:g∉l)(z:Int):
  ∃h,(storeVar 38 g (.agg #[z,(0:Int),(0:Int),(0:Int),(0:Int),(),()])).run prog J= .ok () h/\(loadVar 38 g).run prog h= .ok (.agg #[z,(0:Int),(0:Int),(0:Int),(0:Int),(),()]) h/\RsP h (cW z) #[z,(0:Int),(0:Int),(0:Int),(0:Int),(),()]/\ay [g] J h:=
 yA hb U V hg (r:=cW z) rfl rfl rfl
theorem acH (h:rz w b U B [] T own [] M)(hT:dB M){o:iP}{vp vq vd:Value}(hK:o.K=11):
  Calls prog 75 #[cC b o vp vq vd] w (fH w b U B (kY B M o)):=by
 obtain⟨W,hW,cM,jK,jI,aa⟩:=mq w (cC b o vp vq vd) (tU fh (.slice none 0 0) (.slice none 0 0));have HA:=ar (aeV (h.keep0 cM).shS (by simp) o.N);have G:=h.lt;have Ij:Hid (∀e V,cQ W b U B [] 2 (C8 (az B []) o.N) e V->∃r z,e=(r:Int)/\(storeVar 38 (w.heap.size+1:Nat) (.agg #[(r:Int),(0:Int),(0:Int),(0:Int),(0:Int),(),()])).run prog V= .ok () z/\(loadVar 38 (w.heap.size+1:Nat)).run prog z= .ok (.agg #[(r:Int),(0:Int),(0:Int),(0:Int),(0:Int),(),()]) z/\fH w b U B (kY B M o) (.returned (.agg #[(r:Int),(0:Int),(0:Int),(0:Int),(0:Int),(),()])) z):=λe V hp=>by
  have ac:=hp;obtain⟨r,qs,gG,rfl,h1,h2,h3,h4,h5⟩:=ac;obtain⟨z,s1,s2,s3,s4⟩:=lG jI rfl h3 (eF G (by omega)) r;refine⟨r,z,rfl,s1,s2,fH.some G cM (by omega) (Rq:=λr qs=>C8 (az B []) o.N r qs/\qs.length<=2) (m:=2) ⟨r,qs,gG,rfl,h1,h2,h3,h4,h5,h4⟩ (by omega) s4 s3 λqs hq=>ae2 (h.nd.snd hT) hK hq.1 hq.2⟩
 have c1:W.cell? w.heap.size=some (.pointer (some ⟨b,0,none⟩)):=by rw[jK.cell];rfl
 have c2:W.cell? ⟨w.heap.size,5,none⟩=some (.int .i64 o.N):=by rw[jK.cell];rfl
 have EU:=lD;clear h hT cM jK jI aa G;rw[lF] at *;generalize fH w b U B (kY B M o)=Q,cQ W b U B [] 2 (C8 (az B []) o.N)=SP,hJ:cC b o vp vq vd=J at *;clear hJ;go_in;go_wp2_with fail;refine HA.out.mono ?_;intro e V hp;obtain⟨r,z,rfl,s1,s2,s3⟩:=Ij.out e V hp;obtain⟨HS,HL,HF⟩:=hh3 s1 s2 s3;clear s1 s2 s3 hp Ij HA c1 c2 hW;go_wp2_with(with_reducible refine gS 38 HS.out ?_);exact aH (bu results75 rfl HL.out) rfl HF.out
theorem aaj (h:rz w b gp B [] T own [] M)(hT:dB M){o:iP}{vp vq vd:Value}(hK:o.K=12):
  Calls prog 76 #[cC b o vp vq vd] w (fH w b gp B (kY B M o)):=by
 obtain⟨W,hW,cM,jK,jI,hsz⟩:=mq w (cC b o vp vq vd) (tU fh (.slice none 0 0) (.slice none 0 0));have hS:=h.nd.snd hT;have HA:=ar (acv (h.keep0 cM).shS h.nd.st.all (h.keep0 cM).tab (by simp));have hlt:=h.lt
 -- where it lacks room
 have jT:Hid (∀r qs kQ w1,(kQ=gp\/(W.heap.size<=kQ/\kQ<w1.heap.size))->eN w1 b kQ B ([]++qs)->ay [b,gp] W w1->qs.length<=701->qX (az B []) T r qs->r≠0->vI (w.heap.size+1) #[(r:Int),(0:Int),(0:Int),(0:Int),(0:Int),(),()] (fH w b gp B (kY B M o)) w1):=λr qs kQ w1 h1 h2 h3 h4 h5 h0=>by
  obtain⟨wy,s1,s2,s3,s4⟩:=lG jI rfl h3 (eF hlt (by omega)) r;refine⟨wy,s1,s2,fH.some hlt cM (by omega) (Rq:=qX (az B []) T) (m:=701) ⟨r,qs,kQ,rfl,h1,h2,h3,h4,h5⟩ (by omega) s4 s3 λqs hq=> ?_⟩;rcases Tu hS hK hq with ⟨-,g⟩|⟨g,-⟩
  ·exact g
  ·exact absurd g h0
 have qU:Hid (∀qs kQ w1,(kQ=gp\/(W.heap.size<=kQ/\kQ<w1.heap.size))->eN w1 b kQ B ([]++qs)->ay [b,gp] W w1->qs.length<=701->qX (az B []) T 0 qs->
   ∃d:Bool,(Calls prog 131 #[b] w1 λe w'=>e=d/\w1=w')/\∀n:Int,n=0\/n=1->vI (w.heap.size+1) #[(0:Int),(n:Int),(0:Int),(0:Int),(0:Int),(),()] (fH w b gp B (kY B M o)) w1):=λqs kQ w1 h1 h2 h3 h4 h5=>by
  rcases Tu hS hK h5 with ⟨g,-⟩|⟨-,g,T',cY,g2⟩
  ·exact absurd rfl g
  ·refine⟨_,Te ((h.keep0 cM).go h2 h3 h1 g2.nd).shS,λn hn=> ?_⟩
   obtain⟨wy,s1,s2,s3,s4⟩:=yA (r:={ fh with N:=n }) jI rfl h3 (eF hlt (by omega)) rfl rfl rfl;exact⟨wy,s1,s2,fH.some hlt cM (by omega) (Rq:=λr qs=>kY B M o { fh with N:=n } qs) (m:=701) ⟨0,qs,kQ,rfl,h1,h2,h3,h4,g n hn⟩ (by omega) s4 s3 λqs hq=>hq⟩
 have c1:W.cell? w.heap.size=some (.pointer (some ⟨b,0,none⟩)):=by rw[jK.cell];rfl
 have HC:Hid (∀w1,ay [b,gp] W w1->w1.cell? w.heap.size=some (.pointer (some ⟨b,0,none⟩))):=λw1 hk=>by rw[(jK.keep hk (eF hlt (by omega))).cell];rfl
 have EU:=lD;clear h hT cM jK jI hsz hlt hS;rw[lF] at *;generalize fH w b gp B (kY B M o)=Q,qX (az B []) T=SP,hJ:cC b o vp vq vd=J at *;clear hJ;go_in;go_wp2_with fail;refine HA.out.mono ?_;rintro e w1 ⟨r,qs,kQ,rfl,h1,h2,h3,h4,h5⟩;by_cases h0:r=0
 ·subst h0
  obtain⟨d,HD,HR⟩:=qU.out qs kQ w1 h1 h2 h3 h4 h5;have c2:=HC.out w1 h3;have HD:=ar HD;cases d with
  |true=>
   obtain⟨wy,s1,s2,s3⟩:=HR 1 (.inr rfl);obtain⟨HS,HL,HF⟩:=hh3 s1 s2 s3;clear s1 s2 s3 HR jT qU HA h1 h2 h3 h4 h5 c1 HC hW;go_wp2_with fail;refine C' HD.out ?_;go_wp2_with(with_reducible refine gS 38 HS.out ?_);exact aH (bu results76 rfl HL.out) rfl HF.out
  |false=>
   obtain⟨wy,s1,s2,s3⟩:=HR 0 (.inl rfl);obtain⟨HS,HL,HF⟩:=hh3 s1 s2 s3;clear s1 s2 s3 HR jT qU HA h1 h2 h3 h4 h5 c1 HC hW;go_wp2_with fail;refine C' HD.out ?_;go_wp2_with(with_reducible refine gS 38 HS.out ?_);exact aH (bu results76 rfl HL.out) rfl HF.out
 ·obtain⟨wy,s1,s2,s3⟩:=jT.out r qs kQ w1 h1 h2 h3 h4 h5 h0
  obtain⟨HS,HL,HF⟩:=hh3 s1 s2 s3;have b1:(r != 0)=true:=by simpa using h0
  clear s1 s2 s3 jT qU HA h1 h2 h3 h4 h5 h0 c1 HC hW;go_wp2_with(with_reducible refine gS 38 HS.out ?_);exact aH (bu results76 rfl HL.out) rfl HF.out
theorem Di (h:nC X T own [] M){i:Nat}(U:(M i).K≠0):(nT T i).S=(((M i).D.length+(M i).E.length:Nat):Int):=by
 have G:=h.store U;have V:=h.kind i;rw[<-h.ents i,h.abs i];show _=((((if (nT T i).K=1 then pW X (nT T i) else []).length+(nT T i).E.length:Nat)):Int);rcases G.right.2.2 with ⟨J,z⟩|⟨J,z⟩
 ·rw[aB J,mM,z.2.1]
  have :=z.1;omega
 ·rw[aA,z.2.1]
  simp
theorem aak (h:rz w b gp B [] T own [] M)(hT:dB M){o:iP}{vp vq vd:Value}{g:Nat}(hP:fU w vp g o.P)(hs:∀s∈o.P,s.size<=9223372036854775807)(hK:o.K=10):
  Calls prog 74 #[cC b o vp vq vd] w (fH w b gp B (kY B M o)):=by
 obtain⟨W,hW,cM,jK,jI,aa⟩:=mq w (cC b o vp vq vd) (tU fh (.slice none 0 0) (.slice none 0 0));have Ga:=ar (Dg (vq:=vq) (vd:=vd) (h.keep0 cM) hT (hP.keep cM) hs);have af:=h.lt;obtain⟨fG,lJ,lN⟩:=hh3 cM aa (jC jK);have rh:Hid ((cO M o.P).2≠0->∀z,ay [] W z->vI (w.heap.size+1) #[.int .i64 (cO M o.P).2,(0:Int),(0:Int),(0:Int),(0:Int),(),()] (fH w b gp B (kY B M o)) z):=λac z hk=>by
  obtain⟨wy,s1,s2,s3,s4⟩:=lG jI rfl hk (by simp) (cO M o.P).2;exact⟨wy,s1,s2,fH.none h ((cM.trans' hk).trans s4 (by intro y hy;rw[au] at hy;omega)) s3 (.inr (.inl ⟨ac,Ko (.inr hK) ac⟩))⟩
 have qU:Hid ((cO M o.P).2=0->(nT T (cO M o.P).1).B.length=13/\∀z,ay [] W z->vI (w.heap.size+1) #[(0:Int),.int .i64 (nT T (cO M o.P).1).S,.int .i64 (nT T (cO M o.P).1).K,.int .i64 (nT T (cO M o.P).1).L,((cO M o.P).1:Int),(),()] (fH w b gp B (kY B M o)) z):=λhe=>by
  have hk:=(nL hT he).1;refine⟨(h.nd.store hk).len,λz yQ=> ?_⟩;obtain⟨wy,s1,s2,s3,s4⟩:=yA (r:={ fh with N:=(nT T (cO M o.P).1).S,K:=(nT T (cO M o.P).1).K,L:=(nT T (cO M o.P).1).L,I:=((cO M o.P).1:Int) }) jI rfl yQ (by simp) rfl rfl rfl;refine⟨wy,s1,s2,fH.none h ((cM.trans' yQ).trans s4 (by intro y hy;rw[au] at hy;omega)) s3 (.inr (.inr ⟨rfl,?_,?_,?_⟩))⟩
  ·rw[BL (.inr hK)];show(zN M o).E=0;unfold zN;rw[aA,aB hK];rfl
  ·left
   rw[BL (.inr hK)];show _=zN M o;unfold zN;rw[aA,aB hK,Di h.nd hk,h.nd.kind,h.nd.links]
  ·rw[BL (.inr hK)];exact h.nd.stay
 have EU:=lD;have rq:=dC;clear h hT hP hs cM jK jI aa af;unfold AE at Ga;rw[lF] at *;generalize fH w b gp B (kY B M o)=Q,cO M o.P=R,ae:aL bY (.slice none 0 0)=Z0 at *;have jt:=ar ae;generalize hJ:cC b o vp vq vd=J at *;clear hJ ae;obtain⟨x,ee⟩:=R
 dsimp only at *
 go_in;go_wp2_with(with_reducible refine gL 91 lN.out ?_);refine Ga.out.mono ?_;rintro e z ⟨G,⟨he,rfl⟩|⟨rfl,v,g,rfl,hE,hg⟩⟩
 ·obtain⟨V,q1,q2,q3⟩:=cr (n:=bY) (v:= .slice none 0 0) (bc.new z Z0 75) (by rw[<-jt.out];rfl) rfl rfl
  have eP:ay [] z V:=((ay.refl _ _).alloc _).trans q3 (by intro x hx;rw[au] at hx;omega);obtain⟨wy,s1,s2,s3⟩:=rh.out he V (G.trans' eP);rw[jt.out] at q1;obtain⟨jh,HS,HL,HF⟩:=hh4 q1 s1 s2 s3;have b1:(ee != 0)=true:=by simpa using he
  clear hW q1 q2 q3 G eP s1 s2 s3 he rh qU Ga fG lJ lN jt;go_wp2_with(with_reducible first|refine gS 75 jh.out ?_|refine gS 38 HS.out ?_);exact aH (bu results74 rfl HL.out) rfl HF.out
 ·obtain⟨U,JB⟩:=qU.out rfl
  generalize nT T x=n at *;obtain⟨V,q1,q2,q3⟩:=cr (n:=n) (v:=v) (bc.new z Z0 75) (by rw[<-jt.out];rfl) U hE.one;have eP:ay [] z V:=((ay.refl _ _).alloc _).trans q3 (by intro x hx;rw[au] at hx;omega);obtain⟨wy,s1,s2,s3⟩:=JB V (G.trans' eP);have c1:V.cell? ⟨z.heap.size,1,none⟩=some (.int .i64 n.K):=by rw[q2.cell];exact(fT v U).f1
  have c2:V.cell? ⟨z.heap.size,2,none⟩=some (.int .i64 n.L):=by rw[q2.cell];exact(fT v U).f2
  have c3:V.cell? ⟨z.heap.size,3,none⟩=some (.int .i64 n.S):=by rw[q2.cell];exact(fT v U).f3
  obtain⟨jh,HS,HL,HF⟩:=hh4 q1 s1 s2 s3;clear hW q1 q2 q3 G eP s1 s2 s3 rh qU Ga fG lJ lN jt JB hE hg;generalize aL n v=Zn,n.K=nk,n.L=nl,n.S=ns,(x:Int)=xi at *;go_wp2_with(with_reducible first|refine gS 75 jh.out ?_|refine gS 38 HS.out ?_);exact aH (bu results74 rfl HL.out) rfl HF.out
theorem aal (h:rz w b gp B [] T own [] M)(hT:dB M){o:iP}{vp vq vd:Value}{g:Nat}(hP:fU w vp g o.P)(hs:∀s∈o.P,s.size<=9223372036854775807)(hK:o.K=9):
  Calls prog 73 #[cC b o vp vq vd] w (fH w b gp B (kY B M o)):=by
 obtain⟨W,hW,cM,jK,jI,ae⟩:=mq w (cC b o vp vq vd) (tU fh (.slice none 0 0) (.slice none 0 0));have Ga:=ar (Dg (vq:=vq) (vd:=vd) (h.keep0 cM) hT (hP.keep cM) hs);have ah:=h.lt;obtain⟨fG,lJ,lN⟩:=hh3 cM ae (jC jK);have OV:(cO M o.P).2=0->iJ M o=(M,if (M (cO M o.P).1).K≠2 then cW 4 else { fh with S:=(M (cO M o.P).1).E }):=λU=>by
  rw[BL (.inl hK)];unfold zN;rw[aA,aA (c:=o.K=10) (by omega)]
 have rh:Hid (∀r,r≠0->(iJ M o).2=cW r->∀z,ay [] W z->vI (w.heap.size+1) #[(r:Int),(0:Int),(0:Int),(0:Int),(0:Int),(),()] (fH w b gp B (kY B M o)) z):=λr aa hd z hk=>by
  obtain⟨wy,s1,s2,s3,s4⟩:=lG jI rfl hk (by simp) r;exact⟨wy,s1,s2,fH.none h ((cM.trans' hk).trans s4 (by intro y hy;rw[au] at hy;omega)) s3 (.inr (.inl ⟨aa,hd⟩))⟩
 have tP:Hid ((cO M o.P).2≠0->(iJ M o).2=cW (cO M o.P).2):=λaa=>Ko (.inl hK) aa
 have ry:Hid ((cO M o.P).2=0->(nT T (cO M o.P).1).K≠2->(iJ M o).2=cW 4):=λU hk=>by rw[OV U];show(if _ then _ else _)=_;rw[aB (by rw[<-h.nd.kind];exact hk)]
 have qU:Hid ((cO M o.P).2=0->(nT T (cO M o.P).1).B.length=13/\((nT T (cO M o.P).1).K=2->∀z v g,ay [] W z->bD z v g (nT T (cO M o.P).1).E->W.heap.size<=g->vI (w.heap.size+1) #[(0:Int),(0:Int),(0:Int),(0:Int),(0:Int),(),v] (fH w b gp B (kY B M o)) z)):=λU=>by
  have hk:=(nL hT U).1;refine⟨(h.nd.store hk).len,λai z v g yQ hE hg=> ?_⟩;have JI:Db z { fh with S:=(nT T (cO M o.P).1).E } #[(0:Int),(0:Int),(0:Int),(0:Int),(0:Int),(),v]:=⟨.slice none 0 0,v,rfl,⟨0,tM _ _⟩,g,hE⟩;obtain⟨wy,s1,s2,s3⟩:=yu (jI.keep yQ) rfl JI;have af:tO w.heap.size wy { fh with S:=(nT T (cO M o.P).1).E } #[(0:Int),(0:Int),(0:Int),(0:Int),(0:Int),(),v]:=⟨.slice none 0 0,v,rfl,⟨0,tM _ _,λh=>absurd rfl h⟩,g,hE.keep s3 (λ_=>by rw[au];omega),λ_=>by omega⟩;refine⟨wy,s1,wQ s2 af.at,fH.noneAt h ((cM.trans' yQ).trans s3 (by intro y hy;rw[au] at hy;omega)) af (.inr (.inr ⟨rfl,?_,.inl ?_,?_⟩))⟩
  ·rw[OV U];show(if _ then _ else _:lX).E=0;rw[aA (by rw[<-h.nd.kind];omega)];rfl
  ·rw[OV U];show _=(if _ then _ else _:lX);rw[aA (by rw[<-h.nd.kind];omega),h.nd.ents]
  ·rw[OV U];exact h.nd.stay
 have EU:=lD;have rq:=dC;clear h hT hP hs cM jK jI ae ah OV;unfold AE at Ga;rw[lF] at *;generalize fH w b gp B (kY B M o)=Q,cO M o.P=R,ag:aL bY (.slice none 0 0)=Z0 at *;have jt:=ar ag;generalize hJ:cC b o vp vq vd=J at *;clear hJ ag;obtain⟨x,ee⟩:=R
 dsimp only at *
 go_in;go_wp2_with(with_reducible refine gL 91 lN.out ?_);refine Ga.out.mono ?_;rintro e z ⟨G,⟨U,rfl⟩|⟨rfl,v,g,rfl,hE,hg⟩⟩
 ·obtain⟨V,q1,q2,q3⟩:=cr (n:=bY) (v:= .slice none 0 0) (bc.new z Z0 75) (by rw[<-jt.out];rfl) rfl rfl
  have eP:ay [] z V:=((ay.refl _ _).alloc _).trans q3 (by intro x hx;rw[au] at hx;omega);obtain⟨wy,s1,s2,s3⟩:=rh.out ee U (tP.out U) V (G.trans' eP);rw[jt.out] at q1;obtain⟨jh,HS,HL,HF⟩:=hh4 q1 s1 s2 s3;have b1:(ee != 0)=true:=by simpa using U
  clear hW q1 q2 q3 G eP s1 s2 s3 U rh tP ry qU Ga fG lJ lN jt;go_wp2_with(with_reducible first|refine gS 75 jh.out ?_|refine gS 38 HS.out ?_);exact aH (bu results73 rfl HL.out) rfl HF.out
 ·obtain⟨ac,JB⟩:=qU.out rfl
  have ry:=ar (ry.out rfl);generalize nT T x=n at *;obtain⟨V,q1,q2,q3⟩:=cr (n:=n) (v:=v) (bc.new z Z0 75) (by rw[<-jt.out];rfl) ac hE.one;have eP:ay [] z V:=((ay.refl _ _).alloc _).trans q3 (by intro x hx;rw[au] at hx;omega);have c1:V.cell? ⟨z.heap.size,1,none⟩=some (.int .i64 n.K):=by rw[q2.cell];exact(fT v ac).f1
  have c2:V.cell? ⟨z.heap.size,17,none⟩=some v:=by rw[q2.cell];exact(fT v ac).f5
  have jh:=ar q1;by_cases h2:n.K=2
  ·obtain⟨sa,sc,rfl,-⟩:=id hE
   obtain⟨wy,s1,s2,s3⟩:=JB h2 V _ g (G.trans' eP) (hE.keep eP) hg;obtain⟨HS,HL,HF⟩:=hh3 s1 s2 s3;rw[h2] at c1;clear hW q1 q2 q3 G eP s1 s2 s3 rh tP ry qU Ga fG lJ lN jt JB hE hg h2;generalize aL n _=Zn,n.E.length=el at *;go_wp2_with(with_reducible first|refine gS 75 jh.out ?_|refine gS 38 HS.out ?_);exact aH (bu results73 rfl HL.out) rfl HF.out
  ·obtain⟨wy,s1,s2,s3⟩:=rh.out 4 (by omega) (ry.out h2) V (G.trans' eP)
   obtain⟨HS,HL,HF⟩:=hh3 s1 s2 s3;have b2:(n.K != 2)=true:=by simpa using h2
   clear hW q1 q2 q3 G eP s1 s2 s3 rh tP ry qU Ga fG lJ lN jt JB hE hg h2;generalize aL n v=Zn,n.K=nk at *;go_wp2_with(with_reducible first|refine gS 75 jh.out ?_|refine gS 38 HS.out ?_);exact aH (bu results73 rfl HL.out) rfl HF.out
def Dj:Nat->Nd:=na (λ_=>vQ) 0 ⟨2,1,[],[]⟩
theorem V9:Dj 0=⟨2,1,[],[]⟩:=rfl
theorem tQ{i:Nat}(h:i≠0):Dj i=vQ:=aA h
theorem Dk (i:Nat):(Dj i).E=[]:=by
 by_cases h:i=0
 ·rw[h];rfl
 ·rw[tQ h];rfl
theorem Wa:dB Dj where
 out i hi:=tQ (by omega)
 kind i:=by
  by_cases h:i=0
  ·rw[h];exact .inr (.inr ⟨rfl,rfl⟩)
  ·exact .inl (tQ h)
 root:=rfl
 lead i e he:=by rw[Dk] at he;cases he
 rises i:=by rw[Dk];exact List.Pairwise.nil
 links i hi:=by
  have hl:∀k j,lf Dj k j=0:=λk=>by
   induction k with
   |zero=>intro j;rfl
   |succ k ih=>intro j;rw[lf,ih,Dk];rfl
  by_cases h:i=0
  ·rw[h,hl]
   exact⟨λh1=>by rw[V9] at h1;simp at h1,λ_=>⟨rfl,λ_=>rfl,λh2=>absurd rfl h2⟩⟩
  ·rw[tQ h]
   exact⟨λh1=>by simp[vQ] at h1,λh1=>by simp[vQ] at h1⟩
 reach i hi:=by
  by_cases h:i=0
  ·rw[h];exact .here
  ·rw[tQ h] at hi;exact absurd rfl hi
theorem yB (k:Nat):(kN []).getD k 0=0:=by rw[uK];split<;>rfl
def zy (f:Int):List (Int×Int):=[(1,f),(2,0),(0,7596835243318849792),(2,32)]
theorem wR (f:Int)(k:Nat):(az (kN []) (zy f)).getD k 0=if k=2 then 32 else if k=0 then 7596835243318849792 else if k=1 then f else 0:=by
 have e:az (kN []) (zy f)=((((kN []).set 1 f).set 2 0).set 0 7596835243318849792).set 2 32:=rfl;have J:=iw [];rw[e,jg _ _ _ _ (by simp only[dg];omega),jg _ _ _ _ (by simp only[dg];omega),jg _ _ _ _ (by simp only[dg];omega),jg _ _ _ _ (by omega),yB];by_cases z:k=2
 ·subst z;rfl
 ·by_cases h:k=0
  ·subst h;rfl
  ·by_cases G:k=1
   ·subst G;rfl
   ·rw[aA,aA,aA,aA,aA z,aA h,aA G]
theorem ae3 (f:Int):(az (kN []) (zy f)).length=3128:=by rw[cy,iw]
theorem LP (f:Int){i:Nat}(z:i<32):dR (az (kN []) (zy f)) (i:Int):=by
 have h:∀j:Fin 32,dR (kN []) ((j.val:Nat):Int):=by decide+kernel
 refine(h ⟨i,z⟩).same λj G=> ?_
 rw[wR,yB,aA,aA,aA]
theorem Tv (f:Int)(c:Nat):dn (az (kN []) (zy f)) c=false:=by
 unfold dn bw;rw[wR,aA,aA,aA];exact Nat.zero_testBit _
theorem acI (f:Int):(aY (az (kN []) (zy f))).length=255:=by
 have h:(aY (kN [])).length=255:=by decide+kernel
 have e:aY (az (kN []) (zy f))=aY (kN []):=uE λc _ _=>by
  rw[Tv];unfold dn bw;rw[yB];exact(Nat.zero_testBit _).symm
 rw[e];exact h
theorem BP (i:Nat):nT acg i=bY:=by
 unfold nT acg;rw[aj,bB];split<;>rfl
theorem OW (b:Nat):∀k,jZ acg (λ_=>[]) k b=0
 |0=>rfl
 |k+1=>by
  rw[jZ,OW b k,BP,uv];rfl
theorem adt (U:f=1\/f=2):nC (az (kN []) (zy f)) acg (λ_=>[]) [] (λ_=>vQ):=by
 refine⟨⟨ae3 f,λk=> ?_,⟨?_,?_,?_,λi z G=> ?_,λi z G=> ?_⟩,⟨rfl,λi z=> .inr ⟨λn o J=>J.notFree (LP f z),BP i,rfl⟩⟩,λi z=> .inl (LP f z),λb _=> ?_,by simp,λi _=> ?_,rfl,λj=> .inl rfl⟩,λi=> ?_⟩
 ·rw[wR]
  split
  ·omega
  ·split
   ·omega
   ·split<;>omega
 ·rw[wR];rfl
 ·rw[wR];exact U
 ·rw[wR,aB rfl];omega
 ·rw[wR,aA,aA,aA]
 ·rw[wR,aA,aA,aA]
 ·rw[Tv]
  unfold xu;rw[OW];simp
 ·rw[BP]
  intro h;exact absurd h (by decide)
 ·rw[BP,Zk]
def zR (f:Int):bS:=⟨f,2,1,0,List.replicate 13 0,[]⟩
theorem RB (h:f=1\/f=2):cm (zR f):=by rcases h with rfl|rfl<;>decide+kernel
theorem Wb (h:f=1\/f=2):dA (zR f)=0:=by rcases h with rfl|rfl<;>decide+kernel
theorem RD (f:Int):dv (zR f)=[]:=rfl
theorem acJ (G:f=1\/f=2){r:Int}{qs:List (Int×Int)}(hp:nK (az (kN []) (zy f)) 0 (zR f) r qs):
  r=0/\∃T own,l6 (az (kN []) (zy f++qs)) T own [] Dj/\(aY (az (kN []) (zy f++qs))).length=255/\(az (kN []) (zy f++qs)).getD 8 0=0:=by
 have hR:=RB G;have hN:=Wb G;have hF:dR (az (kN []) (zy f)) ((0:Nat):Int):=LP f (by omega);have U:=adt G;rw[br];rcases hp with ⟨-,z,-⟩|⟨-,-,z,-⟩|⟨own,-,W,z⟩
 ·exact absurd ⟨by omega,hR⟩ z
 ·exact absurd hF z
 ·have W:own=[]:=by
   rcases W with V|⟨m,V⟩
   ·exact V.2
   ·exact absurd hF V.notFree
  subst W;rcases z with ⟨-,z,-⟩|⟨h0,z,rfl⟩
  ·rw[hN] at z;omega
  ·obtain⟨cY,h3,h4,J,h6,-⟩:=U.putAt (i:=0) (by omega) (n:=zR f) rfl hR z (ex':=[]) (λb _=>by rw[BP,uv,RD]) (by simp) (λh=>absurd h (by show ¬(2:Int)=1;omega))
   rw[hN] at J;have h7:na (λ_=>vQ) 0 (sA (az (kN []) (zy f)) (zR f))=Dj:=rfl;rw[h7] at h3;refine⟨h0,_,cY,h3.snd Wa,?_,?_⟩
   ·rw[acI] at J
    exact J
   ·have :=h6 8 (by omega)
    rw[wR] at this;exact this
theorem l6.journal{Y:List Int}(h:l6 X T own [] M)(V:Y.length=3128)(z:In64 Y)(G:∀k,k<3128->(k<8\/816<=k)->Y.getD k 0=X.getD k 0):
  l6 Y T own [] M/\aY Y=aY X:=by
 obtain⟨J,U⟩:=h.st.journal V z G;refine⟨⟨J,λj=>by rw[h.abs,h.st.nodes U (by simp)],h.tree⟩,uE λc W _=> ?_⟩;unfold dn bw;rw[G _ (by omega) (by omega)]
def RF (X:List Int) (M:Nat->Nd):Prop:=X.getD 8 0=0/\∃T own,l6 X T own [] M
theorem RF.len(h:RF X M):X.length=3128:=by obtain⟨-,T,own,h⟩:=h;exact h.st.len
theorem RF.w64(h:RF X M):In64 X:=by obtain⟨-,T,own,h⟩:=h;exact h.st.w64
theorem RF.tree(h:RF X M):dB M:=by obtain⟨-,T,own,h⟩:=h;exact h.tree
theorem RF.few(h:RF X M):mW M:=by obtain⟨-,T,own,h⟩:=h;exact h.few
theorem RF.lands{M':Nat->Nd}(h:RF X M){qs:List (Int×Int)}(hl:zQ X qs M')(hT:dB M'):
  okP (dm X (az X qs) 3128)/\AQ (dm X (az X qs) 3128)=true/\(dm X (az X qs) 3128).length<=400/\RF (nG X (dm X (az X qs) 3128)) M'/\
   ∀Z:List Int,Z.length=3128->In64 Z->(∀k,k<3128->(k<8\/816<=k)->Z.getD k 0=(az X qs).getD k 0)->∃T own,l6 Z T own [] M':=by
 obtain⟨h8,T,own,W⟩:=h;obtain⟨V,U,hn,hj,L,hL,G⟩:=hl;have z:(dm X (az X qs) 3128).length<=400:=cL (acs G) hL;have J:=hn.snd hT;obtain⟨c1,c2,c3,c4,c5,c6⟩:=Oy W.st.len W.st.w64 J.st.w64 hj h8 z;exact⟨c1,c2,z,⟨c5,V,U,(J.journal c3 c4 c6).1⟩,λZ z1 z2 z3=>⟨V,U,(J.journal z1 z2 z3).1⟩⟩
theorem aam{T:Nat}{h:Value}(z:bc w g (pJ o h vq vd) T):(loadVar 42 g).run prog w= .ok (.agg #[o.K,h,vq,o.O,o.N,vd]) w:=
 bX g 0 [.int .i64 o.K,h,vq,.int .i64 o.O,.int .i64 o.N,vd] underlying42 rfl (by kernel_rfl) λj _=>by
  rw[z.cell,bp,<-aG];rfl
def DoP (w:World) (X:List Int) (M:Nat->Nd) (o:iP) (ks:List Nat) (C:List (Int×Int)->Int->World->Prop) (e:Ending) (w':World):Prop:=
 ∃r Z,e= .returned (.agg Z)/\tO w.heap.size w' r Z/\
  ((ay [] w w'/\r.E≠0/\∃h qs,kY X M o h qs/\r=cW h.E)\/
  (ay ks w w'/\∃h qs x,kY X M o h qs/\h.E=0/\C (dm X (az X qs) 3128) x w'/\((x=0/\r=h)\/(x≠0/\r=cW x))))
theorem kY.E_zero{qs:List (Int×Int)}(h:kY X M o r qs)(G:r.E=0):(iJ M o).2.E=0/\aeY o r (iJ M o).2/\zQ X qs (iJ M o).1:=by
 rcases h with ⟨z,-⟩|⟨z,-⟩|⟨-,V,U,J⟩
 ·omega
 ·exact absurd G z
 ·exact⟨V,U,J⟩
theorem acK{f:Nat}{vp:Value}{ks:List Nat}{C:List (Int×Int)->Int->World->Prop}
  (aS:LO M o) (hf:aai w f b) (h:fM w b gn gl gf s) (hX:s.now=X) (hp:∀k:Nat,k<s.now.length->s.refusal (k:Int)=0/\s.load (k:Int)=s.now.getD k 0) (hs:RF X M) (hT:ku w) (hI:BO w o vp vq vd) (ac:∀y∈ks,y<w.heap.size)
  (hC:∀ps x wa wb l,(∀y∈l,w.heap.size<=y)->ay l wa wb->C ps x wa->C ps x wb)
  (aY:∀w1 v g qs U,ay [] w w1->kY X M o U qs->U.E=0->ni w1 v g (dm X (az X qs) 3128)->w.heap.size<=g->Calls prog 34 #[b,v] w1 λe w2=>∃x,e=(x:Int)/\ay ks w1 w2/\C (dm X (az X qs) 3128) x w2):
  Calls prog 11 #[f,pJ o vp vq vd] w (DoP w X M o ks C):=by
 have bj:=hf.lt;obtain⟨W,hW⟩:∃W,(w.alloc (.cells (pJ o vp vq vd) 42)).alloc (.cells (tU fh (.slice none 0 0) (.slice none 0 0)) 38)=W:=⟨_,rfl⟩;have cM:ay [] w W:=by rw[<-hW];exact((ay.refl _ _).alloc _).alloc _
 have aR:bc W w.heap.size (pJ o vp vq vd) 42 :=by rw[<-hW];exact(bc.new w _ _).alloc _
 have jI:bc W (w.heap.size+1) (tU fh (.slice none 0 0) (.slice none 0 0)) 38 :=by rw[<-hW];exact bc.new2 w _ _ _ _
 have aL:W.heap.size=w.heap.size+2:=by rw[<-hW,aU,aU]
 have HW:=ar hW
 -- what the calls leave
 have ax:Hid (∀wx l,(∀y∈l,w.heap.size<=y)->ay l W wx->wx.cell? f=some (.pointer (some ⟨b,0,none⟩))):=λwx l hl hk=>by
  have h1:bc W f _ _:=hf.keep cM;have h2:=h1.keep hk (λhm=>by have :=hl f hm;omega);rw[h2.cell];rfl
 have c0:=ax.out W [] (by simp) (ay.refl _ _);have mO:=ar (Hs (h.keep cM) hp);rw[hX] at mO;have OS:kN X=X:=by
  apply cX (by rw[iw,hs.len]);intro k h1 h2;have :=uK X k;rw[iw] at h1;rw[aj,aD (by rw[iw];exact h1),eZ] at this;rw[this,aB h1,aj,aD h2];rfl
 have aN:=ar OS;have vP:Hid (∀w2 G,ay [] W w2->w.heap.size+2<=G->eN w2 G G X []->Calls prog 33 #[cC G o vp vq vd] w2 λe w'=>∃fn,e= .returned (.func (.func fn) #[cC G o vp vq vd] #[])/\ay [] w2 w'/\(∀wx,(callFunc fn #[cC G o vp vq vd]).run prog wx= .ok (.enter fn #[cC G o vp vq vd]) wx)/\Calls prog fn #[cC G o vp vq vd] w' (fH w' G G X (kY X M o))):=λw2 G hk hb aa=>by
  obtain⟨-,T,own,Il⟩:=id hs;have bh:rz w2 G G X [] T own [] M:=⟨aa,by rw[zU];exact Il.nd,⟨aa.raw.lt,aa.raw.lt⟩,λwx hx=>hT.keep ((cM.trans' hk).trans hx λy V=> .inr (by simp only[aM,aK,bC,or_self] at V;omega))⟩;refine(aS w2 G G X T own vp vq vd bh hs.tree ((hI.keep cM).keep hk)).mono ?_;rintro e w' ⟨fn,rfl,h1,ah,h2⟩;exact⟨fn,rfl,h1,ah,h2 w' h1⟩
 have FX:Hid (∀w5 (G gp:Nat) qs U,ay [] W w5->eN w5 G gp X qs->kY X M o U qs->U.E=0->∀wx,ay [] w5 wx->Calls prog 35 #[(G:Nat)] wx λe w6=>∃a n cap,e= .returned (.slice a n cap)/\w6.cell? f=some (.pointer (some ⟨b,0,none⟩))/\
   Hid (Calls prog 34 #[b,.slice a n cap] w6 λe z=>∃x,e=(x:Int)/\Hid (ay ks w5 z/\C (dm X (az X qs) 3128) x z))):=λw5 G gp qs U hk aa hO h0 wx yQ=>by
  refine(RA (aa.keep yQ)).mono ?_;rintro e w6 ⟨v,g,rfl,hr,hg,jE⟩;obtain⟨a,cap,rfl,-,-⟩:=hr.val;have OX:=yQ.trans' jE;refine⟨a,_,cap,rfl,ax.out w6 [] (by simp) (hk.trans' OX),?_⟩;have h1:=aY w6 _ g qs U (cM.trans' (hk.trans' OX)) hO h0 hr (by have :=yQ.size;have :=hk.size;omega);show Calls _ _ _ _ _;refine h1.mono ?_;rintro e z ⟨x,rfl,h2,h3⟩;exact⟨x,rfl,(OX.mono).trans' h2,h3⟩
 -- an error, and what is told
 have rh:Hid (∀w5 l U qs,ay l W w5->(∀y∈l,w.heap.size+2<=y)->kY X M o U qs->U.E≠0->vI (w.heap.size+1) #[U.E,(0:Int),(0:Int),(0:Int),(0:Int),(),()] (DoP w X M o ks C) w5):=λw5 l U qs hk hl hO h0=>by
  obtain⟨wy,s1,s2,s3,s4⟩:=lG jI rfl hk (λhm=>by have :=hl _ hm;omega) U.E;refine⟨wy,s1,s2,cW U.E,_,rfl,s3 _,.inl ⟨?_,h0,U,qs,hO,rfl⟩⟩;have :=(cM.trans hk (λy V=> .inr (by have :=hl y V;omega))).trans s4 (l':=[w.heap.size+1]) (λy V=> .inr (by rw[au] at V;omega));exact this
 have aF:Hid (∀w5 z l U qs x,ay l W w5->(∀y∈l,w.heap.size+2<=y)->ay ks w5 z->kY X M o U qs->U.E=0->C (dm X (az X qs) 3128) x z->x≠0->vI (w.heap.size+1) #[(x:Int),(0:Int),(0:Int),(0:Int),(0:Int),(),()] (DoP w X M o ks C) z):=λw5 z l U qs x hk hl EN hO h0 hc hx=>by
  have L6:=(jI.keep hk (λhm=>by have :=hl _ hm;omega)).keep EN (λhm=>by have :=ac _ hm;omega);obtain⟨wy,s1,s2,s3,s4⟩:=lG L6 rfl (ay.refl [] z) (by simp) x;refine⟨wy,s1,s2,cW x,_,rfl,s3 _,.inr ⟨?_,U,qs,x,hO,h0,hC _ _ z wy _ (by intro y V;rw[au] at V;omega) s4 hc,.inr ⟨hx,rfl⟩⟩⟩;have h1:ay [] w w5:=cM.trans hk (λy V=> .inr (by have :=hl y V;omega));exact((h1.mono).trans' EN).trans s4 (λy V=> .inr (by rw[au] at V;omega))
 have qU:Hid (∀w4 w5 z l U Z qs,ay l W w4->(∀y∈l,w.heap.size+2<=y)->tO (w.heap.size+2) w4 U Z->ay [w4.heap.size] w4 w5->bc w5 w4.heap.size Z 38->ay ks w5 z->kY X M o U qs->U.E=0->C (dm X (az X qs) 3128) 0 z->
   (loadVar 38 w4.heap.size).run prog z= .ok (.agg Z) z/\vI (w.heap.size+1) Z (DoP w X M o ks C) z):=λw4 w5 z l U Z qs hk hl hr rE rQ EN hO h0 hc=>by
  have bl:=hk.size;have bb:tO (w.heap.size+2) w5 U Z:=by
   obtain⟨ad,ae,e,⟨g1,a1,a2⟩,g2,b1,b2⟩:=hr;refine⟨ad,ae,e,⟨g1,?_,a2⟩,g2,?_,b2⟩
   ·by_cases hD:U.D=[]
    ·rw[hD] at a1 ⊢
     obtain⟨x1,x2,x3,x4,x5,-⟩:=a1;exact⟨x1,x2,x3,x4,x5,λh=>absurd rfl h⟩
    ·exact a1.keep rE (λhm=>by
      rw[au] at hm;obtain⟨_,_,_,_,_,x6⟩:=a1;have :=(x6 (by intro e;apply hD;simpa[ky] using e)).1;omega)
   ·refine b1.keep rE (λhn hm=> ?_)
    rw[au] at hm;obtain⟨_,_,_,_,_,x6⟩:=b1;have :=(x6 hn).1;omega
  have L6:=rQ.keep EN (λhm=>by have :=ac _ hm;omega);have ai:=bb.keep EN (λx hx=>by have :=ac x hx;omega);have bg:=((jI.keep hk (λhm=>by have :=hl _ hm;omega)).keep rE (by rw[au];omega)).keep EN (λhm=>by have :=ac _ hm;omega);obtain⟨wy,s1,s2,s3⟩:=yu bg rfl ai.at;have aP:=ai.keep s3 (λx hx=>by rw[au] at hx;omega);refine⟨wQ L6 ai.at,wy,s1,wQ s2 aP.at,U,Z,rfl,aP.mono (by omega),.inr ⟨?_,U,qs,0,hO,h0,hC _ _ z wy _ (by intro y V;rw[au] at V;omega) s3 hc,.inl ⟨rfl,rfl⟩⟩⟩;have h1:ay [] w w5:=(cM.trans hk (λy V=> .inr (by have :=hl y V;omega))).trans rE (λy V=> .inr (by rw[au] at V;omega));exact((h1.mono).trans' EN).trans s3 (λy V=> .inr (by rw[au] at V;omega))
 have JO:Hid (∀wx,ay [] W wx->(loadVar 42 w.heap.size).run prog wx= .ok (.agg #[o.K,vp,vq,o.O,o.N,vd]) wx):=λwx hk=>aam (aR.keep hk)
 have lJ:=ar aL;have EU:=lD;clear aS h hX hp hs hT hI ac hC aY hf bj cM aR jI aL OS;rw[lF] at hW EU;generalize DoP w X M o ks C=Q at *;unfold pJ at hW;show Calls _ _ #[f,.agg #[o.K,vp,vq,o.O,o.N,vd]] w Q;go_in;go_wp2_with fail;refine mO.out.mono ?_;rintro e w1 ⟨v,g,rfl,hr,hg,aW⟩;have HN:=A0 hr;rw[aN.out] at HN;obtain⟨HN,jv⟩:=hh2 HN aW;clear hr hg aW mO aN hW c0;go_wp2_with fail;refine HN.out.mono ?_;rintro e w2 ⟨G,rfl,bk,aa,aZ⟩;have uB:=jv.out.trans' aZ;have aA:w.heap.size+2<=G:=by have :=jv.out.size;have :=lJ.out;omega
 obtain⟨HD,aT,fC⟩:=hh3 (vP.out w2 G uB aA aa) (JO.out w2 uB) uB;have oD:Hid (w.heap.size+2<=G/\G<w2.heap.size):=⟨aA,aa.raw.lt⟩;clear bk aa aZ uB aA HN jv JO vP;obtain⟨J,hJ⟩:∃J,cC G o vp vq vd=J:=⟨_,rfl⟩;have aX:=ar hJ;unfold cC at hJ;rw[aX.out] at HD;go_wp2_with(with_reducible refine gL 42 aT.out ?_);refine HD.out.mono ?_;rintro e w3 ⟨fn,rfl,aC,ah,aO⟩;obtain⟨ba,ak,og⟩:=hh3 (ah w3) aO (fC.out.trans' aC);have qC:Hid (G<w3.heap.size/\W.heap.size<=G):=by have :=oD.out;have :=lJ.out;have :=aC.size;exact⟨by omega,by omega⟩
 clear aC aO ah HD fC aT oD hJ aX;go_wp2_with fail;rw[ba.out,Oper.upon_enter];refine ak.out.mono ?_;rintro e w4 ⟨r,Z,qs,gp,rfl,ag,aV,af,aG,aQ,SV⟩;have Ja:ay [] W w4:=og.out.trans aG λy V=> .inr (by simp only[aM,aK,bC,or_self] at V;have :=qC.out;omega)
 obtain⟨w5,p1,p2,p3⟩:=yu (bc.new w4 #[(0:Int),(0:Int),(0:Int),(0:Int),(0:Int),(),()] 38) rfl ag.at;have rE:ay [w4.heap.size] w4 w5:=((ay.refl _ _).alloc _).trans' p3;have Wc:ay [] W w5:=Ja.trans rE λy V=> .inr (by rw[au] at V;have :=Ja.size;omega)
 have aI:eN w5 G gp X qs:=af.keep rE (by rw[au];have :=af.raw.lt;omega) (by rw[au];have :=af.raw.lt;omega);have c5:w5.cell? w4.heap.size=some (.int .i64 r.E):=by
  obtain⟨_,_,rfl,-⟩:=ag;rw[p2.cell];rfl
 have rp:=ar p1;have av:tO (w.heap.size+2) w4 r Z:=ag.mono (by have :=og.out.size;have :=lJ.out;omega);by_cases hE:r.E=0
 ·have Bv:=ar (FX.out w5 G gp qs r Wc aI SV hE)
  have HX:Hid (∀z x,ay ks w5 z->C (dm X (az X qs) 3128) x z->x≠0->vI (w.heap.size+1) #[(x:Int),(0:Int),(0:Int),(0:Int),(0:Int),(),()] Q z):=λz x h1 h2 h3=>aF.out w5 z [] r qs x Wc (by simp) h1 SV hE h2 h3
  have aJ:Hid (∀z,ay ks w5 z->C (dm X (az X qs) 3128) 0 z->(loadVar 38 w4.heap.size).run prog z= .ok (.agg Z) z/\vI (w.heap.size+1) Z Q z):=λz h1 h2=>qU.out w4 w5 z [] r Z qs Ja (by simp) av rE p2 h1 SV hE h2
  have c0:=ax.out w5 [] (by simp) Wc;rw[hE] at c5;generalize C (dm X (az X qs) 3128)=CC at *;clear FX rh aF qU ag av aV af aG aQ SV Ja p1 p2 p3 rE Wc aI ak og qC hE;go_wp2_with(with_reducible refine gS 38 rp.out ?_)
  go_upto_region 9 with fail
  go_cut [10] (λXA wx=>∃x:Int,XA= .int .i64 x/\Hid (ay ks w5 wx/\CC x wx))
  case first=>
   go_region_with (first|(go_at_call 35;refine(Bv.out _ (by first|exact ay.refl _ _|exact(ay.refl _ _).drew)).mono ?_;rintro e w6 ⟨a,n,cap,rfl,c6,K7⟩)|(go_at_call 34;refine K7.out.mono ?_;rintro e z ⟨x,rfl,bf⟩))
   all_goals go_wp2_with fail
   all_goals go_meet
   all_goals exact⟨_,rfl,bf⟩
  case rest=>
   obtain⟨x,rfl,HC⟩:=hcut;obtain⟨EN,WS⟩:=HC.out;by_cases hx:x=0
   ·subst hx
    obtain⟨l1,wy,s1,s2,s3⟩:=aJ.out wc EN WS;obtain⟨zn,HS,HL,HF⟩:=hh4 l1 s1 s2 s3;clear Bv HX aJ HC EN WS l1 s1 s2 s3 rp c0 c5;go_wp2_with(with_reducible first|refine gL 38 zn.out ?_|refine gS 38 HS.out ?_);exact aH (bu results11 rfl HL.out) rfl HF.out
   ·obtain⟨wy,s1,s2,s3⟩:=HX.out wc x EN WS hx
    have b1:(x != 0)=true:=by simpa using hx
    obtain⟨HS,HL,HF⟩:=hh3 s1 s2 s3;clear Bv HX aJ HC EN WS s1 s2 s3 rp c0 c5 hx;go_wp2_with(with_reducible refine gS 38 HS.out ?_);exact aH (bu results11 rfl HL.out) rfl HF.out
 ·obtain⟨wy,s1,s2,s3⟩:=rh.out w5 [] r qs Wc (by simp) SV hE
  have b1:(r.E != 0)=true:=by simpa using hE
  obtain⟨HS,HL,HF⟩:=hh3 s1 s2 s3;clear FX rh aF qU ag av aV af aG aQ SV Ja p1 p2 p3 rE Wc aI ak og qC hE s1 s2 s3;go_wp2_with(with_reducible first|refine gS 38 rp.out ?_|refine gS 38 HS.out ?_);exact aH (bu results11 rfl HL.out) rfl HF.out
def nF (n:Nat):List Bool:=List.replicate n false
def mF (n q:Nat):List Bool:=(List.range n).map λj=>decide (j<8*q)
theorem ae6 (n k:Nat):(nF n).set k false=nF n:=by
 unfold nF;apply cX (by simp);intro j z h;rw[List.getElem_set];split<;>simp
theorem acL (n:Nat):mF n 0=nF n:=by
 unfold nF mF;apply cX (by simp);intro j z h;simp
theorem ae7 (n q:Nat):(mF n q).length=n:=by simp[mF]
theorem acM (n q:Nat):zY (mF n q) q 8=mF n (q+1):=by
 unfold zY mF;apply cX (by simp);intro j G z;simp only[List.getElem_mapIdx,iN,lv];by_cases h:q*8<=j/\j<q*8+8
 ·rw[aB h]
  exact(bq (by omega)).symm
 ·rw[aA h]
  exact decide_eq_decide.2 (by omega)
theorem ae8{q j:Nat}(h:j<n)(z:j<8*q):(mF n q).getD j false=true:=by
 unfold mF;rw[aj,bO,cU h];exact bq z
def xy (N:Nat) (xs ws:List Int) (d:Int) (k:Nat):kp:={ now:=mix ws xs k,last:=xs,fl:=nF N,deeds:=d+(k:Int),fused:=false,left:=0 }
def Fh (N:Nat) (xs ws:List Int) (d:Int) (q:Nat):kp:={ now:=ws,last:=xs,fl:=mF N q,deeds:=d+(N:Int)+(q:Int),fused:=false,left:=0 }
section
variable {N:Nat} {xs ws:List Int} {d:Int} {k q:Nat}
theorem Wd (G:N=3128)(z:xs.length=N):xy N xs ws d 0=calm xs d:=by
 have h:nF N=List.replicate ((xs.length+7)/8*8) false:=by
  unfold nF
  congr 1
  omega
 unfold xy calm;rw[Xg,h]
 congr 1
 exact Int.add_zero d
theorem En (z:xs.length=N)(J:ws.length=N)(U:k<N):(xy N xs ws d k).refusal (k:Int)=0:=by
 unfold kp.refusal;have h:¬(xy N xs ws d k).gone=true:=Bool.false_ne_true;have G:(xy N xs ws d k).now.length=N:=by
  show(mix ws xs k).length=N;rw[aa5 _ _ _ (by omega),z]
 rw[aA h,G,aA]
theorem We (z:xs.length=N)(G:ws.length=N)(J:k<N):(xy N xs ws d k).store (k:Int) (ws.getD k 0)=xy N xs ws d (k+1):=by
 unfold kp.store;rw[aB (En z G J),aF];have h:(xy N xs ws d k).now.set k (ws.getD k 0)=mix ws xs (k+1):=(Xh ws xs k (by omega) (by omega)).symm;have U:(xy N xs ws d k).fl.set k false=nF N:=ae6 N k;rw[h,U];show({ now:=mix ws xs (k+1),last:=xs,fl:=nF N,deeds:=d+(k:Int)+1,fused:=false,left:=0 }:kp)={ now:=mix ws xs (k+1),last:=xs,fl:=nF N,deeds:=d+((k+1:Nat):Int),fused:=false,left:=0 }
 congr 1
 omega
theorem aap (h:xs.length=N)(z:ws.length=N):xy N xs ws d N=Fh N xs ws d 0:=by
 unfold xy Fh;rw[aa4 _ _ _ (by omega) (by omega),acL]
 congr 1
 omega
theorem Hu (z:ws.length=N)(J:8*q<N):(Fh N xs ws d q).refusal ((8*q:Nat):Int)=0:=by
 unfold kp.refusal;have h:¬(Fh N xs ws d q).gone=true:=Bool.false_ne_true;have G:(Fh N xs ws d q).now.length=N:=z;rw[aA h,G,aA]
theorem aaq (G:ws.length=N)(z:8*q<N):(Fh N xs ws d q).flush ((8*q:Nat):Int)=Fh N xs ws d (q+1):=by
 unfold kp.flush;have h:zY (Fh N xs ws d q).fl (((8*q:Nat):Int).toNat/8) 8=mF N (q+1):=by
  rw[aF,show 8*q/8=q by omega];exact acM N q
 rw[aB (Hu G z),h];show({ now:=ws,last:=xs,fl:=mF N (q+1),deeds:=d+(N:Int)+(q:Int)+1,fused:=false,left:=0 }:kp)={ now:=ws,last:=xs,fl:=mF N (q+1),deeds:=d+(N:Int)+((q+1:Nat):Int),fused:=false,left:=0 }
 congr 1
 omega
theorem Wf (hN:N=3128)(hq:q=391)(V:xs.length=N)(z:ws.length=N):(Fh N xs ws d q).fence=calm ws (d+3520):=by
 unfold kp.fence;have W:¬(Fh N xs ws d q).gone=true:=Bool.false_ne_true;have U:iD (Fh N xs ws d q) (Fh N xs ws d q).now.length=ws:=by
  have G:=Dy (Fh N xs ws d q) (Fh N xs ws d q).now.length;have h:(Fh N xs ws d q).last.length=N:=V;apply cX (by rw[G,h,z]);intro j J h4;rw[G,h] at J;have hn:(Fh N xs ws d q).now.length=N:=z;simp only[iD,List.getElem_mapIdx];rw[aB ⟨by omega,ae8 J (by omega)⟩];show ws.getD j 0=ws[j];rw[aj,aD h4];rfl
 have h2:(Fh N xs ws d q).fl.length=(ws.length+7)/8*8:=by
  show(mF N q).length=_;rw[ae7];omega
 rw[aA W,U,h2];show({ now:=ws,last:=ws,fl:=List.replicate ((ws.length+7)/8*8) false,deeds:=d+(N:Int)+(q:Int)+1,fused:=false,left:=0 }:kp)={ now:=ws,last:=ws,fl:=List.replicate ((ws.length+7)/8*8) false,deeds:=d+3520,fused:=false,left:=0 }
 congr 1
 omega
theorem aar (G:0<=d)(h:d<1000000000000000000)(z:k<=3128):(xy N xs ws d k).fit:=by
 unfold kp.fit xy
 dsimp only
 omega
theorem Tw (h:N=3128)(J:0<=d)(z:d<1000000000000000000)(G:q<=3128):(Fh N xs ws d q).fit:=by
 unfold kp.fit Fh
 dsimp only
 omega
end
theorem RG{xs ws:List Int}{d:Int}(h:fM w b gn gl gf (calm xs d))(h0:0<=d)(hd:d<100000000000000000)(aj:xs.length=3128)(ag:ws.length=3128){v:Value}{g:Nat}(hr:Reads w v g (aX ws))(hg:g∉[b,gn,gl,gf]):
  Calls prog 49 #[b,v] w λe w'=>e=(0:Int)/\fM w' b gn gl gf (calm ws (d+3520))/\ay [b,gn,gl,gf] w w':=by
 obtain⟨N,hN⟩:∃N:Nat,N=3128:=⟨_,rfl⟩;have hx:xs.length=N:=by omega
 have hw:ws.length=N:=by omega
 obtain⟨a,cap,rfl,au,ak,HC⟩:=il hr;obtain⟨ah,off,rfl,-⟩:=HC.out 0 (by omega);have UR:Hid (∀G,ay [b,gn,gl,gf] w G->∀k,k<3128->G.cell? ⟨g,off+k,none⟩=some (.int .u64 (ws.getD k 0))):=λG hk k ac=>by
  obtain⟨-,av,e1,e2⟩:=HC.out k (by omega);cases e1;rw[aO (w:=w) (a:=⟨g,off+k,none⟩) (hk.block g ah hg)];exact e2
 rw[ag] at au ⊢;unfold maxLen at ak;have H0:Hid (fM w b gn gl gf (xy N xs ws d 0)):=by
  show fM _ _ _ _ _ _;rw[Wd hN hx];exact h
 have aa:Hid (∀G (k:Nat),k<3128->fM G b gn gl gf (xy N xs ws d k)->Calls prog 105 #[b,(k:Int),.int .u64 (ws.getD k 0)] G λe w'=>e=(0:Int)/\fM w' b gn gl gf (xy N xs ws d (k+1))/\ay [b,gn,gl,gf] G w'):=λG k hk U=>by
  have :=Mo U (aar h0 (by omega) (by omega)) (k:Int) (ws.getD k 0);rw[En hx hw (by omega),We hx hw (by omega)] at this;exact this
 have Vk:Hid (∀G (q:Nat),q<391->fM G b gn gl gf (Fh N xs ws d q)->Calls prog 106 #[b,((8*q:Nat):Int)] G λe w'=>e=(0:Int)/\fM w' b gn gl gf (Fh N xs ws d (q+1))/\ay [b,gn,gl,gf] G w'):=λG q hq U=>by
  have :=Mq U (Tw hN h0 (by omega) (by omega)) ((8*q:Nat):Int);rw[Hu hw (by omega),aaq hw (by omega)] at this;exact this
 have Np:Hid (∀G,fM G b gn gl gf (Fh N xs ws d 391)->Calls prog 107 #[b] G λe w'=>e=(0:Int)/\fM w' b gn gl gf (calm ws (d+3520))/\ay [b,gn,gl,gf] G w'):=λG U=>by
  have :=Ms U (Tw hN h0 (by omega) (by omega));rw[Wf hN rfl hx hw] at this;exact this
 have ui:Hid (∀G,fM G b gn gl gf (xy N xs ws d 3128)->fM G b gn gl gf (Fh N xs ws d 0)):=λG U=>by
  have :=aap (d:=d) hx hw;rw[hN] at this U ⊢;rw[this] at U;exact U
 clear h hx hw aj ag hr HC ah hg h0 hd hN;go_in;go_wp2_with fail;go_loopg [5,6,7,12] 3128 (λgh s5 s6 s7 s12 G=>∃k:Nat,k+gh=3128/\s12= .int .i64 (k:Int)/\
  Hid (fM G b gn gl gf (xy N xs ws d k)/\ay [b,gn,gl,gf] w G))
 case atStart=>exact⟨0,by omega,rfl,H0.out,ay.refl _ _⟩
 case round=>
  obtain⟨k,hk,rfl,V⟩:=hrel;cases gk with
  |zero=>
   obtain rfl:k=3128:=by omega
   clear aa UR H0;go_wp2_with fail;go_loopg [8,9] 391 (λgh s8 s9 G=>∃q:Nat,q+gh=391/\s8= .int .i64 ((8*q:Nat):Int)/\
    Hid (fM G b gn gl gf (Fh N xs ws d q)/\ay [b,gn,gl,gf] w G))
   case atStart=>exact⟨0,by omega,rfl,ui.out _ V.out.1,V.out.2⟩
   case round=>
    obtain⟨q,hq,rfl,HJ⟩:=hrel;cases gk with
    |zero=>
     obtain rfl:q=391:=by omega
     obtain⟨Qv,J⟩:=hh2 (Np.out _ HJ.out.1) HJ.out.2;clear Vk Np ui V HJ;go_wp2_with fail;refine Rr Qv.out ?_;rintro w3 ⟨W,h2⟩;have HF:Hid (fM w3 b gn gl gf (calm ws (d+3520))/\ay [b,gn,gl,gf] w w3):=⟨W,J.out.trans' h2⟩;clear W h2 Qv J;go_wp2;go_ret;exact⟨rfl,HF.out⟩
    |succ gg=>
     have ai:((8*q:Nat):Int)<3128:=by omega
     obtain⟨ae,J⟩:=hh2 (Vk.out _ q (by omega) HJ.out.1) HJ.out.2;have az:q<391:=by omega
     have Py:((8*q:Nat):Int)+8=((8*(q+1):Nat):Int):=by omega
     have ax:(0:Int)<=((8*q:Nat):Int):=by omega
     generalize hz:((8*q:Nat):Int)=z at *;clear Vk V HJ Np ui;go_wp2_with fail;refine Rr ae.out ?_;rintro w3 ⟨W,h2⟩;obtain⟨Cf,og⟩:=hh2 W (J.out.trans' h2);clear W h2 ae J;go_wp2;go_roundg gg;case measure=>omega
     case rel=>exact⟨q+1,by omega,by rw[<-Py];go_num,Cf.out,og.out⟩
  |succ gg=>
   have ai:(k:Int)<3128:=by omega
   have ac:k<3128:=by omega
   have hc:=UR.out _ V.out.2 k ac;obtain⟨HS,af⟩:=hh2 (aa.out _ k ac V.out.1) V.out.2;generalize ws.getD k 0=x at *;clear aa Vk Np ui UR V;go_wp2_with fail;refine Rr HS.out ?_;rintro w3 ⟨W,h2⟩;obtain⟨Cf,og⟩:=hh2 W (af.out.trans' h2);clear W h2 HS af;go_wp2;go_roundg gg;case measure=>omega
   case rel=>exact⟨k+1,by omega,by go_num,Cf.out,og.out⟩
end Go.Proofs.YtimcfdnbpkiniaaGreatDoor
