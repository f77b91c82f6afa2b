/- Lemmas. -/
import Derived.Test.YtcecbdeamjigiaaGreatDoorH28
set_option maxHeartbeats 2000000
set_option maxRecDepth 100000
namespace Go.Proofs.YtcecbdeamjigiaaGreatDoor
open Go.RowKit
open Go.RowKit
variable{B:List Int}{b n:Nat}{w w':World}{r:kX}{Z:Array Value}{l:List Nat}
end Go.Proofs.YtcecbdeamjigiaaGreatDoor
namespace Go.Proofs.YtcecbdeamjigiaaGreatDoor
open Go.RowKit
variable{B:List Int}{b n:Nat}{w w':World}{r:kX}{Z:Array Value}{l:List Nat}
section
variable {X:List Int} {T:List (bM×Value)} {own:Nat->List Nat} {M:Nat->Nd}
open Classical in
end
theorem tS:∀(l:List Nat) (X:List Int),bQ X l=bQ X (l.filter λc=>c != 0)
 | [],_=>rfl
 |c::l,X=>by
  have e:bQ X (c::l)=dG X c false++bQ (az X (dG X c false)) l:=rfl;rw[e,ft];by_cases h:c=0
  ·subst h
   have y:dG X 0 false=[]:=rfl;rw[y,aA (by simp),bW];exact tS l X
  ·rw[aB (by simpa using h),tS l]
   rfl
theorem JS (Z:B.length=13)(c:Nat)(U:∀k,0<=B.getD k 0):dB B 13=dB B c++((B.drop c).map Int.toNat).filter λc=>c != 0:=by
 unfold dB;rw[aQ (by omega:B.length<=13)];have e:B=B.take c++B.drop c:=(dM c B).symm
 conv=>lhs;rw[e]
 rw[dV,dZ]
 congr 1
 have J:∀l:List Int,(∀x∈l,0<=x)->(l.filter λx=>x != 0).map Int.toNat=(l.map Int.toNat).filter λc=>c != 0:=by
  intro l;induction l with
  |nil=>intro _;rfl
  |cons x l ih=>
   intro h;rw[List.map_cons,ft,ft];have W:=h x (by simp);by_cases z:x=0
   ·subst z
    rw[aA (by simp),aA (by simp)];exact ih λy G=>h y (by simp[G])
   ·rw[aB (by simpa using z),aB (by simp;omega),List.map_cons,ih λy G=>h y (by simp[G])]
 refine J _ λx z=> ?_
 obtain⟨k,V,rfl⟩:=bR (fL z);have :=U k;rwa[aj,aD V] at this
theorem L8 (h:B.length=13){c:Nat}(y:c<=13):dB (iz B c) 13=dB B c:=by
 unfold dB;rw[aQ (by rw[mr h y];omega)];unfold iz;rw[dV];have :(List.replicate (13-c) (0:Int)).filter (λx=>x != 0)=[]:=by simp
 rw[this,bq]
section
variable {X:List Int} {T:List (bM×Value)} {own:Nat->List Nat} {M:Nat->Nd}
def zQ (n:bM) (c:Nat):bM:={ n with B:=iz n.B c }
def Yo (c:List Int) (s:Nat):List Int:=c.take s++List.replicate (832-s) 0
theorem Qj {c:List Int}(h:yS c){s:Nat}(G:s<=832):yS (Yo c s):=by
 refine⟨by unfold Yo;simp[h.1];omega,λx z=> ?_⟩;unfold Yo at z;rcases aP.1 z with y|y
 ·exact h.2 x (bA y)
 ·rw[gN y];omega
theorem W7 {c:List Int}(h:c.length=832){s:Nat}(z:s<=832)(k:Nat):(Yo c s).getD k 0=if k<s then c.getD k 0 else 0:=by
 unfold Yo;rw[aj];by_cases y:k<s
 ·rw[aW (by simp;omega),bN,aB y,aB y,aj]
 ·rw[aM (by simp;omega),aA y,aY]
  split<;>rfl
theorem lK.cut(h:lK X T own [] M){i:Nat}(hK:(M i).K=1){s:Nat}(hs:(s:Int)<(nT T i).S){r:Int}{qs:List (Int×Int)}
  (V:pI (az (az X (bQ X (((nT T i).B.drop (bY s)).map Int.toNat))) (il (zQ (nT T i) (bY s)).B (Yo (qK (az X (bQ X (((nT T i).B.drop (bY s)).map Int.toNat))) (zQ (nT T i) (bY s))) s) 13)) (i:Int) { zQ (nT T i) (bY s) with S:=(s:Int) } r qs):
  r=0/\Goes X (bQ X (((nT T i).B.drop (bY s)).map Int.toNat)++(il (zQ (nT T i) (bY s)).B (Yo (qK (az X (bQ X (((nT T i).B.drop (bY s)).map Int.toNat))) (zQ (nT T i) (bY s))) s) 13++qs)) [] (mN M i { M i with D:=vS (M i).D s }) 300:=by
 obtain⟨au,hk,hf,ht,hi,hd,hB⟩:=h.fileAt hK;have hS:=hf.1;have J:=h.opened hi;have ar:∀Y l' (hY:rZ Y T own i l' M),dT Y (i:Int) (nT T i) (own i):=λY l' hY=>by
  rcases hY.st.each hi with ⟨-,h1⟩|⟨-,h1,-⟩
  ·exact h1
  ·rw[h1] at hk;simp[cB] at hk
 generalize hn:nT T i=n at *;have SD:bY s<=13:=by unfold bY;omega
 have Nr:s<=832:=by omega
 have ap:∀k,0<=n.B.getD k 0:=λk=>by
  by_cases mv:k<13
  ·exact(qJ hf.2.2.2 mv).1
  ·rw[aj,aO (by omega)];decide
 have ak:=JS hB (bY s) ap;have aq:=tS ((n.B.drop (bY s)).map Int.toNat) X;generalize hl:((n.B.drop (bY s)).map Int.toNat).filter (λc=>c != 0)=l at *;have aa:∀c∈cP n,c≠0/\c<256:=λc Z=>by
  have :=J.st.exr c Z;exact this
 have xS:cP n=dB n.B (bY s)++l:=ak;obtain⟨g1,g2,g3,g4⟩:=J.st.give (l:=l) (ex':=dB n.B (bY s)) (λb _=>by rw[xS,eK];omega) (λc Z=>aa c (by rw[xS];exact bG _ Z)) (λc Z=>aa c (by rw[xS];exact bF _ Z));have WU:=J.step g1 g2 (by simp);rw[<-aq] at g1 g2 g3 g4 WU;have ai:mL X (az X (bQ X ((n.B.drop (bY s)).map Int.toNat))) 4:=mL.puts (L:=rY) (by simp[rY]) λp V=>qH (o5 _ _ _ V)
 generalize bQ X ((n.B.drop (bY s)).map Int.toNat)=G at *;have W:=n4 hB SD;have z:(iz n.B (bY s)).length=13:=mr hB SD;have QP:kp (iz n.B (bY s)):=λk mv=>by
  rw[W];split
  ·next vB=>
   refine⟨qJ hf.2.2.2 mv,λaw j hj=> ?_⟩;rw[W,aB (by omega)];exact(hf.2.2.2 k mv).2 aw j hj
  ·exact⟨by omega,λh=>absurd rfl h⟩
 have ac:cP (zQ n (bY s))=dB n.B (bY s):=L8 hB SD;have hR:bP { zQ n (bY s) with S:=(s:Int) }:=by
  refine vV au.right hk rfl rfl rfl rfl z ⟨by show(0:Int)<=(s:Int);omega,by show(s:Int)<=832;omega⟩ (λk y=> ?_) QP;show(iz n.B (bY s)).getD k 0=0;rw[W,aA];have y:bY (s:Int).toNat<=k:=y;rw[aH] at y;omega
 have TS:=g1.len;have ax:=g1.w64;have Yj:∀k,k<s->kJ (az X G) (zQ n (bY s)) k=kJ X n k:=λk Kd=>by
  have vB:k/64<bY s:=by unfold bY;omega
  unfold kJ;show(if (iz n.B (bY s)).getD (k/64) 0=0 then _ else ((nO ((az X G).getD (1080+8*((iz n.B (bY s)).getD (k/64) 0).toNat+k%64/8) 0).toNat (k%8):Nat):Int))=_;rw[W,aB vB];split
  ·rfl
  ·rw[g4 _ (.inr (by omega))]
 have ae:=zO (az X G) (zQ n (bY s));have U:=Qj ae Nr;have af:=W7 ae.1 Nr;have MD:∀k,k<s->(qK (az X G) (zQ n (bY s))).getD k 0=kJ X n k:=λk Kd=>by rw[ur _ _ (by omega),Yj k Kd]
 generalize qK (az X G) (zQ n (bY s))=c0 at *;generalize Yo c0 s=c at *;have zt:=JI (n:=zQ n (bY s)) (c:=c) z QP;obtain⟨TT,TU,Ej⟩:=WU.words hi (qs:=il (zQ n (bY s)).B c 13) (λp V=>⟨(zt p V).1,by rw[<-ac];exact(zt p V).2⟩) (Fe (n:=zQ n (bY s)) ax U);have OG:=ar _ _ TT;have J9:=λk (y:k<832)=>CR (X:=az X G) (n:={ zQ n (bY s) with S:=(s:Int) }) TS QP U y
 have MN:=Ff (X:=az X G) (n:={ zQ n (bY s) with S:=(s:Int) }) TS QP U (λk qP ag=>by
  have ag:(s:Int)<=(k:Int):=ag;rw[af,aA (by omega)])
 have ah:=JK (X:=az X G) (n:=zQ n (bY s)) (c:=c) z QP;have TV:sB (az (az X G) (il (zQ n (bY s)).B c 13)) { zQ n (bY s) with S:=(s:Int) }={ M i with D:=vS (M i).D s }:=by
  refine CU (n:=n) (X:=X) (by rw[h.abs i,hn]) hk rfl rfl rfl ?_;rw[hd];have C4:(qG (az (az X G) (il (zQ n (bY s)).B c 13)) { zQ n (bY s) with S:=(s:Int) }).length=s:=by rw[lJ];exact aH s
  apply yX
  ·rw[C4,tP]
  ·intro k y
   rw[C4] at y;have av:=ot (az (az X G) (il (zQ n (bY s)).B c 13)) { zQ n (bY s) with S:=(s:Int) } (k:=k) (by show k<(s:Int).toNat;omega);rw[av,JM _ _ y,ot X n (by omega)];have :=J9 k (by omega);refine Eq.trans this ?_;show(if (iz n.B (bY s)).getD (k/64) 0=0 then 0 else c.getD k 0)=_;have e1:(iz n.B (bY s)).getD (k/64) 0=n.B.getD (k/64) 0:=by rw[W,aB (by unfold bY;omega)]
   have e2:c.getD k 0=kJ X n k:=by rw[af,aB y,MD k y]
   rw[e1,e2];split
   ·next h0=>unfold kJ;rw[aB h0]
   ·rfl
 have ay:cN { zQ n (bY s) with S:=(s:Int) }<=cN n:=PU (c:=bY s) rfl rfl z W;rcases TT.close hi z hR (by rw[hn];exact OG) V (λb _=>by rw[show cP { zQ n (bY s) with S:=(s:Int) }=cP (zQ n (bY s)) from rfl,ac]) MN with ⟨-,-,h3⟩|⟨h1,T',cD,k1,k2,k3⟩
 ·rw[hn] at h3;omega
 ·refine⟨h1,T',cD,?_,λk y=> ?_,?_⟩
  ·rw[bo,bo,<-TV];exact k1
  ·rw[bo,bo,k2 k y,Ej k (by omega),g4 k (.inl y)]
  ·rw[bo,bo]
   exact((ai.trans ah).trans k3).mono (by omega)
end
section
variable {P:Program} {ops:Array Oper} {Q:Exit->Act->World->Prop} {md:Region.Mode} {S:World->Prop}
end
section
variable {P:Program} {ops:Array Oper} {Q:Exit->Act->World->Prop} {S:World->Prop}
theorem DZ {id:Nat}{a:Act}{w:World}{l l2:List Oper}{o:Oper}(hm:P.follows .mixedOrders=true)(nA:ops.toList=l++(o::l2))(ht:uF .any ops l.length l.length=true)(VG:uF .any ops ops.size ops.size=true)(hQ:∀d v c a w,Q (.panic c) (Act.put a d v) w->Q (.panic c) a w)(U:S w.drew)
  (G:Region.ready .any ops (dW ops.size l.length)=[l.length]) (V:Region.ready .any ops (dW ops.size ops.size)=[])
  (h:aJ P ops S (wpList P ops (VK (λ_=>True) (λz w'=>∃y:World->Prop,y w'/\aJ P ops y (Q .normal) l2 z) Q) [o]) l a):(Code.region id ops true).wp P Q a w:=by
 have aa:ops.size=l.length+(l2.length+1):=by rw[<-df,nA];simp
 refine wp_region_any hm ?_;rw[<-jW];refine lf (S:=λ_=>S) (F:=ops.size) (L:=l.length) _ _ _ ?_ _ U;have J:∀k,ops[k]? =(l++(o::l2))[k]? :=λk=>by rw[<-nA,dz]
 refine Es (m:=l.length) ht (aG _) (by omega) hQ (E:=λa=>∀w,S w->wpList P ops (VK (λ_=>True) (λz w'=>∃y:World->Prop,y w'/\aJ P ops y (Q .normal) l2 z) Q) [o] a w) (λa h=> ?_) l 0 a (by simp) (by omega) (λk hk=>by rw[J,aX,aW hk]) (aJ.toB _ _ h);have ho:ops[l.length]? =some o:=by rw[J,aM (aG _),iT];rfl
 rw[show ops.size-l.length=l2.length+1 by omega];refine⟨λh0=>(by rw[G] at h0;cases h0),λi hi Z=> ?_,λ_ w U=> ?_⟩
 ·rw[G,au] at hi
  exact absurd hi Z
 ·refine wpOp_mono (λz w' h'=> ?_) (wW ho (h w U))
  obtain⟨-,y,W,h2⟩:=h';rw[kC];refine lf (S:=λ_=>y) (F:=ops.size) (L:=ops.size) _ _ _ ?_ _ W;have :=Es (md:= .any) (m:=ops.size) VG (aG _) (aG _) hQ (E:=λa=>∀w,y w->Q .normal a w) (λa h=>by rw[iT];exact⟨V,h⟩) l2 (l.length+1) z (by omega) (aG _) (λk hk=>by
   rw[J,aM (by omega),show l.length+1+k-l.length=k+1 by omega,dS]) (aJ.toB _ _ h2)
  rwa[show ops.size-(l.length+1)=l2.length by omega] at this
end
def vX (n:Nat) (w:World) (r:kX) (Z:Array Value):Prop:=∃vd h,Z=QU r vd h/\(∃g,Reads w vd g (d8s r.D)/\(r.D≠[]->n<=g))/\∃g,bz w h g r.S/\(r.S≠[]->n<=g)
theorem vX.at(h:vX n w r Z):Gy w r Z:=by
 obtain⟨vd,y,G,⟨g,z,-⟩,J,U,-⟩:=h;exact⟨vd,y,G,⟨g,z⟩,J,U⟩
theorem vX.mono{m:Nat}(h:vX n w r Z)(y:m<=n):vX m w r Z:=by
 obtain⟨vd,z,J,⟨g,G,a⟩,U,V,c⟩:=h;exact⟨vd,z,J,⟨g,G,λh=>cu y (a h)⟩,U,V,λh=>cu y (c h)⟩
theorem vX.keep(h:vX n w r Z)(V:ay l w w')(W:∀x∈l,x<n):vX n w' r Z:=by
 obtain⟨vd,ve,h1,⟨g,G,a⟩,U,h3,c⟩:=h;refine⟨vd,ve,h1,⟨g,?_,a⟩,U,h3.keep V (λy z=> ?_),c⟩
 ·by_cases J:r.D=[]
  ·obtain⟨ad,cap,e,b1,b2,-⟩:=G
   exact⟨ad,cap,e,b1,b2,λy=>absurd (by rw[J];rfl) y⟩
  ·exact G.keep V (λz=>by have :=W g z;have :=a J;omega)
 ·have :=W U z
  have :=c (λe=>y (by rw[e];rfl));omega
def Yp (w:World) (r:kX) (Z:Array Value):Prop:=∀n,vX n w r Z
theorem Yp.plain(w:World){r:kX}(z:r.D=[])(y:r.S=[]):Yp w r (QU r (.slice none 0 0) (.slice none 0 0)):=λn=>⟨_,_,rfl,⟨0,by rw[z];exact vW w 0,λh=>absurd z h⟩,0,by rw[y];exact bz.nil w 0,λh=>absurd y h⟩
def pL (w:World) (b y:Nat) (B:List Int) (R:kX->List (Int×Int)->Prop) (e:Ending) (w':World):Prop:=
 ∃r Z qs h,e= .returned (.agg Z)/\vX w.heap.size w' r Z/\(h=y\/(w.heap.size<=h/\h<w'.heap.size))/\eF w' b h B qs/\ay [b,y] w w'/\qs.length<=100000/\R r qs
theorem Ub{W z:World}{g T:Nat}{G:Array Value}(hb:bm W g G T)(hc:G.size=7)(hk:ay l W z)(hg:g∉l)(hD:r.D=[])(hS:r.S=[])(hZ:Z=QU r (.slice none 0 0) (.slice none 0 0)):
  ∃h,(storeVar 34 ⟨g,0,none⟩ (.agg Z)).run Tryz.prog z= .ok () h/\(loadVar 34 ⟨g,0,none⟩).run Tryz.prog h= .ok (.agg Z) h/\Yp h r Z/\ay [g] z h:=by
 have hz:Gy z r Z:=by rw[hZ];exact TW z hD hS
 have y:∀J,Yp J r Z:=λJ=>by rw[hZ];exact Yp.plain J hD hS
 have V:=hb.keep hk hg;have h1:=hz.one;have U:=hz.size;obtain⟨zl⟩:=Z;simp only[bU] at U;obtain⟨h,s1,s2,s3⟩:=br (P:= Tryz.prog) (ty:= 34) (cs:=zl) (by rw[U];exact Gz) V (by rw[hc,U]) h1;exact⟨h,s1,AX s2 (y h 0).at,y h,s3⟩
theorem Ns (w:World)(J h:Array Value):∃W,(w.alloc (.cells J 79)).alloc (.cells h 34)=W/\ay [] w W/\bm W w.heap.size J 79/\bm W (w.heap.size+1) h 34/\W.heap.size=w.heap.size+2:=
 ⟨_,rfl,((ay.refl _ _).alloc _).alloc _,(bm.new w _ _).alloc _,bm.new2 w _ _ _ _,by rw[cm,cm]⟩
section
variable {w w':World} {b gp gA:Nat} {B:List Int} {ps qs:List (Int×Int)} {T T':List (bM×Value)} {own cD:Nat->List Nat} {ex ex':List Nat} {M M':Nat->Nd}
theorem pL.none{R:kX->List (Int×Int)->Prop}{r:kX}{Z:Array Value}(h:Da w b gp B [] T own ex M)(y:ay [] w w')(z:Yp w' r Z)(G:R r []):pL w b gp B R (.returned (.agg Z)) w':=
 ⟨r,Z,[],gp,rfl,z _,.inl rfl,h.sh.keep y (by simp) (by simp),y.mono (by simp),by simp,G⟩
theorem pL.some{R:kX->List (Int×Int)->Prop}{r:kX}{Z:Array Value}{m:Nat}{Rq:Int->List (Int×Int)->Prop}{wa G wc:World}{x:Int}(U:b<w.heap.size/\gp<w.heap.size)(z:ay [] w wa)(ac:w.heap.size+2<=wa.heap.size)(hp:fY wa b gp B [] m Rq (.returned (.int .i64 x)) G)(hm:m<=100000)(h:ay [w.heap.size+1] G wc)(hr:Yp wc r Z)(hR:∀qs,Rq x qs->R r qs):pL w b gp B R (.returned (.agg Z)) wc:=by
 obtain⟨x',qs,gA,he,h1,W,h3,h4,J⟩:=hp;cases he;have aa:=h.size;refine⟨r,Z,qs,gA,rfl,hr _,by omega,W.keep h (by rw[au];omega) (by rw[au];omega),((z.mono (by simp)).trans' h3).trans h (λy V=>by rw[au] at V;omega),by omega,hR _ J⟩
end
structure L9 (w:World) (o:qR) (vp vq vd:Value):Prop where
 p:∃g,jQ w vp g o.P
 ps:∀s∈o.P,s.size<=9223372036854775807
 q:∃g,jQ w vq g o.Q
 qs:∀s∈o.Q,s.size<=9223372036854775807
 d:∃g,Reads w vd g (d8s o.D)
 ds:∀x∈o.D,0<=x/\x<256
theorem L9.keep{o:qR}{z vq vd:Value}(h:L9 w o z vq vd)(y:ay [] w w'):L9 w' o z vq vd:=by
 obtain⟨⟨G,V⟩,U,⟨Z,h3⟩,h4,⟨g5,J⟩,W⟩:=h;exact⟨⟨G,V.keep y (by simp)⟩,U,⟨Z,h3.keep y (by simp)⟩,h4,⟨g5,J.keep y (by simp)⟩,W⟩
theorem CX{P:Program}{f:FuncId}{h:Func}(z:P.funcs[f]? =some h)(G:(h.name == "runtime.NumGoroutine")=false)(y:h.body.isNone=false)(args:Array Value)(w:World):(callFunc f args).run P w= .ok (.enter f args) w:=by
 have U:h.name≠ "runtime.NumGoroutine" :=by simpa using G
 have J:h.body≠none:=λe=>by rw[e] at y;cases y
 unfold callFunc;simp[go_sem,z,U,J]
def GH (M:Nat->Nd) (o:qR):Prop:=∀(w:World) (b G:Nat) (B:List Int) (T:List (bM×Value)) (own:Nat->List Nat) (h vq vd:Value),Da w b G B [] T own [] M->eb M->L9 w o h vq vd->
 Calls Tryz.prog 29 #[.agg (ix b o h vq vd)] w λe w'=>∃y,e= .returned (.func (.func y) #[.agg (ix b o h vq vd)] #[])/\ay [] w w'/\(∀J,(callFunc y #[.agg (ix b o h vq vd)]).run Tryz.prog J= .ok (.enter y #[.agg (ix b o h vq vd)]) J)/\∀z,ay [] w z->Calls Tryz.prog y #[.agg (ix b o h vq vd)] z (pL z b G B (AY B M o))
theorem JT{gn gl gf:Nat}{s:ic}(h:dO w b gn gl gf s)(hp:∀k:Nat,k<s.now.length->s.refusal (k:Int)=0/\s.load (k:Int)=s.now.getD k 0):
  Calls Tryz.prog 28 #[.pointer (some ⟨b,0,none⟩)] w (nt w s.now):=by
 have H:=ar h;have Z:=ar hp;have hm:=h.n9;have xK:=ar (Bc h);generalize GY:s.now=xs at *;obtain⟨m,U⟩:∃m,xs.length=m:=⟨_,rfl⟩;rw[U] at xK Z hm;have rO:=sM m (by omega) (m:Int) rfl m (.inr rfl) w;have G:=vT w m (by omega);rw[show List.replicate m (0:Int)=cU 0 xs 0 by rw[iM,U]] at G;have G:=ar G;have z:=ar U;generalize madeCells #[Value.int .u64 0] m=mc at *;clear h hp GY U;go_enter Tryz.func28,Tryz.ntmps28;go_wp2_with(go_at_call 46;refine xK.out.mono ?_;rintro e w' ⟨rfl,rfl⟩);go_loopg [5,6,7,15] m (λgh s5 s6 s7 s15 wx=>∃k:Nat,k+gh=m/\s15= .int .i64 (k:Int)/\
  Hid (eE wx (.slice (some ⟨w.heap.size,0,none⟩) m m) w.heap.size 55 1 m (aR (cU 0 xs k))/\ay [] w wx))
 case atStart=>exact⟨0,by omega,rfl,G.out,(ay.refl _ _).alloc _⟩
 case round=>
  obtain⟨k,hk,rfl,y⟩:=hrel;cases gk with
  |zero=>
   obtain rfl:k=m:=by omega
   have V:¬(k:Int)<(k:Int):=by omega
   have aa:Hid (nt w xs (.returned (.tuple #[.slice (some ⟨w.heap.size,0,none⟩) k k,.int .i64 0])) wr):=by
    obtain⟨ho,eI⟩:=y.out;have e:cU 0 xs k=xs:=by
     have :=jl (0:Int) xs;rwa[z.out] at this
    rw[e] at ho;exact⟨_,_,rfl,ho.reads,aG _,eI⟩
   go_wp2_with fail;go_ret2;exact aa.out
  |succ gg=>
   have V:(k:Int)<(m:Int):=by omega
   have W:=Fp (H.out.keep y.out.2 (by simp) (by simp)) (k:Int);rw[(Z.out k (by omega)).1,(Z.out k (by omega)).2] at W;have HL:=ar W;have hl:=iU (0:Int) xs k (by rw[z.out];omega);rw[z.out] at hl;obtain⟨-,-,hc,hf⟩:=y.out.1.cell (by omega);have d0:=(hc k (by omega)).trans (cC (l:=cU 0 xs k) (by omega));have f0:=hf k;have HE:=ar (iN (0:Int) xs k (by rw[z.out];omega) (xs.getD k 0) (by simp[show k<xs.length by rw[z.out];omega]));generalize (cU 0 xs k).getD k 0=o1 at *;have J:=y.out.1.set k (.int .u64 (xs.getD k 0));rw[jw] at J;have J:=ar J;have gI:=ar y.out.2;generalize xs.getD k 0=x at *;clear hc hf hl y W;go_wp2_with(go_at_call 52;refine HL.out.mono ?_;rintro e w' ⟨rfl,rfl⟩);go_roundg gg;case measure=>omega
   case rel=>
    refine⟨k+1,by omega,by go_num,?_,gI.out.setCell (.inr (aG _)) _⟩;rw[<-HE.out];exact J.out
def W8 (w:World) (f b:Nat):Prop:=bm w f #[.pointer (some ⟨b,0,none⟩)] 76
theorem JU (X:List Int)(k:Nat)(hx:X.length=3128)(U:k<3128)(w:World):(Instr.index 93 (.agg (aR X).toArray) (.int .i64 (k:Int))).run Tryz.prog w= .ok (.int .u64 (X.getD k 0)) w:=by
 have Z:=cY (P:= Tryz.prog) Tryz.underlying93;have z:=cY (P:= Tryz.prog) Tryz.underlying55;obtain⟨i0,J,W,h,y⟩:=cJ Tryz.info_u64;have V:(aR X)[k]? =some (.int .u64 (X.getD k 0)):=cC (by omega);have G:(0:Int)<=(k:Int):=by omega
 generalize X.getD k 0=x at *;simp[Instr.index,asIntOf,Z,G,U,sizeOf,typeInfo,J,h,part,isAgg,z,V]
theorem JV{gp:Nat}{X:List Int}{us:List (Int×Int)}(h:iW w b gp B X us):
  Calls Tryz.prog 31 #[.pointer (some ⟨b,0,none⟩)] w (jU w (cA B X 3128)):=by
 obtain⟨i0,hi,ae,ac,Z⟩:=cJ Tryz.info_pair;have H:=ar h;have af:=ar h.lx;have ah:=h.lt;obtain⟨lb,lx,vp,h1,h2,h3⟩:=h;have HL:=ar (Bg h1 lb lx);clear lb lx h1 h2 h3 vp;have aa:=ar (λ(k:Nat) (hk:k<3128)=>JU X k af.out hk);generalize (aR X).toArray=Y at *;go_enter Tryz.func31,Tryz.ntmps31;go_wp2_with(with_reducible refine gL 93 HL.out ?_);clear HL;go_loopg [3,10] 3128 (λgh s3 Va wx=>∃k:Nat,k+gh=3128/\Va= .int .i64 (k:Int)/\
  Hid (wx.ownsRow w.heap.size 61 2 s3 (cA B X k).length (gQ (cA B X k))/\ay [] w wx))
 case atStart=>exact⟨0,by omega,rfl,⟨rfl,.inl ⟨rfl,rfl⟩⟩,ay.refl _ _⟩
 case round=>
  obtain⟨k,hk,rfl,HR⟩:=hrel;cases gk with
  |zero=>
   obtain rfl:k=3128:=by omega
   have HM:Hid (jU w (cA B X 3128) (.returned u3) wr):=by
    obtain⟨hr,U⟩:=HR.out;obtain⟨g',ho,hb⟩:=eE.of_row hr;by_cases e:(cA B X 3128).length=0
    ·exact jU.mk (ho.anyG e w.heap.size) rfl (aG _) U
    ·exact jU.mk ho rfl (hb e).1 U
   clear hk;go_wp2_with fail;go_ret;exact HM.out
  |succ gg=>
   have W:k<3128:=by omega
   have ag:(k:Int)<3128:=by omega
   have ez:(0:Int)<=(k:Int):=by omega
   obtain⟨J,U⟩:=HR.out;have c0:=(H.out.keep U (by simp) (by simp)).cell0 (i:=k) W;have zW:=aa.out k W;have ai:=Ks B X k;have Xq:=U.size;have zZ:=ar J;have gI:=ar U;clear J U HR;by_cases V:X.getD k 0=B.getD k 0
   ·have HD:=ar (ze B X k V)
    have e1:(X.getD k 0 != B.getD k 0)=false:=by simpa using V
    clear V;generalize X.getD k 0=x at *;generalize B.getD k 0=y at *;go_wp2_with fail;go_roundg gg;case measure=>omega
    case rel=>exact⟨k+1,by omega,by go_num,by rw[HD.out];exact zZ.out,gI.out⟩
   ·have HD:=ar (Kr B X k V)
    have e1:(X.getD k 0 != B.getD k 0)=true:=by simpa using V
    clear V;generalize X.getD k 0=x at *;generalize B.getD k 0=y at *;go_wp2_with(at_builtin;refine dE _ rfl _ _ 58 rfl w.heap.size 61 i0 (.agg #[.int .i64 0,.int .u64 0]) 2 16 Tryz.underlying58 hi ae ac Z rfl (by decide) u3 (cA B X k).length _ rfl (zZ.out.alloc _) ⟨wr.heap.size,0,none⟩ 1 1 [.int .i64 (k:Int),.int .u64 x] rfl rfl ?c1 ?c2 (by unfold maxLen;omega) (by omega) (by simp;omega) ?_);case c1=>exact iP _ [_,_] _ _ rfl
    case c2=>simp[Value.oneCell']
    intro v' w1 z G _;have z6:=ar z;have iH:=ar ((gI.out.alloc _).grown G (cE zZ.out));clear z G;go_wp2_with fail;go_roundg gg;case measure=>omega
    case rel=>
     refine⟨k+1,by omega,by go_num,?_,iH.out⟩;have :=z6.out;rw[HD.out,aF,pD];exact this
theorem Ma{y:Nat}{ps:List (Int×Int)}(h:eF w b y B ps):
  Calls Tryz.prog 31 #[.pointer (some ⟨b,0,none⟩)] w (jU w (cA B (az B ps) 3128)):=JV h.raw
end Go.Proofs.YtcecbdeamjigiaaGreatDoor
