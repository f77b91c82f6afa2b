/- Lemmas. -/
import Derived.Test.YtimcfdnbpkiniaaGreatDoorM25
set_option maxHeartbeats 4000000
set_option maxRecDepth 100000
namespace Go.Proofs.YtimcfdnbpkiniaaGreatDoor
open Go.Proofs.Tryz
open Go.RowKit
variable{w:World}{o:jz}{vd vq:Value}{b g gf gl gn gp n z:Nat}{s:kp}{f:Int}{B X Y:List Int}{ps us:List (Int×Int)}{T:List (bT×Value)}{own:Nat->List Nat}{M:Nat->Nd}
structure EZ (w:World) (o:jz) (vp vq vd:Value):Prop where
 p:∃g,gN w vp g o.P
 ps:∀s∈o.P,s.size<=9223372036854775807
 q:∃g,gN w vq g o.Q
 qs:∀s∈o.Q,s.size<=9223372036854775807
 d:∃g,Reads w vd g (kS o.D)
 ds:∀x∈o.D,0<=x/\x<256
theorem EZ.keep{w':World}{G:Value}(h:EZ w o G vq vd)(z:ay [] w w'):EZ w' o G vq vd:=by
 obtain⟨⟨J,U⟩,h2,⟨g3,h3⟩,V,⟨W,h5⟩,h6⟩:=h;exact⟨⟨J,U.keep z (by simp)⟩,h2,⟨g3,h3.keep z (by simp)⟩,V,⟨W,h5.keep z (by simp)⟩,h6⟩
theorem fC{P:Program}{f:FuncId}{fn:Func}(J:P.funcs[f]? =some fn)(z:(fn.name == "runtime.NumGoroutine")=false)(h:fn.body.isNone=false)(args:Array Value)(w:World):(callFunc f args).run P w= .ok (.enter f args) w:=by
 have G:fn.name≠ "runtime.NumGoroutine" :=by simpa using z
 have U:fn.body≠none:=λe=>by rw[e] at h;cases h
 unfold callFunc;simp[go_sem,J,G,U]
def L3 (M:Nat->Nd) (o:jz):Prop:=∀(w:World) (b J:Nat) (B:List Int) (T:List (bT×Value)) (own:Nat->List Nat) (h vq vd:Value),rC w b J B [] T own [] M->dw M->EZ w o h vq vd->
 Calls prog 33 #[cB b o h vq vd] w λe w'=>∃fn,e= .returned (.func (.func fn) #[cB b o h vq vd] #[])/\ay [] w w'/\(∀G,(callFunc fn #[cB b o h vq vd]).run prog G= .ok (.enter fn #[cB b o h vq vd]) G)/\∀z,ay [] w z->Calls prog fn #[cB b o h vq vd] z (fF z b J B (lv B M o))
theorem Ie (h:fx w b gn gl gf s)(hp:∀k:Nat,k<s.now.length->s.refusal (k:Int)=0/\s.load (k:Int)=s.now.getD k 0):
  Calls prog 31 #[b] w (uv w s.now):=by
 obtain⟨H,Vs⟩:=hh2 h hp;have hm:=h.n9;have Ed:=ar (PQ h);generalize aa:s.now=xs at *;obtain⟨m,z⟩:∃m,xs.length=m:=⟨_,rfl⟩;rw[z] at Ed Vs hm;have af:=xL m (by omega) (m:Int) rfl m (.inr rfl) w;have U:=AO w m (by omega);rw[show List.replicate m (0:Int)=dM 0 xs 0 by rw[kJ,z]] at U;obtain⟨U,J⟩:=hh2 U z;generalize madeCells #[Value.int .u64 0] m=mc at *;clear h hp aa z;go_in;go_wp2_with(go_at_call 45;refine C' Ed.out ?_);go_loopg [5,6,7,15] m (λgh s5 s6 s7 s15 wx=>∃k:Nat,k+gh=m/\s15= .int .i64 (k:Int)/\
  Hid (eZ wx (.slice w.heap.size m m) w.heap.size 70 1 m (aY (dM 0 xs k))/\ay [] w wx))
 case atStart=>exact⟨0,by omega,rfl,U.out,(ay.refl _ _).alloc _⟩
 case round=>
  obtain⟨k,hk,rfl,G⟩:=hrel;cases gk with
  |zero=>
   obtain rfl:k=m:=by omega
   have ae:¬(k:Int)<(k:Int):=by omega
   have ac:Hid (uv w xs (.returned (.tuple #[.slice w.heap.size k k,(0:Int)])) wr):=by
    obtain⟨ho,fV⟩:=G.out;have e:dM 0 xs k=xs:=by
     have :=lR (0:Int) xs;rwa[J.out] at this
    rw[e] at ho;exact⟨_,_,rfl,ho.reads,aH _,fV⟩
   go_wp2_with fail;go_ret2;exact ac.out
  |succ gg=>
   have ae:(k:Int)<(m:Int):=by omega
   have W:=KI (H.out.keep G.out.2 (by simp) (by simp)) (k:Int);rw[(Vs.out k (by omega)).1,(Vs.out k (by omega)).2] at W;have HL:=ar W;have hl:=kT (0:Int) xs k (by rw[J.out];omega);rw[J.out] at hl;obtain⟨-,-,hc,hf⟩:=G.out.1.cell (by omega);have d0:=(hc k (by omega)).trans (dF (l:=dM 0 xs k) (by omega));have f0:=hf k;have HE:=ar (kM (0:Int) xs k (by rw[J.out];omega) (xs.getD k 0) (by simp[show k<xs.length by rw[J.out];omega]));generalize (dM 0 xs k).getD k 0=o1 at *;have V:=G.out.1.set k (.int .u64 (xs.getD k 0));rw[lI] at V;obtain⟨V,jr⟩:=hh2 V G.out.2;generalize xs.getD k 0=x at *;clear hc hf hl G W;go_wp2_with(go_at_call 55;refine C' HL.out ?_);go_roundg gg;case measure=>omega
   case rel=>
    refine⟨k+1,by omega,by go_num,?_,jr.out.setCell (.inr (aH _)) _⟩;rw[<-HE.out];exact V.out
def aac (w:World) (f b:Nat):Prop:=bh w f #[b] 87
theorem RB{f:Nat}(hf:aac w f b)(h:fx w b gn gl gf s)(hn:s.now.length=3128)(hp:∀k:Nat,k<s.now.length->s.refusal (k:Int)=0/\s.load (k:Int)=s.now.getD k 0):
  Calls prog 16 #[f] w (yP w s.now):=by
 have c0:w.cell? f=some (.pointer (some ⟨b,0,none⟩)):=by rw[hf.cell];rfl
 have HL:=ar (Ie h hp);have OW:kU s.now=s.now:=by
  apply cV (by rw[iE,hn]);intro k J z;have :=uO s.now k;rw[aj,aD J,fc] at this;rw[this,aB,aj,aD z];rfl
 have G:=ar OW;clear hf h hn hp OW;go_in;go_wp2_with fail;refine HL.out.mono ?_;rintro e w1 ⟨v,g,rfl,hr,hg,V⟩;obtain⟨HN,U⟩:=hh2 (Bg hr) V;clear HL hr hg V;go_wp2_with fail;refine HN.out.mono ?_;rintro e w2 ⟨W,rfl,J,z,h3⟩;have HE:Hid (yP w s.now (.returned W) w2):=by
  rw[G.out] at z;exact⟨W,rfl,cG U.out.size J,z,U.out.trans' h3⟩
 clear J z h3 HN G;go_wp2_with fail;go_ret;exact HE.out
theorem OX (X:List Int)(k:Nat)(hx:X.length=3128)(z:k<3128)(w:World):(Instr.index 119 (.agg (aY X).toArray) (.int .i64 (k:Int))).run prog w= .ok (.int .u64 (X.getD k 0)) w:=by
 have hu:=dB (P:= prog) underlying119;have W:=dB (P:= prog) underlying70;obtain⟨i0,V,U,h,aa⟩:=df Tryz.info_u64;have J:(aY X)[k]? =some (.int .u64 (X.getD k 0)):=dF (by omega);have G:(0:Int)<=(k:Int):=by omega
 generalize X.getD k 0=x at *;simp[Instr.index,asIntOf,hu,G,z,sizeOf,typeInfo,V,h,part,isAgg,W,J]
theorem OY (h:kW w b gp B X us):
  Calls prog 35 #[b] w (kQ w (dh B X 3128)):=by
 obtain⟨i0,hi,af,ah,ag⟩:=df Tryz.info_pair;obtain⟨H,ac⟩:=hh2 h h.lx;have aj:=h.lt;obtain⟨lb,lx,vp,h1,h2,h3⟩:=h;have HL:=ar (FL h1 lb lx);clear lb lx h1 h2 h3 vp;have ae:=ar (λ(k:Nat) (hk:k<3128)=>OX X k ac.out hk);generalize (aY X).toArray=Y at *;go_in;go_wp2_with(with_reducible refine gL 119 HL.out ?_);clear HL;go_loopg [3,10] 3128 (λgh s3 Xw wx=>∃k:Nat,k+gh=3128/\Xw= .int .i64 (k:Int)/\
  Hid (wx.ownsRow w.heap.size 82 2 s3 (dh B X k).length (jb (dh B X k))/\ay [] w wx))
 case atStart=>exact⟨0,by omega,rfl,⟨rfl,.inl ⟨rfl,rfl⟩⟩,ay.refl _ _⟩
 case round=>
  obtain⟨k,hk,rfl,HR⟩:=hrel;cases gk with
  |zero=>
   obtain rfl:k=3128:=by omega
   have HM:Hid (kQ w (dh B X 3128) (.returned u3) wr):=by
    obtain⟨hr,V⟩:=HR.out;obtain⟨g',ho,hb⟩:=eZ.of_row hr;by_cases e:(dh B X 3128).length=0
    ·exact kQ.mk (ho.anyG e w.heap.size) rfl (aH _) V
    ·exact kQ.mk ho rfl (hb e).1 V
   clear hk;go_wp2_with fail;go_ret;exact HM.out
  |succ gg=>
   have aa:k<3128:=by omega
   have ak:(k:Int)<3128:=by omega
   have cM:(0:Int)<=(k:Int):=by omega
   obtain⟨U,V⟩:=HR.out;have c0:=(H.out.keep V (by simp) (by simp)).cell0 (i:=k) aa;have Iu:=ae.out k aa;have ai:=PX B X k;have au:=V.size;obtain⟨J,jr⟩:=hh2 U V;clear U V HR;by_cases W:X.getD k 0=B.getD k 0
   ·have HD:=ar (DL B X k W)
    have e1:(X.getD k 0 != B.getD k 0)=false:=by simpa using W
    clear W;generalize X.getD k 0=x,B.getD k 0=y at *;go_wp2_with fail;go_roundg gg;case measure=>omega
    case rel=>exact⟨k+1,by omega,by go_num,by rw[HD.out];exact J.out,jr.out⟩
   ·have HD:=ar (PW B X k W)
    have e1:(X.getD k 0 != B.getD k 0)=true:=by simpa using W
    clear W;generalize X.getD k 0=x,B.getD k 0=y at *;go_wp2_with(at_builtin;refine eU _ rfl _ _ 80 rfl w.heap.size 82 i0 (.agg #[(0:Int),.int .u64 0]) 2 16 underlying80 hi af ah ag rfl (by decide) u3 (dh B X k).length _ rfl (J.out.alloc _) ⟨wr.heap.size,0,none⟩ 1 1 [.int .i64 (k:Int),.int .u64 x] rfl rfl ?c1 ?c2 (by unfold maxLen;omega) (by omega) (by simp;omega) ?_);case c1=>exact lH _ [_,_] _ _ rfl
    case c2=>simp[Value.oneCell']
    intro v' w1 z G _;obtain⟨MP,jH⟩:=hh2 z ((jr.out.alloc _).grown G (dQ J.out));clear z G;go_wp2_with fail;go_roundg gg;case measure=>omega
    case rel=>
     refine⟨k+1,by omega,by go_num,?_,jH.out⟩;have :=MP.out;rw[HD.out,aC,uz];exact this
theorem RD (h:eK w b z B ps):
  Calls prog 35 #[b] w (kQ w (dh B (az B ps) 3128)):=OY h.raw
theorem og.of_len(X:List Int)(qs:List (Int×Int)):og X (az X qs) qs.length:=
 og.puts (L:=qs.map λp=>p.1.toNat) (by rw[bY];exact aH _) λp h=>bH.2 ⟨p,h,rfl⟩
theorem aeP (h:mN X T own [] M){o:jz}(V:o.K=11){r:Int}{qs:List (Int×Int)}(J:Dk X o.N r qs)(hq:qs.length<=2):lv X M o { fy with E:=r } qs:=by
 have z:=aeM (M:=M) V;rcases ach h J with ⟨rfl,G,-⟩|⟨rfl,G,W,-,U⟩
 ·rw[aA G] at z
  exact .inr (.inl ⟨by show(1:Int)≠0;omega,by rw[z]⟩)
 ·rw[aB G] at z
  exact .inr (.inr ⟨rfl,by rw[z];rfl,.inl (by rw[z];rfl),T,own,by rw[z];exact W.nd,λk hk _=>U k (by omega),(og.of_len X qs).mono (by omega)⟩)
theorem Tx (h:mN X T own [] M){o:jz}(V:o.K=12){r:Int}{qs:List (Int×Int)}(W:rh X T r qs):
  (r≠0/\lv X M o { fy with E:=r } qs)\/(r=0/\(∀n:Int,n=0\/n=1->lv X M o { fy with N:=n } qs)/\∃G J,mN (az X qs) G J [] M):=by
 have z:=ack (M:=M) V;rcases Zr h W with ⟨rfl,-,U⟩|⟨rfl,G,J,U,h2,L,h3,h4⟩
 ·exact .inl ⟨by omega,.inl ⟨rfl,by rw[V];rfl,.inl (by rw[z];rfl),.inl (by omega)⟩⟩
 ·exact .inr ⟨rfl,λn hn=> .inr (.inr ⟨rfl,by rw[z];rfl,.inr ⟨V,n,hn,by rw[z]⟩,G,J,by rw[z];exact U.nd,h2,L,by omega,h4⟩),G,J,U⟩
theorem lL:zo fy (.slice none 0 0) (.slice none 0 0)= #[.int .i64 0,.int .i64 0,.int .i64 0,.int .i64 0,.int .i64 0,.slice none 0 0,.slice none 0 0]:=rfl
theorem lM{W J:World}{T:Nat}{l:List Nat}{G:Array Value}(hb:bh W g G T)(V:G.size=7)(U:ay l W J)(hg:g∉l)(h:Int):
  ∃z,(storeVar 38 g (.agg #[h,(0:Int),(0:Int),(0:Int),(0:Int),(),()])).run prog J= .ok () z/\(loadVar 38 g).run prog z= .ok (.agg #[h,(0:Int),(0:Int),(0:Int),(0:Int),(),()]) z/\RsP z (cW h) #[h,(0:Int),(0:Int),(0:Int),(0:Int),(),()]/\ay [g] J z:=
 yJ hb V U hg (r:=cW h) rfl rfl rfl
theorem acu{U:Nat}(h:rC w b U B [] T own [] M)(hT:dw M){o:jz}{vp vq vd:Value}(hK:o.K=11):
  Calls prog 75 #[cB b o vp vq vd] w (fF w b U B (lv B M o)):=by
 obtain⟨W,hW,cM,jN,jL,aa⟩:=mI w (cB b o vp vq vd) (zo fy (.slice none 0 0) (.slice none 0 0));have HA:=ar (aeJ (h.keep0 cM).shS (by simp) o.N);have z:=h.lt;have IA:Hid (∀e V,cQ W b U B [] 2 (Dk (az B []) o.N) e V->∃r G,e=(r:Int)/\(storeVar 38 (w.heap.size+1:Nat) (.agg #[(r:Int),(0:Int),(0:Int),(0:Int),(0:Int),(),()])).run prog V= .ok () G/\(loadVar 38 (w.heap.size+1:Nat)).run prog G= .ok (.agg #[(r:Int),(0:Int),(0:Int),(0:Int),(0:Int),(),()]) G/\fF w b U B (lv B M o) (.returned (.agg #[(r:Int),(0:Int),(0:Int),(0:Int),(0:Int),(),()])) G):=λe V hp=>by
  have ac:=hp;obtain⟨r,qs,gI,rfl,h1,h2,h3,h4,h5⟩:=ac;obtain⟨G,s1,s2,s3,s4⟩:=lM jL rfl h3 (eD z (by omega)) r;refine⟨r,G,rfl,s1,s2,fF.some z cM (by omega) (Rq:=λr qs=>Dk (az B []) o.N r qs/\qs.length<=2) (m:=2) ⟨r,qs,gI,rfl,h1,h2,h3,h4,h5,h4⟩ (by omega) s4 s3 λqs hq=>aeP (h.nd.snd hT) hK hq.1 hq.2⟩
 have c1:W.cell? w.heap.size=some (.pointer (some ⟨b,0,none⟩)):=by rw[jN.cell];rfl
 have c2:W.cell? ⟨w.heap.size,5,none⟩=some (.int .i64 o.N):=by rw[jN.cell];rfl
 have Gm:=l6;clear h hT cM jN jL aa z;rw[lL] at *;generalize fF w b U B (lv B M o)=Q,cQ W b U B [] 2 (Dk (az B []) o.N)=SP,hJ:cB b o vp vq vd=J at *;clear hJ;go_in;go_wp2_with fail;refine HA.out.mono ?_;intro e V hp;obtain⟨r,G,rfl,s1,s2,s3⟩:=IA.out e V hp;obtain⟨HS,HL,HF⟩:=hh3 s1 s2 s3;clear s1 s2 s3 hp IA HA c1 c2 hW;go_wp2_with(with_reducible refine gS 38 HS.out ?_);exact aI (bA results75 rfl HL.out) rfl HF.out
theorem aad (h:rC w b gp B [] T own [] M)(hT:dw M){o:jz}{vp vq vd:Value}(hK:o.K=12):
  Calls prog 76 #[cB b o vp vq vd] w (fF w b gp B (lv B M o)):=by
 obtain⟨W,hW,cM,jN,jL,hsz⟩:=mI w (cB b o vp vq vd) (zo fy (.slice none 0 0) (.slice none 0 0));have hS:=h.nd.snd hT;have HA:=ar (acg (h.keep0 cM).shS h.nd.st.all (h.keep0 cM).tab (by simp));have hlt:=h.lt
 -- where it lacks room
 have jY:Hid (∀r qs kX w1,(kX=gp\/(W.heap.size<=kX/\kX<w1.heap.size))->eK w1 b kX B ([]++qs)->ay [b,gp] W w1->qs.length<=701->rh (az B []) T r qs->r≠0->vL (w.heap.size+1) #[(r:Int),(0:Int),(0:Int),(0:Int),(0:Int),(),()] (fF w b gp B (lv B M o)) w1):=λr qs kX w1 h1 h2 h3 h4 h5 h0=>by
  obtain⟨wy,s1,s2,s3,s4⟩:=lM jL rfl h3 (eD hlt (by omega)) r;refine⟨wy,s1,s2,fF.some hlt cM (by omega) (Rq:=rh (az B []) T) (m:=701) ⟨r,qs,kX,rfl,h1,h2,h3,h4,h5⟩ (by omega) s4 s3 λqs hq=> ?_⟩;rcases Tx hS hK hq with ⟨-,g⟩|⟨g,-⟩
  ·exact g
  ·exact absurd g h0
 have rf:Hid (∀qs kX w1,(kX=gp\/(W.heap.size<=kX/\kX<w1.heap.size))->eK w1 b kX B ([]++qs)->ay [b,gp] W w1->qs.length<=701->rh (az B []) T 0 qs->
   ∃d:Bool,(Calls prog 131 #[b] w1 λe w'=>e=d/\w1=w')/\∀n:Int,n=0\/n=1->vL (w.heap.size+1) #[(0:Int),(n:Int),(0:Int),(0:Int),(0:Int),(),()] (fF w b gp B (lv B M o)) w1):=λqs kX w1 h1 h2 h3 h4 h5=>by
  rcases Tx hS hK h5 with ⟨g,-⟩|⟨-,g,T',cX,g2⟩
  ·exact absurd rfl g
  ·refine⟨_,Tg ((h.keep0 cM).go h2 h3 h1 g2.nd).shS,λn hn=> ?_⟩
   obtain⟨wy,s1,s2,s3,s4⟩:=yJ (r:={ fy with N:=n }) jL rfl h3 (eD hlt (by omega)) rfl rfl rfl;exact⟨wy,s1,s2,fF.some hlt cM (by omega) (Rq:=λr qs=>lv B M o { fy with N:=n } qs) (m:=701) ⟨0,qs,kX,rfl,h1,h2,h3,h4,g n hn⟩ (by omega) s4 s3 λqs hq=>hq⟩
 have c1:W.cell? w.heap.size=some (.pointer (some ⟨b,0,none⟩)):=by rw[jN.cell];rfl
 have HC:Hid (∀w1,ay [b,gp] W w1->w1.cell? w.heap.size=some (.pointer (some ⟨b,0,none⟩))):=λw1 hk=>by rw[(jN.keep hk (eD hlt (by omega))).cell];rfl
 have Gm:=l6;clear h hT cM jN jL hsz hlt hS;rw[lL] at *;generalize fF w b gp B (lv B M o)=Q,rh (az B []) T=SP,hJ:cB b o vp vq vd=J at *;clear hJ;go_in;go_wp2_with fail;refine HA.out.mono ?_;rintro e w1 ⟨r,qs,kX,rfl,h1,h2,h3,h4,h5⟩;by_cases h0:r=0
 ·subst h0
  obtain⟨d,HD,HR⟩:=rf.out qs kX w1 h1 h2 h3 h4 h5;have c2:=HC.out w1 h3;have HD:=ar HD;cases d with
  |true=>
   obtain⟨wy,s1,s2,s3⟩:=HR 1 (.inr rfl);obtain⟨HS,HL,HF⟩:=hh3 s1 s2 s3;clear s1 s2 s3 HR jY rf HA h1 h2 h3 h4 h5 c1 HC hW;go_wp2_with fail;refine C' HD.out ?_;go_wp2_with(with_reducible refine gS 38 HS.out ?_);exact aI (bA results76 rfl HL.out) rfl HF.out
  |false=>
   obtain⟨wy,s1,s2,s3⟩:=HR 0 (.inl rfl);obtain⟨HS,HL,HF⟩:=hh3 s1 s2 s3;clear s1 s2 s3 HR jY rf HA h1 h2 h3 h4 h5 c1 HC hW;go_wp2_with fail;refine C' HD.out ?_;go_wp2_with(with_reducible refine gS 38 HS.out ?_);exact aI (bA results76 rfl HL.out) rfl HF.out
 ·obtain⟨wy,s1,s2,s3⟩:=jY.out r qs kX w1 h1 h2 h3 h4 h5 h0
  obtain⟨HS,HL,HF⟩:=hh3 s1 s2 s3;have b1:(r != 0)=true:=by simpa using h0
  clear s1 s2 s3 jY rf HA h1 h2 h3 h4 h5 h0 c1 HC hW;go_wp2_with(with_reducible refine gS 38 HS.out ?_);exact aI (bA results76 rfl HL.out) rfl HF.out
theorem Dv (h:nL X T own [] M){i:Nat}(U:(M i).K≠0):(nT T i).S=(((M i).D.length+(M i).E.length:Nat):Int):=by
 have G:=h.store U;have V:=h.kind i;rw[<-h.ents i,h.abs i];show _=((((if (nT T i).K=1 then qc X (nT T i) else []).length+(nT T i).E.length:Nat)):Int);rcases G.right.2.2 with ⟨J,z⟩|⟨J,z⟩
 ·rw[aB J,nX,z.2.1]
  have :=z.1;omega
 ·rw[aA,z.2.1]
  simp
theorem aae (h:rC w b gp B [] T own [] M)(hT:dw M){o:jz}{vp vq vd:Value}{g:Nat}(hP:gN w vp g o.P)(hs:∀s∈o.P,s.size<=9223372036854775807)(hK:o.K=10):
  Calls prog 74 #[cB b o vp vq vd] w (fF w b gp B (lv B M o)):=by
 obtain⟨W,hW,cM,jN,jL,aa⟩:=mI w (cB b o vp vq vd) (zo fy (.slice none 0 0) (.slice none 0 0));have Gn:=ar (Dt (vq:=vq) (vd:=vd) (h.keep0 cM) hT (hP.keep cM (by simp)) hs);have af:=h.lt;obtain⟨fJ,lU,lY⟩:=hh3 cM aa (jG jN);have rz:Hid ((cN M o.P).2≠0->∀z,ay [] W z->vL (w.heap.size+1) #[.int .i64 (cN M o.P).2,(0:Int),(0:Int),(0:Int),(0:Int),(),()] (fF w b gp B (lv B M o)) z):=λae z hk=>by
  obtain⟨wy,s1,s2,s3,s4⟩:=lM jL rfl hk (by simp) (cN M o.P).2;exact⟨wy,s1,s2,fF.none h ((cM.trans' hk).trans s4 (by intro y hy;rw[au] at hy;omega)) s3 (.inr (.inl ⟨ae,Ku (.inr hK) ae⟩))⟩
 have rf:Hid ((cN M o.P).2=0->(nT T (cN M o.P).1).B.length=13/\∀z,ay [] W z->vL (w.heap.size+1) #[(0:Int),.int .i64 (nT T (cN M o.P).1).S,.int .i64 (nT T (cN M o.P).1).K,.int .i64 (nT T (cN M o.P).1).L,((cN M o.P).1:Int),(),()] (fF w b gp B (lv B M o)) z):=λhe=>by
  have hk:=(nV hT he).1;refine⟨(h.nd.store hk).len,λz Cj=> ?_⟩;obtain⟨wy,s1,s2,s3,s4⟩:=yJ (r:={ fy with N:=(nT T (cN M o.P).1).S,K:=(nT T (cN M o.P).1).K,L:=(nT T (cN M o.P).1).L,I:=((cN M o.P).1:Int) }) jL rfl Cj (by simp) rfl rfl rfl;refine⟨wy,s1,s2,fF.none h ((cM.trans' Cj).trans s4 (by intro y hy;rw[au] at hy;omega)) s3 (.inr (.inr ⟨rfl,?_,?_,?_⟩))⟩
  ·rw[Cb (.inr hK)];show(yB M o).E=0;unfold yB;rw[aA,aB hK];rfl
  ·left
   rw[Cb (.inr hK)];show _=yB M o;unfold yB;rw[aA,aB hK,Dv h.nd hk,h.nd.kind,h.nd.links]
  ·rw[Cb (.inr hK)];exact h.nd.stay
 have Gm:=l6;have rH:=dA;clear h hT hP hs cM jN jL aa af;unfold AX at Gn;rw[lL] at *;generalize fF w b gp B (lv B M o)=Q,cN M o.P=R,ac:aM ck (.slice none 0 0)=Z0 at *;have jy:=ar ac;generalize hJ:cB b o vp vq vd=J at *;clear hJ ac;obtain⟨x,ee⟩:=R
 dsimp only at *
 go_in;go_wp2_with(with_reducible refine gL 91 lY.out ?_);refine Gn.out.mono ?_;rintro e z ⟨G,⟨he,rfl⟩|⟨rfl,v,g,rfl,hE,hg⟩⟩
 ·obtain⟨V,q1,q2,q3⟩:=cz (n:=ck) (v:= .slice none 0 0) (bh.new z Z0 75) (by rw[<-jy.out];rfl) rfl rfl
  have eV:ay [] z V:=((ay.refl _ _).alloc _).trans q3 (by intro x hx;rw[au] at hx;omega);obtain⟨wy,s1,s2,s3⟩:=rz.out he V (G.trans' eV);rw[jy.out] at q1;obtain⟨jw,HS,HL,HF⟩:=hh4 q1 s1 s2 s3;have b1:(ee != 0)=true:=by simpa using he
  clear hW q1 q2 q3 G eV s1 s2 s3 he rz rf Gn fJ lU lY jy;go_wp2_with(with_reducible first|refine gS 75 jw.out ?_|refine gS 38 HS.out ?_);exact aI (bA results74 rfl HL.out) rfl HF.out
 ·obtain⟨U,JH⟩:=rf.out rfl
  generalize nT T x=n at *;obtain⟨V,q1,q2,q3⟩:=cz (n:=n) (v:=v) (bh.new z Z0 75) (by rw[<-jy.out];rfl) U hE.one;have eV:ay [] z V:=((ay.refl _ _).alloc _).trans q3 (by intro x hx;rw[au] at hx;omega);obtain⟨wy,s1,s2,s3⟩:=JH V (G.trans' eV);have c1:V.cell? ⟨z.heap.size,1,none⟩=some (.int .i64 n.K):=by rw[q2.cell];exact(gG v U).f1
  have c2:V.cell? ⟨z.heap.size,2,none⟩=some (.int .i64 n.L):=by rw[q2.cell];exact(gG v U).f2
  have c3:V.cell? ⟨z.heap.size,3,none⟩=some (.int .i64 n.S):=by rw[q2.cell];exact(gG v U).f3
  obtain⟨jw,HS,HL,HF⟩:=hh4 q1 s1 s2 s3;clear hW q1 q2 q3 G eV s1 s2 s3 rz rf Gn fJ lU lY jy JH hE hg;generalize aM n v=Zn,n.K=nk,n.L=nl,n.S=ns,(x:Int)=xi at *;go_wp2_with(with_reducible first|refine gS 75 jw.out ?_|refine gS 38 HS.out ?_);exact aI (bA results74 rfl HL.out) rfl HF.out
theorem aaf (h:rC w b gp B [] T own [] M)(hT:dw M){o:jz}{vp vq vd:Value}{g:Nat}(hP:gN w vp g o.P)(hs:∀s∈o.P,s.size<=9223372036854775807)(hK:o.K=9):
  Calls prog 73 #[cB b o vp vq vd] w (fF w b gp B (lv B M o)):=by
 obtain⟨W,hW,cM,jN,jL,ae⟩:=mI w (cB b o vp vq vd) (zo fy (.slice none 0 0) (.slice none 0 0));have Gn:=ar (Dt (vq:=vq) (vd:=vd) (h.keep0 cM) hT (hP.keep cM (by simp)) hs);have ah:=h.lt;obtain⟨fJ,lU,lY⟩:=hh3 cM ae (jG jN);have OZ:(cN M o.P).2=0->ko M o=(M,if (M (cN M o.P).1).K≠2 then cW 4 else { fy with S:=(M (cN M o.P).1).E }):=λU=>by
  rw[Cb (.inl hK)];unfold yB;rw[aA,aA (c:=o.K=10) (by omega)]
 have rz:Hid (∀r,r≠0->(ko M o).2=cW r->∀z,ay [] W z->vL (w.heap.size+1) #[(r:Int),(0:Int),(0:Int),(0:Int),(0:Int),(),()] (fF w b gp B (lv B M o)) z):=λr ac hd z hk=>by
  obtain⟨wy,s1,s2,s3,s4⟩:=lM jL rfl hk (by simp) r;exact⟨wy,s1,s2,fF.none h ((cM.trans' hk).trans s4 (by intro y hy;rw[au] at hy;omega)) s3 (.inr (.inl ⟨ac,hd⟩))⟩
 have tV:Hid ((cN M o.P).2≠0->(ko M o).2=cW (cN M o.P).2):=λac=>Ku (.inl hK) ac
 have rO:Hid ((cN M o.P).2=0->(nT T (cN M o.P).1).K≠2->(ko M o).2=cW 4):=λU hk=>by rw[OZ U];show(if _ then _ else _)=_;rw[aB (by rw[<-h.nd.kind];exact hk)]
 have rf:Hid ((cN M o.P).2=0->(nT T (cN M o.P).1).B.length=13/\((nT T (cN M o.P).1).K=2->∀z v g,ay [] W z->bD z v g (nT T (cN M o.P).1).E->W.heap.size<=g->vL (w.heap.size+1) #[(0:Int),(0:Int),(0:Int),(0:Int),(0:Int),(),v] (fF w b gp B (lv B M o)) z)):=λU=>by
  have hk:=(nV hT U).1;refine⟨(h.nd.store hk).len,λai z v g Cj hE hg=> ?_⟩;have JQ:Jf z { fy with S:=(nT T (cN M o.P).1).E } #[(0:Int),(0:Int),(0:Int),(0:Int),(0:Int),(),v]:=⟨.slice none 0 0,v,rfl,⟨0,qF _ _⟩,g,hE⟩;obtain⟨wy,s1,s2,s3⟩:=BZ (jL.keep Cj (by simp)) rfl JQ;have af:wU w.heap.size wy { fy with S:=(nT T (cN M o.P).1).E } #[(0:Int),(0:Int),(0:Int),(0:Int),(0:Int),(),v]:=⟨.slice none 0 0,v,rfl,⟨0,qF _ _,λh=>absurd rfl h⟩,g,hE.keep s3 (λ_=>by rw[au];omega),λ_=>by omega⟩;refine⟨wy,s1,zq s2 af.at,fF.noneAt h ((cM.trans' Cj).trans s3 (by intro y hy;rw[au] at hy;omega)) af (.inr (.inr ⟨rfl,?_,.inl ?_,?_⟩))⟩
  ·rw[OZ U];show(if _ then _ else _:mM).E=0;rw[aA (by rw[<-h.nd.kind];omega)];rfl
  ·rw[OZ U];show _=(if _ then _ else _:mM);rw[aA (by rw[<-h.nd.kind];omega),h.nd.ents]
  ·rw[OZ U];exact h.nd.stay
 have Gm:=l6;have rH:=dA;clear h hT hP hs cM jN jL ae ah OZ;unfold AX at Gn;rw[lL] at *;generalize fF w b gp B (lv B M o)=Q,cN M o.P=R,ag:aM ck (.slice none 0 0)=Z0 at *;have jy:=ar ag;generalize hJ:cB b o vp vq vd=J at *;clear hJ ag;obtain⟨x,ee⟩:=R
 dsimp only at *
 go_in;go_wp2_with(with_reducible refine gL 91 lY.out ?_);refine Gn.out.mono ?_;rintro e z ⟨G,⟨U,rfl⟩|⟨rfl,v,g,rfl,hE,hg⟩⟩
 ·obtain⟨w2,q1,q2,q3⟩:=cz (n:=ck) (v:= .slice none 0 0) (bh.new z Z0 75) (by rw[<-jy.out];rfl) rfl rfl
  have V:ay [] z w2:=((ay.refl _ _).alloc _).trans q3 (by intro x hx;rw[au] at hx;omega);obtain⟨wy,s1,s2,s3⟩:=rz.out ee U (tV.out U) w2 (G.trans' V);rw[jy.out] at q1;obtain⟨jw,HS,HL,HF⟩:=hh4 q1 s1 s2 s3;have b1:(ee != 0)=true:=by simpa using U
  clear hW q1 q2 q3 G V s1 s2 s3 U rz tV rO rf Gn fJ lU lY jy;go_wp2_with(with_reducible first|refine gS 75 jw.out ?_|refine gS 38 HS.out ?_);exact aI (bA results73 rfl HL.out) rfl HF.out
 ·obtain⟨aa,JH⟩:=rf.out rfl
  have rO:=ar (rO.out rfl);generalize nT T x=n at *;obtain⟨w2,q1,q2,q3⟩:=cz (n:=n) (v:=v) (bh.new z Z0 75) (by rw[<-jy.out];rfl) aa hE.one;have V:ay [] z w2:=((ay.refl _ _).alloc _).trans q3 (by intro x hx;rw[au] at hx;omega);have c1:w2.cell? ⟨z.heap.size,1,none⟩=some (.int .i64 n.K):=by rw[q2.cell];exact(gG v aa).f1
  have c2:w2.cell? ⟨z.heap.size,17,none⟩=some v:=by rw[q2.cell];exact(gG v aa).f5
  have jw:=ar q1;by_cases h2:n.K=2
  ·obtain⟨sa,sc,rfl,-⟩:=id hE
   obtain⟨wy,s1,s2,s3⟩:=JH h2 w2 _ g (G.trans' V) (hE.keep V (by simp)) hg;obtain⟨HS,HL,HF⟩:=hh3 s1 s2 s3;rw[h2] at c1;clear hW q1 q2 q3 G V s1 s2 s3 rz tV rO rf Gn fJ lU lY jy JH hE hg h2;generalize aM n _=Zn,n.E.length=el at *;go_wp2_with(with_reducible first|refine gS 75 jw.out ?_|refine gS 38 HS.out ?_);exact aI (bA results73 rfl HL.out) rfl HF.out
  ·obtain⟨wy,s1,s2,s3⟩:=rz.out 4 (by omega) (rO.out h2) w2 (G.trans' V)
   obtain⟨HS,HL,HF⟩:=hh3 s1 s2 s3;have b2:(n.K != 2)=true:=by simpa using h2
   clear hW q1 q2 q3 G V s1 s2 s3 rz tV rO rf Gn fJ lU lY jy JH hE hg h2;generalize aM n v=Zn,n.K=nk at *;go_wp2_with(with_reducible first|refine gS 75 jw.out ?_|refine gS 38 HS.out ?_);exact aI (bA results73 rfl HL.out) rfl HF.out
def E0:Nat->Nd:=nu (λ_=>vU) 0 ⟨2,1,[],[]⟩
theorem Wb:E0 0=⟨2,1,[],[]⟩:=rfl
theorem tP{i:Nat}(h:i≠0):E0 i=vU:=aA h
theorem Dw (i:Nat):(E0 i).E=[]:=by
 by_cases h:i=0
 ·rw[h];rfl
 ·rw[tP h];rfl
theorem Wc:dw E0 where
 out i hi:=tP (by omega)
 kind i:=by
  by_cases h:i=0
  ·rw[h];exact .inr (.inr ⟨rfl,rfl⟩)
  ·exact .inl (tP h)
 root:=rfl
 lead i e he:=by rw[Dw] at he;cases he
 rises i:=by rw[Dw];exact List.Pairwise.nil
 links i hi:=by
  have hl:∀k j,lC E0 k j=0:=λk=>by
   induction k with
   |zero=>intro j;rfl
   |succ k ih=>intro j;rw[lC,ih,Dw];rfl
  by_cases h:i=0
  ·rw[h,hl]
   exact⟨λh1=>by rw[Wb] at h1;simp at h1,λ_=>⟨rfl,λ_=>rfl,λh2=>absurd rfl h2⟩⟩
  ·rw[tP h]
   exact⟨λh1=>by simp[vU] at h1,λh1=>by simp[vU] at h1⟩
 reach i hi:=by
  by_cases h:i=0
  ·rw[h];exact .here
  ·rw[tP h] at hi;exact absurd rfl hi
theorem yK (k:Nat):(kU []).getD k 0=0:=by rw[uO];split<;>rfl
def zJ (f:Int):List (Int×Int):=[(1,f),(2,0),(0,7596835243318849792),(2,32)]
theorem wV (f:Int)(k:Nat):(az (kU []) (zJ f)).getD k 0=if k=2 then 32 else if k=0 then 7596835243318849792 else if k=1 then f else 0:=by
 have e:az (kU []) (zJ f)=((((kU []).set 1 f).set 2 0).set 0 7596835243318849792).set 2 32:=rfl;have J:=iE [];rw[e,jl _ _ _ _ (by simp only[cY];omega),jl _ _ _ _ (by simp only[cY];omega),jl _ _ _ _ (by simp only[cY];omega),jl _ _ _ _ (by omega),yK];by_cases G:k=2
 ·subst G;rfl
 ·by_cases h:k=0
  ·subst h;rfl
  ·by_cases z:k=1
   ·subst z;rfl
   ·rw[aA,aA,aA,aA,aA G,aA h,aA z]
theorem aeQ (f:Int):(az (kU []) (zJ f)).length=3128:=by rw[cj,iE]
theorem L4 (f:Int){i:Nat}(z:i<32):dS (az (kU []) (zJ f)) (i:Int):=by
 have h:∀j:Fin 32,dS (kU []) ((j.val:Nat):Int):=by decide+kernel
 refine(h ⟨i,z⟩).same λj G=> ?_
 rw[wV,yK,aA,aA,aA]
theorem Ty (f:Int)(c:Nat):dG (az (kU []) (zJ f)) c=false:=by
 unfold dG bw;rw[wV,aA,aA,aA];exact Nat.zero_testBit _
theorem acv (f:Int):(aZ (az (kU []) (zJ f))).length=255:=by
 have h:(aZ (kU [])).length=255:=by decide+kernel
 have e:aZ (az (kU []) (zJ f))=aZ (kU []):=uF λc _ _=>by
  rw[Ty];unfold dG bw;rw[yK];exact(Nat.zero_testBit _).symm
 rw[e];exact h
theorem Cf (i:Nat):nT ab3 i=ck:=by
 unfold nT ab3;rw[aj,bj];split<;>rfl
theorem O0 (b:Nat):∀k,km ab3 (λ_=>[]) k b=0
 |0=>rfl
 |k+1=>by
  rw[km,O0 b k,Cf,uu];rfl
theorem adb (J:f=1\/f=2):nL (az (kU []) (zJ f)) ab3 (λ_=>[]) [] (λ_=>vU):=by
 refine⟨⟨aeQ f,λk=> ?_,⟨?_,?_,?_,λi z U=> ?_,λi z U=> ?_⟩,⟨rfl,λi z=> .inr ⟨λn o G=>G.notFree (L4 f z),Cf i,rfl⟩⟩,λi z=> .inl (L4 f z),λb _=> ?_,by simp,λi _=> ?_,rfl,λj=> .inl rfl⟩,λi=> ?_⟩
 ·rw[wV]
  split
  ·omega
  ·split
   ·omega
   ·split<;>omega
 ·rw[wV];rfl
 ·rw[wV];exact J
 ·rw[wV,aB rfl];omega
 ·rw[wV,aA,aA,aA]
 ·rw[wV,aA,aA,aA]
 ·rw[Ty]
  unfold xz;rw[O0];simp
 ·rw[Cf]
  intro h;exact absurd h (by decide)
 ·rw[Cf,Zc]
def Ab (f:Int):bT:=⟨f,2,1,0,List.replicate 13 0,[]⟩
theorem RF (h:f=1\/f=2):ct (Ab f):=by rcases h with rfl|rfl<;>decide+kernel
theorem Wd (h:f=1\/f=2):dx (Ab f)=0:=by rcases h with rfl|rfl<;>decide+kernel
theorem RG (f:Int):dn (Ab f)=[]:=rfl
theorem acw (J:f=1\/f=2){r:Int}{qs:List (Int×Int)}(hp:nU (az (kU []) (zJ f)) 0 (Ab f) r qs):
  r=0/\∃T own,mN (az (kU []) (zJ f++qs)) T own [] E0/\(aZ (az (kU []) (zJ f++qs))).length=255/\(az (kU []) (zJ f++qs)).getD 8 0=0:=by
 have hR:=RF J;have hN:=Wd J;have hF:dS (az (kU []) (zJ f)) ((0:Nat):Int):=L4 f (by omega);have G:=adb J;rw[bz];rcases hp with ⟨-,z,-⟩|⟨-,-,z,-⟩|⟨own,-,W,z⟩
 ·exact absurd ⟨by omega,hR⟩ z
 ·exact absurd hF z
 ·have W:own=[]:=by
   rcases W with U|⟨m,U⟩
   ·exact U.2
   ·exact absurd hF U.notFree
  subst W;rcases z with ⟨-,z,-⟩|⟨h0,z,rfl⟩
  ·rw[hN] at z;omega
  ·obtain⟨cX,h3,h4,V,h6,-⟩:=G.putAt (i:=0) (by omega) (n:=Ab f) rfl hR z (ex':=[]) (λb _=>by rw[Cf,uu,RG]) (by simp) (λh=>absurd h (by show ¬(2:Int)=1;omega))
   rw[hN] at V;have h7:nu (λ_=>vU) 0 (tH (az (kU []) (zJ f)) (Ab f))=E0:=rfl;rw[h7] at h3;refine⟨h0,_,cX,h3.snd Wc,?_,?_⟩
   ·rw[acv] at V
    exact V
   ·have :=h6 8 (by omega)
    rw[wV] at this;exact this
theorem mN.journal(h:mN X T own [] M)(U:Y.length=3128)(z:In64 Y)(G:∀k,k<3128->(k<8\/816<=k)->Y.getD k 0=X.getD k 0):
  mN Y T own [] M/\aZ Y=aZ X:=by
 obtain⟨J,V⟩:=h.st.journal U z G;refine⟨⟨J,λj=>by rw[h.abs,h.st.nodes V (by simp)],h.tree⟩,uF λc W _=> ?_⟩;unfold dG bw;rw[G _ (by omega) (by omega)]
def RH (X:List Int) (M:Nat->Nd):Prop:=X.getD 8 0=0/\∃T own,mN X T own [] M
theorem RH.len(h:RH X M):X.length=3128:=by obtain⟨-,T,own,h⟩:=h;exact h.st.len
theorem RH.w64(h:RH X M):In64 X:=by obtain⟨-,T,own,h⟩:=h;exact h.st.w64
theorem RH.tree(h:RH X M):dw M:=by obtain⟨-,T,own,h⟩:=h;exact h.tree
theorem RH.few(h:RH X M):ni M:=by obtain⟨-,T,own,h⟩:=h;exact h.few
theorem RH.lands{M':Nat->Nd}(h:RH X M){qs:List (Int×Int)}(hl:Aa X qs M')(hT:dw M'):
  okP (dh X (az X qs) 3128)/\xJ (dh X (az X qs) 3128)=true/\(dh X (az X qs) 3128).length<=400/\RH (nO X (dh X (az X qs) 3128)) M'/\
   ∀Z:List Int,Z.length=3128->In64 Z->(∀k,k<3128->(k<8\/816<=k)->Z.getD k 0=(az X qs).getD k 0)->∃T own,mN Z T own [] M':=by
 obtain⟨h8,T,own,V⟩:=h;obtain⟨W,U,hn,hj,L,hL,J⟩:=hl;have z:(dh X (az X qs) 3128).length<=400:=cG (ace J) hL;have G:=hn.snd hT;obtain⟨c1,c2,c3,c4,c5,c6⟩:=OC V.st.len V.st.w64 G.st.w64 hj h8 z;exact⟨c1,c2,z,⟨c5,W,U,(G.journal c3 c4 c6).1⟩,λZ z1 z2 z3=>⟨W,U,(G.journal z1 z2 z3).1⟩⟩
theorem aag{T:Nat}{h:Value}(z:bh w g (B0 o h vq vd) T):(loadVar 42 g).run prog w= .ok (.agg #[o.K,h,vq,o.O,o.N,vd]) w:=
 bZ g 0 [.int .i64 o.K,h,vq,.int .i64 o.O,.int .i64 o.N,vd] underlying42 rfl (by kernel_rfl) λj _=>by
  rw[z.cell,bc,<-aF];rfl
def DoP (w:World) (X:List Int) (M:Nat->Nd) (o:jz) (ks:List Nat) (C:List (Int×Int)->Int->World->Prop) (e:Ending) (w':World):Prop:=
 ∃r Z,e= .returned (.agg Z)/\wU w.heap.size w' r Z/\
  ((ay [] w w'/\r.E≠0/\∃h qs,lv X M o h qs/\r=cW h.E)\/
  (ay ks w w'/\∃h qs x,lv X M o h qs/\h.E=0/\C (dh X (az X qs) 3128) x w'/\((x=0/\r=h)\/(x≠0/\r=cW x))))
theorem lv.E_zero{r:mM}{qs:List (Int×Int)}(h:lv X M o r qs)(G:r.E=0):(ko M o).2.E=0/\aeL o r (ko M o).2/\Aa X qs (ko M o).1:=by
 rcases h with ⟨z,-⟩|⟨z,-⟩|⟨-,V,U,J⟩
 ·omega
 ·exact absurd G z
 ·exact⟨V,U,J⟩
theorem acx{f:Nat}{vp:Value}{ks:List Nat}{C:List (Int×Int)->Int->World->Prop}
  (aV:L3 M o) (hf:aac w f b) (h:fx w b gn gl gf s) (hX:s.now=X) (hp:∀k:Nat,k<s.now.length->s.refusal (k:Int)=0/\s.load (k:Int)=s.now.getD k 0) (hs:RH X M) (hT:kN w) (hI:EZ w o vp vq vd) (ag:∀y∈ks,y<w.heap.size)
  (hC:∀ps x wa wb l,(∀y∈l,w.heap.size<=y)->ay l wa wb->C ps x wa->C ps x wb)
  (aN:∀w1 v g qs U,ay [] w w1->lv X M o U qs->U.E=0->lQ w1 v g (dh X (az X qs) 3128)->w.heap.size<=g->Calls prog 34 #[b,v] w1 λe w2=>∃x,e=(x:Int)/\ay ks w1 w2/\C (dh X (az X qs) 3128) x w2):
  Calls prog 11 #[f,B0 o vp vq vd] w (DoP w X M o ks C):=by
 have bg:=hf.lt;obtain⟨W,hW⟩:∃W,(w.alloc (.cells (B0 o vp vq vd) 42)).alloc (.cells (zo fy (.slice none 0 0) (.slice none 0 0)) 38)=W:=⟨_,rfl⟩;have cM:ay [] w W:=by rw[<-hW];exact((ay.refl _ _).alloc _).alloc _
 have aP:bh W w.heap.size (B0 o vp vq vd) 42 :=by rw[<-hW];exact(bh.new w _ _).alloc _
 have jL:bh W (w.heap.size+1) (zo fy (.slice none 0 0) (.slice none 0 0)) 38 :=by rw[<-hW];exact bh.new2 w _ _ _ _
 have aU:W.heap.size=w.heap.size+2:=by rw[<-hW,aX,aX]
 have HW:=ar hW
 -- what the calls leave
 have ax:Hid (∀wx l,(∀y∈l,w.heap.size<=y)->ay l W wx->wx.cell? f=some (.pointer (some ⟨b,0,none⟩))):=λwx l hl hk=>by
  have h1:bh W f _ _:=hf.keep cM (by simp);have h2:=h1.keep hk (λhm=>by have :=hl f hm;omega);rw[h2.cell];rfl
 have c0:=ax.out W [] (by simp) (ay.refl _ _);have mY:=ar (Ie (h.keep cM (by simp) (by simp)) hp);rw[hX] at mY;have OW:kU X=X:=by
  apply cV (by rw[iE,hs.len]);intro k h1 h2;have :=uO X k;rw[iE] at h1;rw[aj,aD (by rw[iE];exact h1),fc] at this;rw[this,aB h1,aj,aD h2];rfl
 have aT:=ar OW;have vT:Hid (∀w2 G,ay [] W w2->w.heap.size+2<=G->eK w2 G G X []->Calls prog 33 #[cB G o vp vq vd] w2 λe w'=>∃fn,e= .returned (.func (.func fn) #[cB G o vp vq vd] #[])/\ay [] w2 w'/\(∀wx,(callFunc fn #[cB G o vp vq vd]).run prog wx= .ok (.enter fn #[cB G o vp vq vd]) wx)/\Calls prog fn #[cB G o vp vq vd] w' (fF w' G G X (lv X M o))):=λw2 G hk hb aa=>by
  obtain⟨-,T,own,EY⟩:=id hs;have bf:rC w2 G G X [] T own [] M:=⟨aa,by rw[Ae];exact EY.nd,⟨aa.raw.lt,aa.raw.lt⟩,λwx hx=>hT.keep ((cM.trans' hk).trans hx λy V=> .inr (by simp only[aL,aK,bC,or_self] at V;omega))⟩;refine(aV w2 G G X T own vp vq vd bf hs.tree ((hI.keep cM).keep hk)).mono ?_;rintro e w' ⟨fn,rfl,h1,ah,h2⟩;exact⟨fn,rfl,h1,ah,h2 w' h1⟩
 have Gd:Hid (∀w5 (G gp:Nat) qs U,ay [] W w5->eK w5 G gp X qs->lv X M o U qs->U.E=0->∀wx,ay [] w5 wx->Calls prog 35 #[(G:Nat)] wx λe w6=>∃a n cap,e= .returned (.slice a n cap)/\w6.cell? f=some (.pointer (some ⟨b,0,none⟩))/\
   Hid (Calls prog 34 #[b,.slice a n cap] w6 λe z=>∃x,e=(x:Int)/\Hid (ay ks w5 z/\C (dh X (az X qs) 3128) x z))):=λw5 G gp qs U hk aa hO h0 wx Cj=>by
  refine(RD (aa.keep Cj (by simp) (by simp))).mono ?_;rintro e w6 ⟨v,g,rfl,hr,hg,jv⟩;obtain⟨a,cap,rfl,-,-⟩:=hr.val;have O3:=Cj.trans' jv;refine⟨a,_,cap,rfl,ax.out w6 [] (by simp) (hk.trans' O3),?_⟩;have h1:=aN w6 _ g qs U (cM.trans' (hk.trans' O3)) hO h0 hr (by have :=Cj.size;have :=hk.size;omega);show Calls _ _ _ _ _;refine h1.mono ?_;rintro e z ⟨x,rfl,h2,h3⟩;exact⟨x,rfl,(O3.mono (by simp)).trans' h2,h3⟩
 -- an error, and what is told
 have rz:Hid (∀w5 l U qs,ay l W w5->(∀y∈l,w.heap.size+2<=y)->lv X M o U qs->U.E≠0->vL (w.heap.size+1) #[U.E,(0:Int),(0:Int),(0:Int),(0:Int),(),()] (DoP w X M o ks C) w5):=λw5 l U qs hk hl hO h0=>by
  obtain⟨wy,s1,s2,s3,s4⟩:=lM jL rfl hk (λhm=>by have :=hl _ hm;omega) U.E;refine⟨wy,s1,s2,cW U.E,_,rfl,s3 _,.inl ⟨?_,h0,U,qs,hO,rfl⟩⟩;have :=(cM.trans hk (λy V=> .inr (by have :=hl y V;omega))).trans s4 (l':=[w.heap.size+1]) (λy V=> .inr (by rw[au] at V;omega));exact this
 have aH:Hid (∀w5 z l U qs x,ay l W w5->(∀y∈l,w.heap.size+2<=y)->ay ks w5 z->lv X M o U qs->U.E=0->C (dh X (az X qs) 3128) x z->x≠0->vL (w.heap.size+1) #[(x:Int),(0:Int),(0:Int),(0:Int),(0:Int),(),()] (DoP w X M o ks C) z):=λw5 z l U qs x hk hl E9 hO h0 hc hx=>by
  have Mf:=(jL.keep hk (λhm=>by have :=hl _ hm;omega)).keep E9 (λhm=>by have :=ag _ hm;omega);obtain⟨wy,s1,s2,s3,s4⟩:=lM Mf rfl (ay.refl [] z) (by simp) x;refine⟨wy,s1,s2,cW x,_,rfl,s3 _,.inr ⟨?_,U,qs,x,hO,h0,hC _ _ z wy _ (by intro y V;rw[au] at V;omega) s4 hc,.inr ⟨hx,rfl⟩⟩⟩;have h1:ay [] w w5:=cM.trans hk (λy V=> .inr (by have :=hl y V;omega));exact((h1.mono (by simp)).trans' E9).trans s4 (λy V=> .inr (by rw[au] at V;omega))
 have rf:Hid (∀w4 w5 z l U Z qs,ay l W w4->(∀y∈l,w.heap.size+2<=y)->wU (w.heap.size+2) w4 U Z->ay [w4.heap.size] w4 w5->bh w5 w4.heap.size Z 38->ay ks w5 z->lv X M o U qs->U.E=0->C (dh X (az X qs) 3128) 0 z->
   (loadVar 38 w4.heap.size).run prog z= .ok (.agg Z) z/\vL (w.heap.size+1) Z (DoP w X M o ks C) z):=λw4 w5 z l U Z qs hk hl hr rG rT E9 hO h0 hc=>by
  have bn:=hk.size;have bj:wU (w.heap.size+2) w5 U Z:=by
   obtain⟨ad,ae,e,⟨g1,a1,a2⟩,g2,b1,b2⟩:=hr;refine⟨ad,ae,e,⟨g1,?_,a2⟩,g2,?_,b2⟩
   ·by_cases hD:U.D=[]
    ·rw[hD] at a1 ⊢
     obtain⟨x1,x2,x3,x4,x5,-⟩:=a1;exact⟨x1,x2,x3,x4,x5,λh=>absurd rfl h⟩
    ·exact a1.keep rG (λhm=>by
      rw[au] at hm;obtain⟨_,_,_,_,_,x6⟩:=a1;have :=(x6 (by intro e;apply hD;simpa[kS] using e)).1;omega)
   ·refine b1.keep rG (λhn hm=> ?_)
    rw[au] at hm;obtain⟨_,_,_,_,_,x6⟩:=b1;have :=(x6 hn).1;omega
  have Mf:=rT.keep E9 (λhm=>by have :=ag _ hm;omega);have aM:=bj.keep E9 (λx hx=>by have :=ag x hx;omega);have bc:=((jL.keep hk (λhm=>by have :=hl _ hm;omega)).keep rG (by rw[au];omega)).keep E9 (λhm=>by have :=ag _ hm;omega);obtain⟨wy,s1,s2,s3⟩:=BZ bc rfl aM.at;have aW:=aM.keep s3 (λx hx=>by rw[au] at hx;omega);refine⟨zq Mf aM.at,wy,s1,zq s2 aW.at,U,Z,rfl,aW.mono (by omega),.inr ⟨?_,U,qs,0,hO,h0,hC _ _ z wy _ (by intro y V;rw[au] at V;omega) s3 hc,.inl ⟨rfl,rfl⟩⟩⟩;have h1:ay [] w w5:=(cM.trans hk (λy V=> .inr (by have :=hl y V;omega))).trans rG (λy V=> .inr (by rw[au] at V;omega));exact((h1.mono (by simp)).trans' E9).trans s3 (λy V=> .inr (by rw[au] at V;omega))
 have Li:Hid (∀wx,ay [] W wx->(loadVar 42 w.heap.size).run prog wx= .ok (.agg #[o.K,vp,vq,o.O,o.N,vd]) wx):=λwx hk=>aag (aP.keep hk (by simp))
 have lU:=ar aU;have Gm:=l6;clear aV h hX hp hs hT hI ag hC aN hf bg cM aP jL aU OW;rw[lL] at hW Gm;generalize DoP w X M o ks C=Q at *;unfold B0 at hW;show Calls _ _ #[f,.agg #[o.K,vp,vq,o.O,o.N,vd]] w Q;go_in;go_wp2_with fail;refine mY.out.mono ?_;rintro e w1 ⟨v,g,rfl,hr,hg,aR⟩;have HN:=Bg hr;rw[aT.out] at HN;obtain⟨HN,jH⟩:=hh2 HN aR;clear hr hg aR mY aT hW c0;go_wp2_with fail;refine HN.out.mono ?_;rintro e w2 ⟨G,rfl,bk,aa,aQ⟩;have uC:=jH.out.trans' aQ;have ak:w.heap.size+2<=G:=by have :=jH.out.size;have :=lU.out;omega
 obtain⟨HD,aS,fo⟩:=hh3 (vT.out w2 G uC ak aa) (Li.out w2 uC) uC;have oP:Hid (w.heap.size+2<=G/\G<w2.heap.size):=⟨ak,aa.raw.lt⟩;clear bk aa aQ uC ak HN jH Li vT;obtain⟨J,hJ⟩:∃J,cB G o vp vq vd=J:=⟨_,rfl⟩;have aY:=ar hJ;unfold cB at hJ;rw[aY.out] at HD;go_wp2_with(with_reducible refine gL 42 aS.out ?_);refine HD.out.mono ?_;rintro e w3 ⟨fn,rfl,aC,ah,aZ⟩;obtain⟨bl,aG,oI⟩:=hh3 (ah w3) aZ (fo.out.trans' aC);have qK:Hid (G<w3.heap.size/\W.heap.size<=G):=by have :=oP.out;have :=lU.out;have :=aC.size;exact⟨by omega,by omega⟩
 clear aC aZ ah HD fo aS oP hJ aY;go_wp2_with fail;rw[bl.out,Oper.upon_enter];refine aG.out.mono ?_;rintro e w4 ⟨r,Z,qs,gp,rfl,af,aO,ac,aJ,ba,SX⟩;have Jg:ay [] W w4:=oI.out.trans aJ λy V=> .inr (by simp only[aL,aK,bC,or_self] at V;have :=qK.out;omega)
 obtain⟨w5,p1,p2,p3⟩:=BZ (bh.new w4 #[(0:Int),(0:Int),(0:Int),(0:Int),(0:Int),(),()] 38) rfl af.at;have rG:ay [w4.heap.size] w4 w5:=((ay.refl _ _).alloc _).trans' p3;have We:ay [] W w5:=Jg.trans rG λy V=> .inr (by rw[au] at V;have :=Jg.size;omega)
 have aF:eK w5 G gp X qs:=ac.keep rG (by rw[au];have :=ac.raw.lt;omega) (by rw[au];have :=ac.raw.lt;omega);have c5:w5.cell? w4.heap.size=some (.int .i64 r.E):=by
  obtain⟨_,_,rfl,-⟩:=af;rw[p2.cell];rfl
 have rA:=ar p1;have aA:wU (w.heap.size+2) w4 r Z:=af.mono (by have :=oI.out.size;have :=lU.out;omega);by_cases hE:r.E=0
 ·have BI:=ar (Gd.out w5 G gp qs r We aF SX hE)
  have HX:Hid (∀z x,ay ks w5 z->C (dh X (az X qs) 3128) x z->x≠0->vL (w.heap.size+1) #[(x:Int),(0:Int),(0:Int),(0:Int),(0:Int),(),()] Q z):=λz x h1 h2 h3=>aH.out w5 z [] r qs x We (by simp) h1 SX hE h2 h3
  have av:Hid (∀z,ay ks w5 z->C (dh X (az X qs) 3128) 0 z->(loadVar 38 w4.heap.size).run prog z= .ok (.agg Z) z/\vL (w.heap.size+1) Z Q z):=λz h1 h2=>rf.out w4 w5 z [] r Z qs Jg (by simp) aA rG p2 h1 SX hE h2
  have c0:=ax.out w5 [] (by simp) We;rw[hE] at c5;generalize C (dh X (az X qs) 3128)=CC at *;clear Gd rz aH rf af aA aO ac aJ ba SX Jg p1 p2 p3 rG We aF aG oI qK hE;go_wp2_with(with_reducible refine gS 38 rA.out ?_)
  go_upto_region 9 with fail
  go_cut [10] (λXw wx=>∃x:Int,Xw= .int .i64 x/\Hid (ay ks w5 wx/\CC x wx))
  case first=>
   go_region_with (first|(go_at_call 35;refine(BI.out _ (by first|exact ay.refl _ _|exact(ay.refl _ _).drew)).mono ?_;rintro e w6 ⟨a,n,cap,rfl,c6,Le⟩)|(go_at_call 34;refine Le.out.mono ?_;rintro e z ⟨x,rfl,bb⟩))
   all_goals go_wp2_with fail
   all_goals go_meet
   all_goals exact⟨_,rfl,bb⟩
  case rest=>
   obtain⟨x,rfl,HC⟩:=hcut;obtain⟨E9,ai⟩:=HC.out;by_cases hx:x=0
   ·subst hx
    obtain⟨l1,wy,s1,s2,s3⟩:=av.out wc E9 ai;obtain⟨xC,HS,HL,HF⟩:=hh4 l1 s1 s2 s3;clear BI HX av HC E9 ai l1 s1 s2 s3 rA c0 c5;go_wp2_with(with_reducible first|refine gL 38 xC.out ?_|refine gS 38 HS.out ?_);exact aI (bA results11 rfl HL.out) rfl HF.out
   ·obtain⟨wy,s1,s2,s3⟩:=HX.out wc x E9 ai hx
    have b1:(x != 0)=true:=by simpa using hx
    obtain⟨HS,HL,HF⟩:=hh3 s1 s2 s3;clear BI HX av HC E9 ai s1 s2 s3 rA c0 c5 hx;go_wp2_with(with_reducible refine gS 38 HS.out ?_);exact aI (bA results11 rfl HL.out) rfl HF.out
 ·obtain⟨wy,s1,s2,s3⟩:=rz.out w5 [] r qs We (by simp) SX hE
  have b1:(r.E != 0)=true:=by simpa using hE
  obtain⟨HS,HL,HF⟩:=hh3 s1 s2 s3;clear Gd rz aH rf af aA aO ac aJ ba SX Jg p1 p2 p3 rG We aF aG oI qK hE s1 s2 s3;go_wp2_with(with_reducible first|refine gS 38 rA.out ?_|refine gS 38 HS.out ?_);exact aI (bA results11 rfl HL.out) rfl HF.out
def nF (n:Nat):List Bool:=List.replicate n false
def mF (n q:Nat):List Bool:=(List.range n).map λj=>decide (j<8*q)
theorem aeT (n k:Nat):(nF n).set k false=nF n:=by
 unfold nF;apply cV (by simp);intro j z h;rw[List.getElem_set];split<;>simp
theorem acy (n:Nat):mF n 0=nF n:=by
 unfold nF mF;apply cV (by simp);intro j z h;simp
theorem aeU (n q:Nat):(mF n q).length=n:=by simp[mF]
theorem acz (n q:Nat):Ah (mF n q) q 8=mF n (q+1):=by
 unfold Ah mF;apply cV (by simp);intro j G z;simp only[List.getElem_mapIdx,ic,jV];by_cases h:q*8<=j/\j<q*8+8
 ·rw[aB h]
  exact(bu (by omega)).symm
 ·rw[aA h]
  exact decide_eq_decide.2 (by omega)
theorem aeV{q j:Nat}(h:j<n)(z:j<8*q):(mF n q).getD j false=true:=by
 unfold mF;rw[aj,bJ,cC h];exact bu z
def xB (N:Nat) (xs ws:List Int) (d:Int) (k:Nat):kp:={ now:=mix ws xs k,last:=xs,fl:=nF N,deeds:=d+(k:Int),fused:=false,left:=0 }
def Fw (N:Nat) (xs ws:List Int) (d:Int) (q:Nat):kp:={ now:=ws,last:=xs,fl:=mF N q,deeds:=d+(N:Int)+(q:Int),fused:=false,left:=0 }
section
variable {N:Nat} {xs ws:List Int} {d:Int} {k q:Nat}
theorem Wf (G:N=3128)(z:xs.length=N):xB N xs ws d 0=calm xs d:=by
 have h:nF N=List.replicate ((xs.length+7)/8*8) false:=by
  unfold nF
  congr 1
  omega
 unfold xB calm;rw[Xd,h]
 congr 1
 exact Int.add_zero d
theorem Ex (G:xs.length=N)(U:ws.length=N)(J:k<N):(xB N xs ws d k).refusal (k:Int)=0:=by
 unfold kp.refusal;have h:¬(xB N xs ws d k).gone=true:=Bool.false_ne_true;have z:(xB N xs ws d k).now.length=N:=by
  show(mix ws xs k).length=N;rw[aaT _ _ _ (by omega),G]
 rw[aA h,z,aA]
theorem Wh (J:xs.length=N)(U:ws.length=N)(h:k<N):(xB N xs ws d k).store (k:Int) (ws.getD k 0)=xB N xs ws d (k+1):=by
 unfold kp.store;rw[aB (Ex J U h),aG];have z:(xB N xs ws d k).now.set k (ws.getD k 0)=mix ws xs (k+1):=(Xe ws xs k (by omega) (by omega)).symm;have G:(xB N xs ws d k).fl.set k false=nF N:=aeT N k;rw[z,G];show({ now:=mix ws xs (k+1),last:=xs,fl:=nF N,deeds:=d+(k:Int)+1,fused:=false,left:=0 }:kp)={ now:=mix ws xs (k+1),last:=xs,fl:=nF N,deeds:=d+((k+1:Nat):Int),fused:=false,left:=0 }
 congr 1
 omega
theorem aaj (h:xs.length=N)(z:ws.length=N):xB N xs ws d N=Fw N xs ws d 0:=by
 unfold xB Fw;rw[aaS _ _ _ (by omega) (by omega),acy]
 congr 1
 omega
theorem Ig (z:ws.length=N)(J:8*q<N):(Fw N xs ws d q).refusal ((8*q:Nat):Int)=0:=by
 unfold kp.refusal;have h:¬(Fw N xs ws d q).gone=true:=Bool.false_ne_true;have G:(Fw N xs ws d q).now.length=N:=z;rw[aA h,G,aA]
theorem aak (z:ws.length=N)(h:8*q<N):(Fw N xs ws d q).flush ((8*q:Nat):Int)=Fw N xs ws d (q+1):=by
 unfold kp.flush;have G:Ah (Fw N xs ws d q).fl (((8*q:Nat):Int).toNat/8) 8=mF N (q+1):=by
  rw[aG,show 8*q/8=q by omega];exact acz N q
 rw[aB (Ig z h),G];show({ now:=ws,last:=xs,fl:=mF N (q+1),deeds:=d+(N:Int)+(q:Int)+1,fused:=false,left:=0 }:kp)={ now:=ws,last:=xs,fl:=mF N (q+1),deeds:=d+(N:Int)+((q+1:Nat):Int),fused:=false,left:=0 }
 congr 1
 omega
theorem Wi (hN:N=3128)(hq:q=391)(hx:xs.length=N)(J:ws.length=N):(Fw N xs ws d q).fence=calm ws (d+3520):=by
 unfold kp.fence;have V:¬(Fw N xs ws d q).gone=true:=Bool.false_ne_true;have U:iI (Fw N xs ws d q) (Fw N xs ws d q).now.length=ws:=by
  have z:=DJ (Fw N xs ws d q) (Fw N xs ws d q).now.length;have h:(Fw N xs ws d q).last.length=N:=hx;apply cV (by rw[z,h,J]);intro j G W;rw[z,h] at G;have hn:(Fw N xs ws d q).now.length=N:=J;simp only[iI,List.getElem_mapIdx];rw[aB ⟨by omega,aeV G (by omega)⟩];show ws.getD j 0=ws[j];rw[aj,aD W];rfl
 have h2:(Fw N xs ws d q).fl.length=(ws.length+7)/8*8:=by
  show(mF N q).length=_;rw[aeU];omega
 rw[aA V,U,h2];show({ now:=ws,last:=ws,fl:=List.replicate ((ws.length+7)/8*8) false,deeds:=d+(N:Int)+(q:Int)+1,fused:=false,left:=0 }:kp)={ now:=ws,last:=ws,fl:=List.replicate ((ws.length+7)/8*8) false,deeds:=d+3520,fused:=false,left:=0 }
 congr 1
 omega
theorem aal (h:0<=d)(z:d<1000000000000000000)(G:k<=3128):(xB N xs ws d k).fit:=by
 unfold kp.fit xB
 dsimp only
 omega
theorem Tz (G:N=3128)(h:0<=d)(z:d<1000000000000000000)(J:q<=3128):(Fw N xs ws d q).fit:=by
 unfold kp.fit Fw
 dsimp only
 omega
end
theorem RI{xs ws:List Int}{d:Int}(h:fx w b gn gl gf (calm xs d))(h0:0<=d)(hd:d<100000000000000000)(au:xs.length=3128)(ag:ws.length=3128){v:Value}{g:Nat}(hr:Reads w v g (aY ws))(hg:g∉[b,gn,gl,gf]):
  Calls prog 49 #[b,v] w λe w'=>e=(0:Int)/\fx w' b gn gl gf (calm ws (d+3520))/\ay [b,gn,gl,gf] w w':=by
 obtain⟨N,hN⟩:∃N:Nat,N=3128:=⟨_,rfl⟩;have hx:xs.length=N:=by omega
 have hw:ws.length=N:=by omega
 obtain⟨a,cap,rfl,ak,ai,HC⟩:=fW hr;obtain⟨ae,off,rfl,-⟩:=HC.out 0 (by omega);have UU:Hid (∀G,ay [b,gn,gl,gf] w G->∀k,k<3128->G.cell? ⟨g,off+k,none⟩=some (.int .u64 (ws.getD k 0))):=λG hk k aa=>by
  obtain⟨-,av,e1,e2⟩:=HC.out k (by omega);cases e1;rw[aO (w:=w) (a:=⟨g,off+k,none⟩) (hk.block g ae hg)];exact e2
 rw[ag] at ak ⊢;unfold maxLen at ai;have H0:Hid (fx w b gn gl gf (xB N xs ws d 0)):=by
  show fx _ _ _ _ _ _;rw[Wf hN hx];exact h
 have ac:Hid (∀G (k:Nat),k<3128->fx G b gn gl gf (xB N xs ws d k)->Calls prog 105 #[b,(k:Int),.int .u64 (ws.getD k 0)] G λe w'=>e=(0:Int)/\fx w' b gn gl gf (xB N xs ws d (k+1))/\ay [b,gn,gl,gf] G w'):=λG k hk U=>by
  have :=Mw U (aal h0 (by omega) (by omega)) (k:Int) (ws.getD k 0);rw[Ex hx hw (by omega),Wh hx hw (by omega)] at this;exact this
 have Vl:Hid (∀G (q:Nat),q<391->fx G b gn gl gf (Fw N xs ws d q)->Calls prog 106 #[b,((8*q:Nat):Int)] G λe w'=>e=(0:Int)/\fx w' b gn gl gf (Fw N xs ws d (q+1))/\ay [b,gn,gl,gf] G w'):=λG q hq U=>by
  have :=Mx U (Tz hN h0 (by omega) (by omega)) ((8*q:Nat):Int);rw[Ig hw (by omega),aak hw (by omega)] at this;exact this
 have Ny:Hid (∀G,fx G b gn gl gf (Fw N xs ws d 391)->Calls prog 107 #[b] G λe w'=>e=(0:Int)/\fx w' b gn gl gf (calm ws (d+3520))/\ay [b,gn,gl,gf] G w'):=λG U=>by
  have :=Mz U (Tz hN h0 (by omega) (by omega));rw[Wi hN rfl hx hw] at this;exact this
 have ug:Hid (∀G,fx G b gn gl gf (xB N xs ws d 3128)->fx G b gn gl gf (Fw N xs ws d 0)):=λG U=>by
  have :=aaj (d:=d) hx hw;rw[hN] at this U ⊢;rw[this] at U;exact U
 clear h hx hw au ag hr HC ae hg h0 hd hN;go_in;go_wp2_with fail;go_loopg [5,6,7,12] 3128 (λgh s5 s6 s7 s12 G=>∃k:Nat,k+gh=3128/\s12= .int .i64 (k:Int)/\
  Hid (fx G b gn gl gf (xB N xs ws d k)/\ay [b,gn,gl,gf] w G))
 case atStart=>exact⟨0,by omega,rfl,H0.out,ay.refl _ _⟩
 case round=>
  obtain⟨k,hk,rfl,HI⟩:=hrel;cases gk with
  |zero=>
   obtain rfl:k=3128:=by omega
   clear ac UU H0;go_wp2_with fail;go_loopg [8,9] 391 (λgh s8 s9 G=>∃q:Nat,q+gh=391/\s8= .int .i64 ((8*q:Nat):Int)/\
    Hid (fx G b gn gl gf (Fw N xs ws d q)/\ay [b,gn,gl,gf] w G))
   case atStart=>exact⟨0,by omega,rfl,ug.out _ HI.out.1,HI.out.2⟩
   case round=>
    obtain⟨q,hq,rfl,HJ⟩:=hrel;cases gk with
    |zero=>
     obtain rfl:q=391:=by omega
     obtain⟨Qy,J⟩:=hh2 (Ny.out _ HJ.out.1) HJ.out.2;clear Vl Ny ug HI HJ;go_wp2_with fail;refine Rr Qy.out ?_;rintro w3 ⟨V,W⟩;have HF:Hid (fx w3 b gn gl gf (calm ws (d+3520))/\ay [b,gn,gl,gf] w w3):=⟨V,J.out.trans' W⟩;clear V W Qy J;go_wp2_with fail;go_ret;exact⟨rfl,HF.out⟩
    |succ gg=>
     have aj:((8*q:Nat):Int)<3128:=by omega
     obtain⟨ah,J⟩:=hh2 (Vl.out _ q (by omega) HJ.out.1) HJ.out.2;have ax:q<391:=by omega
     have Mg:((8*q:Nat):Int)+8=((8*(q+1):Nat):Int):=by omega
     have az:(0:Int)<=((8*q:Nat):Int):=by omega
     generalize hz:((8*q:Nat):Int)=z at *;clear Vl HI HJ Ny ug;go_wp2_with fail;refine Rr ah.out ?_;rintro w3 ⟨V,W⟩;obtain⟨Ct,oI⟩:=hh2 V (J.out.trans' W);clear V W ah J;go_wp2_with fail;go_roundg gg;case measure=>omega
     case rel=>exact⟨q+1,by omega,by rw[<-Mg];go_num,Ct.out,oI.out⟩
  |succ gg=>
   have aj:(k:Int)<3128:=by omega
   have aa:k<3128:=by omega
   have hc:=UU.out _ HI.out.2 k aa;obtain⟨HS,af⟩:=hh2 (ac.out _ k aa HI.out.1) HI.out.2;generalize ws.getD k 0=x at *;clear ac Vl Ny ug UU HI;go_wp2_with fail;refine Rr HS.out ?_;rintro w3 ⟨V,W⟩;obtain⟨Ct,oI⟩:=hh2 V (af.out.trans' W);clear V W HS af;go_wp2_with fail;go_roundg gg;case measure=>omega
   case rel=>exact⟨k+1,by omega,by go_num,Ct.out,oI.out⟩
theorem RJ (w:World):(zeroValue 119).run prog w= .ok (.agg (aY (kU [])).toArray) w:=by kernel_rfl
theorem O4 (h:bh w g (aY X).toArray 119)(lx:X.length=3128)(Y:List Int)(z:Y.length=3128):
  ∃w',(storeVar 119 g (.agg (aY Y).toArray)).run prog w= .ok () w'/\bh w' g (aY Y).toArray 119/\ay [g] w w':=by
 refine⟨_,jK g 0 (aY Y) _ (by rw[bB,z];exact vW) h (by rw[bN,bB,bB];omega) (fk Y),?_,(ay.refl _ _).setRow (by simp) _⟩;have e:((aY X).toArray.toList.take 0++aY Y++(aY X).toArray.toList.drop (0+(aY Y).length)).toArray=(aY Y).toArray:=by
  rw[eP,bQ,dz (by rw[bB,bB];omega),br]
 rw[e];exact kr h
theorem Wj{T:Nat}(z:bh w g (aY Y).toArray T)(h:Y.length=n)(G:n<=maxLen):Reads w (.slice g n n) g (aY Y):=by
 refine⟨some ⟨g,0,none⟩,n,by rw[bB,h],by rw[bB,h];exact aH _,G,λ_=>⟨z.lt,0,rfl,λj J=> ?_⟩⟩;rw[z.cell,bc];simp
theorem O5 (h:kW w b gp B X us):
  Calls prog 28 #[b] w (jJ w X):=by
 obtain⟨lb,lx,vp,U,h2,h3⟩:=h;have HL:=ar (FL U lb lx);have hz:=RJ;obtain⟨V,G,J,z⟩:=O4 (bh.new w (aY (kU [])).toArray 119) (iE []) X lx;have TM:=ar G;have W:Hid (jJ w X (.returned (.slice w.heap.size 3128 3128)) V):=
  ⟨_,w.heap.size,rfl,Wj J lx (by simp[maxLen]),aH _,((ay.refl [] w).alloc _).trans z (by simp)⟩
 clear U h2 h3 G J z lb lx;generalize (aY (kU [])).toArray=Z,(aY X).toArray=Y at *;go_in;go_wp2_with(with_reducible first|refine gL 119 HL.out ?_|refine gS 119 TM.out ?_);go_ret;exact W.out
theorem RL (h:eK w b z B ps):
  Calls prog 28 #[b] w (jJ w (az B ps)):=O5 h.raw
end Go.Proofs.YtimcfdnbpkiniaaGreatDoor
