/- Lemmas. -/
import Derived.Test.YtimcfdnbpkiniaaGreatDoorM08
set_option maxHeartbeats 8000000
set_option maxRecDepth 100000
namespace Go.Proofs.YtimcfdnbpkiniaaGreatDoor
open Go.Proofs.Tryz
open Go.RowKit
variable{w:World}{p v:Value}{b g gp:Nat}{B:List Int}{ps:List (Int×Int)}
def IG (i:Int) (n:bS):Prop:=(0<=i/\i<32)/\n.F=1/\cm n
instance (i:Int) (n:bS):Decidable (IG i n):=by unfold IG;infer_instance
theorem abI (i:Int)(n:bS)(v:Value)(g:Nat)(hB:n.B.length=13)(hE:bD w v g n.E)(hN:∀k,k<n.E.length->(eY n.E k).size<=9223372036854775807)(aa:¬IG i n):
  Calls prog 150 #[p,i,aL n v] w λe w'=>e=(1:Int)/\ay [] w w':=by
 have xX:Hid (∀W,ay [] w W->Calls prog 101 #[aL n v] W λe w'=>e=(decide (cm n))/\ay [] W w'):=λW hk=>nX n v g hB W (hE.keep hk) hN
 have V:=fT v hB;have G:=bc.new w (aL n v) 75;obtain⟨HL,J⟩:=hh2 (bZ G hB) (km i);generalize aL n v=Z at *;have c0:(w.alloc (.cells Z 75)).cell? w.heap.size=some (.int .i64 n.F):=by rw[G.cell];exact V.f0
 have HK:Hid (ay [] w (w.alloc (.cells Z 75))):=(ay.refl [] w).alloc _;have jT:=ar aa;clear G V hE hN hB aa;by_cases hi:i<0\/32<=i
 ·have z:gA i= -1:=by unfold gA;rw[aB hi]
  rw[z] at J;clear z;go_in;go_wp2_with fail;refine C' (J.out _) ?_;go_wp2;go_ret;exact⟨rfl,HK.out⟩
 ·have z:gA i=((824+8*i.toNat:Nat):Int):=by unfold gA;rw[aA hi];omega
  rw[z] at J;have ac:(0:Int)<=((824+8*i.toNat:Nat):Int):=by omega
  generalize ((824+8*i.toNat:Nat):Int)=q at *;clear z;by_cases hF:n.F=1
  ·have HQ:Hid (decide (cm n)=false):=aP λh=>jT.out ⟨by omega,hF,h⟩
   rw[hF] at c0;rw[HQ.out] at xX;go_in;go_wp2_with fail;refine C' (J.out _) ?_;go_wp2_with((with_reducible show wpList _ _ _ (⟨_,.load 75 (.tmp 5),_,_,_,_⟩::_) _ _);refine eB (by simp[Region.wanted,yielded,ac]) 75 (.tmp 5) rfl _ rfl _ HL.out ?_);refine Rr (xX.out _ HK.out) λw1 U=> ?_;have jv:=ar (HK.out.trans' U);clear U;go_wp2;go_ret;exact⟨rfl,jv.out⟩
  ·have ae:(n.F != 1)=true:=bne_iff_ne.2 hF
   generalize n.F=f at *;go_in;go_wp2_with fail;refine C' (J.out _) ?_;go_wp2;go_ret;exact⟨rfl,HK.out⟩
theorem UI (h:eN w b gp B ps)(W:In64 (az B ps))(i:Int)(n:bS)(v:Value)(g:Nat)(hB:n.B.length=13)(hE:bD w v g n.E)(hN:∀k,k<n.E.length->(eY n.E k).size<=9223372036854775807)
  (G:IG i n) (UJ:(aY (az B ps)).length<eV n):
  Calls prog 150 #[b,i,aL n v] w λe w'=>e=(7:Int)/\ay [] w w':=by
 have xX:Hid (∀z,ay [] w z->Calls prog 101 #[aL n v] z λe w'=>e=true/\ay [] z w'):=λz hk=>by
  have :=nX n v g hB z (hE.keep hk) hN;rwa[bq G.2.2] at this
 have af:=(jJ G.2.2).1;have Bn:Hid (∀z,Calls prog 181 #[aL n v] z λe w'=>e=((eV n:Nat):Int)/\ay [] z w'):=λz=>by
  obtain⟨a,cap,rfl,-⟩:=hE;exact Ss n a cap hB (by omega) z
 have JN:Hid (∀z,ay [] w z->Calls prog 157 #[b,((eV n:Nat):Int)] z λe w'=>e= .returned (.tuple #[(),(7:Int)])/\z=w'):=λz hk=>
  xV (h.keep hk) W (eV n) UJ
 have V:=fT v hB;have U:=bc.new w (aL n v) 75;have HL:Hid (∀z,ay [] (w.alloc (.cells (aL n v) 75)) z->(loadVar 75 w.heap.size).run prog z= .ok (.agg (aL n v)) z):=λz hk=>bZ (U.keep hk) hB
 have HI:=ar (km i);generalize aL n v=Z at *;have c0:(w.alloc (.cells Z 75)).cell? w.heap.size=some (.int .i64 1):=by rw[U.cell,<-G.2.1];exact V.f0
 have HK:Hid (ay [] w (w.alloc (.cells Z 75))):=(ay.refl [] w).alloc _;have ac:gA i=((824+8*i.toNat:Nat):Int):=by unfold gA;rw[aA (by have :=G.1;omega)];have :=G.1;omega
 rw[ac] at HI;have ae:(0:Int)<=((824+8*i.toNat:Nat):Int):=by omega
 generalize ((824+8*i.toNat:Nat):Int)=q at *;clear U V hE hN hB ac G h W UJ;have IA:=ar (HL.out _ (ay.refl [] _));generalize ((eV n:Nat):Int)=nn at *;go_in;go_wp2_with fail;refine C' (HI.out _) ?_;go_wp2_with((with_reducible show wpList _ _ _ (⟨_,.load 75 (.tmp 5),_,_,_,_⟩::_) _ _);refine eB (by simp[Region.wanted,yielded,ae]) 75 (.tmp 5) rfl _ rfl _ IA.out ?_);refine Rr (xX.out _ HK.out) λw1 J=> ?_;obtain⟨jv,zn⟩:=hh2 (HK.out.trans' J) (HL.out _ J);clear J;go_wp2_with(with_reducible refine gL 75 zn.out ?_);refine Rr (Bn.out _) λw2 aa=> ?_;have fC:=ar (jv.out.trans' aa);clear aa;go_wp2_with fail;refine C' (JN.out _ fC.out) ?_;go_wp2;go_ret;exact⟨rfl,fC.out⟩
def w4 (ws:List Nat):Array Value:= #[.int .u64 ((ws.getD 0 0:Nat):Int),.int .u64 ((ws.getD 1 0:Nat):Int),.int .u64 ((ws.getD 2 0:Nat):Int),.int .u64 ((ws.getD 3 0:Nat):Int)]
theorem UK{l:List Nat}(h:Reads w v g (dJ l)):∃a cap,v= .slice a l.length cap/\l.length<=cap/\cap<=maxLen/\
  Hid (∀k,k<l.length->g<w.heap.size/\∃off,a=some ⟨g,off,none⟩/\w.cell? ⟨g,off+k,none⟩=some (.int .i64 ((l.getD k 0:Nat):Int))):=by
 obtain⟨a,cap,U,G,h2,W⟩:=h;rw[fo] at *;refine⟨a,cap,U,G,h2,λk z=> ?_⟩;obtain⟨hg,off,V,J⟩:=W (by intro e;have :=cP List.length e;rw[fo,cD] at this;omega);exact⟨hg,off,V,(J k z).trans (nr z)⟩
theorem abJ{P:Program}{ty e:TypeId}{off T:Nat}{Z:Array Value}(J:P.underlying ty=some (.slice e))(U:bc w g Z T)(z:Z[off]? =some v):(loadVar ty ⟨g,off,none⟩).run P w= .ok v w:=by
 have h:(isAgg ty).run P w= .ok false w:=by
  unfold isAgg;rw[ck,dD J w];rfl
 have G:w.cell? ⟨g,off,none⟩=some v:=by rw[U.cell,z]
 simp[loadVar,h,G]
theorem aed (h:eN w b gp B ps)(bn:In64 (az B ps))(hT:ku w)(Ic:gp<w.heap.size)(bh:ps.length<=800000)(i:Int)(n:bS)(v:Value)(g:Nat)(hB:n.B.length=13)(hE:bD w v g n.E)
  (hN:∀k,k<n.E.length->(eY n.E k).size<=9223372036854775807) (ac:IG i n) (bg:n.E.length≠0->g≠b/\g≠gp) (hn:eV n<=(aY (az B ps)).length):
  Calls prog 150 #[b,i,aL n v] w λe w'=>e=(0:Int)/\Onto w b gp B (ps++pD (az B ps) i.toNat n ((aY (az B ps)).take (eV n))) w':=by
 have xX:Hid (∀z,ay [] w z->Calls prog 101 #[aL n v] z λe w'=>e=true/\ay [] z w'):=λz hk=>by
  have :=nX n v g hB z (hE.keep hk) hN;rwa[bq ac.2.2] at this
 have bR:=jJ ac.2.2;have Bn:Hid (∀z,Calls prog 181 #[aL n v] z λe w'=>e=((eV n:Nat):Int)/\ay [] z w'):=λz=>by
  obtain⟨a,cap,rfl,-⟩:=hE;exact Ss n a cap hB (by omega) z
 have bu:Hid (∀z,Calls prog 179 #[aL n v] z λe w'=>e=((bj n.E.length:Nat):Int)/\ay [] z w'):=λz=>by
  obtain⟨a,cap,rfl,-⟩:=hE;exact sP n a cap hB (by omega) z
 have b6:=Cl (az B ps);have JN:Hid (∀z,ay [] w z->Calls prog 157 #[b,((eV n:Nat):Int)] z (Bk z b gp B ps ((aY (az B ps)).take (eV n)))):=λz hk=>
  CF (h.keep hk) bn (hT.keep hk) (bQ Ic hk.size) (by omega) (eV n) hn
 have EP:Hid (∀c∈(aY (az B ps)).take (eV n),c≠0/\c<256):=λc hc=>by
  have :=j5.1 (bL hc);exact⟨this.2.1,this.1⟩
 have aH:((aY (az B ps)).take (eV n)).length=eV n:=by rw[aJ,cZ hn]
 have cv:bj n.E.length<=eV n/\eV n<=bj n.E.length+1:=by unfold eV;split<;>omega
 have aT:=fT v hB;have aI:=bc.new w (aL n v) 75;have cG:=h.raw.lt;obtain⟨HI,b7,bT,HR,HB⟩:=hh5 (km i) (uj ac.2.2) (Nj ac.2.2 hN) ac.2.2 hB;have bP:Hid (∀(l:List Int) (aa:Int),l.length=13->adO l->0<=aa/\aa<9223372036854775808->∀z,Calls prog 180 #[aL n v,(zs l).toArray,(aa:Int)] z λe w'=>e=(aX (ic n l aa)).toArray/\ay [] z w'):=λl aa hl bN h0 z=>DU n v hB b7.out l hl bN aa h0 z
 have rW:Hid (∀z,bc z w.heap.size (aL n v) 75->(loadVar 75 w.heap.size).run prog z= .ok (.agg (aL n v)) z/\(loadVar 73 ⟨w.heap.size,4,none⟩).run prog z= .ok (.agg (zs n.B).toArray) z):=λz hb=>⟨bZ hb hB,aec hb hB⟩
 have IH:Hid (pD (az B ps) i.toNat n ((aY (az B ps)).take (eV n))=dt (az B ps) ((aY (az B ps)).take (eV n))++wu i.toNat n ((aY (az B ps)).take (eV n))):=rfl;have Cx:Hid ((dt (az B ps) ((aY (az B ps)).take (eV n))).length=9*eV n):=by
  show _=_;rw[qb _ _ EP.out,aH]
 generalize bX:(aY (az B ps)).take (eV n)=own at *;generalize pD (az B ps) i.toNat n own=aR,Yh:dt (az B ps) own=Yi at *;have bB:=ar Yh;clear Yh;have bo:gA i=((824+8*i.toNat:Nat):Int):=by unfold gA;rw[aA (by have :=ac.1;omega)];have :=ac.1;omega
 rw[bo] at HI;have jr:i.toNat<32:=by have :=ac.1;omega
 have c0:(w.alloc (.cells (aL n v) 75)).cell? w.heap.size=some (.int .i64 1):=by rw[aI.cell,<-ac.2.1];exact aT.f0
 generalize hZ:aL n v=Z at *;have bK:Z[17]? =some v:=aT.f5;have HK:Hid (ay [] w (w.alloc (.cells Z 75))):=(ay.refl [] w).alloc _;obtain⟨pO,HE,HS,zB⟩:=hh4 aI hE h bh;have IA:=ar (rW.out _ aI).1;generalize hq:824+8*i.toNat=q at *;have HQ:Hid (q=824+8*i.toNat):=hq.symm;have SJ:q+8<=3128:=by omega
 clear hq jr;have bJ:(0:Int)<=(q:Int):=by omega
 clear aI aT hE hN hB bo h bn hT b6 hn bX bh;go_in;go_wp2_with fail;refine C' (HI.out _) ?_;go_wp2_with((with_reducible show wpList _ _ _ (⟨_,.load 75 (.tmp 5),_,_,_,_⟩::_) _ _);refine eB (by simp[Region.wanted,yielded,bJ]) 75 (.tmp 5) rfl _ rfl _ IA.out ?_);refine Rr (xX.out _ HK.out) λw1 aZ=> ?_;obtain⟨jv,zC⟩:=hh2 (HK.out.trans' aZ) (pO.out.keep aZ);have zn:=ar (rW.out _ zC.out).1;clear aZ IA pO HK;go_wp2_with(with_reducible refine gL 75 zn.out ?_);refine Rr (Bn.out _) λw2 V=> ?_;obtain⟨fC,oD⟩:=hh2 (jv.out.trans' V) (zC.out.keep V);clear V jv zC zn Bn xX;go_wp2_with fail;refine(JN.out _ fC.out).mono ?_;rintro e w3 ⟨vo,go,rfl,bA,cI,Yj,kQ,cE,cw,aW,aF⟩;rw[bB.out] at aW;have bv:=fC.out.size;have cu:=oD.out.lt;have qC:=ar (oD.out.keep aF (by simp only[aM,aK,bC];omega));have xf:Hid (bD w3 v g n.E):=(HE.out.keep fC.out).keep aF (λcj=>by have :=bg cj;simp only[aM,aK,bC];omega);have og:Hid (ay [b,gp] w w3):=(fC.out.mono).trans' aF;obtain⟨o5,Qr⟩:=hh2 aW bA;have uk:=ar (rW.out _ qC.out).1;have cA:=aF.size;obtain⟨a,oc,rfl,SK,Mb,-⟩:=bA;have bH:Hid ((dJ own).length=eV n):=by show _=_;rw[fo,aH]
 rw[bH.out] at SK Qr ⊢;have UL:Hid (n.E.length≠0->g∉[b,kQ]):=λh0 hm=>by
  have h1:=bg h0;have h2:g<w.heap.size:=by
   rcases dF g w.heap.size with h|h
   ·exact h
   ·exact absurd (au.2 rfl) (HE.out.apart (l:=[g]) (λx G=>by rw[au] at G;omega) h0)
  simp only[aM,aK,bC] at hm;rcases hm with rfl|rfl
  ·exact h1.1 rfl
  ·omega
 clear JN fC oD HE HS aF aW;have WV:=pd;go_wp2_with(with_reducible refine gL 75 uk.out ?_);refine Rr (bu.out _) λw4 ak=> ?_;obtain⟨CI,Gk,qB,tY,bf⟩:=hh5 (qC.out.keep ak) (xf.out.keep ak) (og.out.trans' (ak.mono)) (o5.out.keep ak) (Qr.out.keep ak);have cF:=ak.size;have bl:=ar (rW.out _ CI.out).2;have Yk:=bc.new w4 (zs (List.replicate 13 0)).toArray 73;obtain⟨w5,Gb,rQ,kr⟩:=bE (P:= prog) (ty:= 73) (cs:=zs n.B) (by rw[eT,HB.out];exact lS) Yk (by simp[eT,HB.out]) (nt _);have EC:=ar Gb;have rE:ay [] w4 w5.drew:=(((ay.refl [] w4).alloc _).trans kr (by intro x G;rw[au] at G;omega)).drew;have aU:=bf.out.keep rE;rw[<-aH] at aU;obtain⟨vc,w6,zH,tX,jE⟩:=UD (n:=13) (cap:=13) (m:=bj n.E.length) (mc:=oc) rQ.drew aU (by omega) (by rw[HB.out];omega) (by omega);have br:=ar zH;have II:ay [] w4 w6:=rE.trans jE (by intro x G;rw[au] at G;omega);obtain⟨SB,cp,rX,Gl,cn⟩:=hh5 (CI.out.keep II) (Gk.out.keep II) (qB.out.trans' (II.mono)) (tY.out.keep II) (bf.out.keep II);have ba:bc w6 w4.heap.size (zs (dY n own)).toArray 73 :=tX;have b9:=ar ba;have cy:=II.size;have cD:=ba.lt;have bY:=UE w4.heap.size;have ck:=Qw a (eV n) oc (bj n.E.length) (by omega);obtain⟨Eu,Yf⟩:=hh2 (uY (own:=own) HB.out (by omega) (by omega)) (CG HR.out HB.out (by omega) EP.out);have uP:Hid (bj n.E.length<own.length->fp n own=own.getD (bj n.E.length) 0/\ql n own=jM (1080+8*fp n own) ((dY n own).drop 5) 8):=λhc=>by
  refine⟨by unfold fp;rw[aB hc],by unfold ql;rw[aB hc]⟩
 have JO:Hid (¬bj n.E.length<own.length->fp n own=0/\ql n own=[]):=λhc=>by
  refine⟨by unfold fp;rw[aA hc],by unfold ql;rw[aA hc]⟩
 have bW:Hid (aR=Yi++(sW n.E (dY n own) (bj n.E.length)++(ql n own++jM q (ic n (dY n own) ((fp n own:Nat):Int)) 8))):=by
  have h1:=IH.out;unfold wu at h1;rw[<-HQ.out] at h1;exact h1
 have JD:Hid (∀k,k<bj n.E.length->4*k<n.E.length):=λk hk=>by unfold bj at hk;omega
 have bb:=Cx.out;have cB:=zB.out;clear Gb rQ kr rE zH tX jE II ba Yk IH bu uk og o5 xf qC Qr qB tY Gk CI bf aU ak;generalize Bo:bj n.E.length=W,(zs n.B).toArray=ZB,(zs (List.replicate 13 0)).toArray=ZN at *;go_wp2_with(with_reducible first|refine gL 73 bl.out ?_|refine gS 73 EC.out ?_);refine jR (l:=[_,_,_,_]) (S:=λz=>z=w5.drew) rfl rfl ?_;repeat (refine aS.cons ?_ (bG.val rfl ?h) ?_;(case h=>(intro z G;go_simp;rfl));simp only[Act.put,ag,ah,ai])
 refine aS.done λz G=> ?_
 subst G;refine jm rfl (.tmp 40) (.tmp 43) 76 76 rfl _ _ rfl rfl (br.out _) ?_;clear bY ck EC bl br WV;have cf:Hid (kQ=gp\/(w.heap.size<=kQ/\kQ<w6.heap.size)):=by show _\/_;omega
 have cC:b<w.heap.size/\w.heap.size<w4.heap.size/\kQ<w6.heap.size/\kQ≠w.heap.size/\kQ≠w4.heap.size/\go<w4.heap.size/\w.heap.size<=go:=by omega
 have cx:go<w6.heap.size:=by omega
 generalize w4.heap.size=lb at *;have HX:Hid (∀z,ay [b,kQ] w6 z->bc z w.heap.size Z 75/\bD z v g n.E/\Reads z (.slice a (eV n) oc) go (dJ own)/\bc z lb (zs (dY n own)).toArray 73):=λz hk=>by
  refine⟨SB.out.keep hk ?_,cp.out.keep hk UL.out,cn.out.keep hk ?_,b9.out.keep hk ?_⟩
  ·simp only[aM,aK,bC];omega
  ·simp only[aM,aK,bC];omega
  ·simp only[aM,aK,bC];omega
 have bt:Hid (Onto w6 b kQ B (ps++(Yi++sW n.E (dY n own) 0)) w6):=by
  show Onto _ _ _ _ _ _;rw[show sW n.E (dY n own) 0=[] from rfl,bz];exact Onto.refl Gl.out
 have cJ:Hid (W<=6):=bR.2.1;have HF:Hid (∀(x:Int),x=((fp n own:Nat):Int)->∀wy,Onto w6 b kQ B (ps++(Yi++(sW n.E (dY n own) W++ql n own))) wy->∀z,ay [] wy z->
   (loadVar 75 w.heap.size).run prog z= .ok (.agg Z) z/\(loadVar 73 lb).run prog z= .ok (.agg (zs (dY n own)).toArray) z/\
   Calls prog 180 #[Z,(zs (dY n own)).toArray,(x:Int)] z (λe w'=>e=(aX (ic n (dY n own) x)).toArray/\ay [] z w')/\
   Calls prog 182 #[b,(q:Int),(aX (ic n (dY n own) x)).toArray] z (λe w'=>e= .returned (.tuple #[])/\Hid (Onto w b gp B (ps++aR) w'))):=by
  rintro x rfl wy ⟨lH,Qz,af,V⟩ z hk;obtain⟨av,-,-,ae⟩:=HX.out _ V;have uR:fp n own<256:=by
   by_cases hc:W<own.length
   ·have h1:=EP.out (own.getD W 0) (by rw[aj,aD hc];exact bM _)
    rw[(uP.out hc).1];exact h1.2
   ·rw[(JO.out hc).1];omega
  have ax:(ql n own).length<=8:=by
   by_cases hc:W<own.length
   ·rw[(uP.out hc).2,oJ];omega
   ·rw[(JO.out hc).2];simp
  have Qi:=av.keep hk;have bU:=ae.keep hk;have bI:(ic n (dY n own) ((fp n own:Nat):Int)).length=8:=by simp[ic,Eu.out]
  refine⟨(rW.out _ Qi).1,fy (off:=0) bU Eu.out (λk hk=>by rw[bp,aG,gI (by rw[Eu.out];exact hk)]),bP.out _ _ Eu.out (λk=>by have :=Yf.out k;omega) (by omega) z,?_⟩;have h1:=rY (af.keep hk) (by simp only[aC,yP,bb];omega) q (by omega) (ic n (dY n own) ((fp n own:Nat):Int)) bI;refine h1.mono ?_;rintro e w' ⟨J,h2⟩;refine⟨J,?_⟩;have e1:ps++(Yi++(sW n.E (dY n own) W++ql n own))++jM q (ic n (dY n own) ((fp n own:Nat):Int)) 8=ps++aR:=by rw[bW.out];simp only[aV]
  rw[e1] at h2;have bv:=V.size;exact Onto.trans cf.out rX.out (Onto.trans Qz V (Onto.mono hk (by omega) h2))
 go_wp2_with fail;go_loopg [46] W (λgh s46 z=>∃k:Nat,k+gh=W/\s46= .int .i64 (k:Int)/\Hid (Onto w6 b kQ B (ps++(Yi++sW n.E (dY n own) k)) z))
 case atStart=>exact⟨0,by omega,rfl,bt.out⟩
 case round=>
  clear bt;obtain⟨k,hk,rfl,HP⟩:=hrel;obtain⟨lH,Qz,af,V⟩:=HP.out;obtain⟨av,aQ,aN,ae⟩:=HX.out _ V;have bv:=V.size;cases gk with
  |zero=>
   obtain rfl:k=W:=by omega
   by_cases hc:k<own.length
   ·obtain⟨uR,ax⟩:=uP.out hc
    obtain⟨off,bw,cr⟩:∃off,a=some ⟨go,off,none⟩/\wr.cell? ⟨go,off+k,none⟩=some (.int .i64 ((fp n own:Nat):Int)):=by
     obtain⟨a',ct,J,-,-,HC⟩:=UK aN
     injection J with h1 h2 h3
     subst h1;obtain⟨-,off,ho,bO⟩:=HC.out k hc;exact⟨off,ho,by rw[bO,uR]⟩
    have cH:fp n own<256:=by
     have h1:=EP.out (own.getD k 0) (by rw[aj,aD hc];exact bM _);rw[uR];exact h1.2
    have mO:Hid (∀z,ay [] wr z->(loadVar 73 lb).run prog z= .ok (.agg (zs (dY n own)).toArray) z):=λz U=>
     fy (off:=0) (ae.keep U) Eu.out (λk hk=>by rw[bp,aG,gI (by rw[Eu.out];exact hk)])
    have DX:Hid (∀z,Calls prog 155 #[((fp n own:Nat):Int)] z λe w'=>e=((1080+8*fp n own:Nat):Int)/\z=w'):=λz=>by
     have :=j6 ((fp n own:Nat):Int) z;rwa[iG,aA,show 1080+((fp n own:Nat):Int)*8=((1080+8*fp n own:Nat):Int) by omega] at this
    have PA:Hid (∀z,Calls prog 184 #[(zs (dY n own)).toArray] z λe w'=>e=(aX ((dY n own).drop 5)).toArray/\ay [] z w'):=λz=>Qf _ Eu.out (λk=>by have :=Yf.out k;omega) z
    have FX:Hid (∀z,ay [] wr z->Calls prog 182 #[b,((1080+8*fp n own:Nat):Int),(aX ((dY n own).drop 5)).toArray] z λe w'=>e= .returned (.tuple #[])/\Onto w6 b kQ B (ps++(Yi++(sW n.E (dY n own) k++ql n own))) w'):=λz U=>by
     have h1:=rY (af.keep U) (by simp only[aC,yP,bb];omega) (1080+8*fp n own) (by omega) ((dY n own).drop 5) (by rw[bV,Eu.out]);refine h1.mono ?_;rintro e w' ⟨J,h2⟩;refine⟨J,?_⟩;rw[aV,aV,<-ax] at h2;exact Onto.trans Qz V (Onto.mono U (by omega) h2)
    have cg:(k:Int)<((eV n:Nat):Int):=by omega
    have cM:(0:Int)<=(k:Int):=by omega
    subst bw;have HF:=ar (HF.out ((fp n own:Nat):Int) rfl);clear HP af av aQ aN ae uP JO uR ax HX;generalize (aX (ic n (dY n own) ((fp n own:Nat):Int))).toArray=ZR,(aX ((dY n own).drop 5)).toArray=ZD,(zs (dY n own)).toArray=ZL,((1080+8*fp n own:Nat):Int)=bk at *;generalize ((fp n own:Nat):Int)=li at *;go_wp2_with fail;refine jR (l:=[_,_,_,_,_]) (S:=λz=>ay [] wr z) rfl ((ay.refl _ _).drew) ?_;repeat (
     (first
     |(refine aS.cons (.agg ZL) (bG.load rfl 73 (.tmp 10) rfl _ rfl λz G=>mO.out z G) ?_)
     |(refine aS.cons (.int .i64 bk) (bG.call rfl 155 #[li] ?J ?h) ?_;(case J=>(intro wz;go_simp));(case h=>exact λz G=>(DX.out z).mono λe w' J=>⟨J.1,J.2▸G⟩))
     |(refine aS.cons (.agg ZD) (bG.call rfl 184 #[ZL] ?J ?h) ?_;(case J=>(intro wz;go_simp));(case h=>exact λz G=>(PA.out z).mono λe w' J=>⟨J.1,G.trans' J.2⟩))
     |(refine aS.cons ?_ (bG.val rfl ?h) ?_;(case h=>(intro z G;clear G;go_simp;rfl))));simp only[Act.put,ag,ah,ai])
    refine aS.done λz G=> ?_
    have tT:=ar G;clear G;go_wp2_with fail;refine Rr (FX.out _ tT.out) λw7 xm=> ?_;have aO:=ar (HF.out w7 xm);clear HF xm tT FX PA mO DX;go_wp2_with fail;refine jR (l:=[_,_,_,_,_,_,_]) (S:=λz=>ay [] w7 z) rfl ((ay.refl _ _).drew) ?_;repeat (
     (first
     |(refine aS.cons (.agg Z) (bG.load rfl 75 (.tmp 5) rfl _ rfl λz G=>(aO.out z G).1) ?_)
     |(refine aS.cons (.agg ZL) (bG.load rfl 73 (.tmp 10) rfl _ rfl λz G=>(aO.out z G).2.1) ?_)
     |(refine aS.cons (.int .i64 (q:Int)) (bG.call rfl 63 #[i] ?J ?h) ?_;(case J=>(intro wz;go_simp));(case h=>exact λz G=>(HI.out z).mono λe w' J=>⟨J.1,J.2▸G⟩))
     |(refine aS.cons (.agg ZR) (bG.call rfl 180 #[Z,ZL,li] ?J ?h) ?_;(case J=>(intro wz;go_simp));(case h=>exact λz G=>(aO.out z G).2.2.1.mono λe w' J=>⟨J.1,G.trans' J.2⟩))
     |(refine aS.cons ?_ (bG.val rfl ?h) ?_;(case h=>(intro z G;clear G;go_simp;rfl))));simp only[Act.put,ag,ah,ai])
    refine aS.done λz G=> ?_
    have tT:=ar G;clear G;go_wp2_with fail;refine(aO.out _ tT.out).2.2.2.mono ?_;rintro e w' ⟨rfl,xm⟩;go_wp2;go_ret;exact⟨rfl,xm.out⟩
   ·obtain⟨uR,ax⟩:=JO.out hc
    have aP:=ar (HF.out 0 (by rw[uR];rfl) wr (by rw[ax,bz];exact HP.out));have cz:¬(k:Int)<((eV n:Nat):Int):=by omega
    clear HF HP af av aQ aN ae uP JO uR ax HX;generalize (aX (ic n (dY n own) 0)).toArray=ZR,(zs (dY n own)).toArray=ZL at *;go_wp2_with fail;refine jR (l:=[_,_,_,_,_,_,_]) (S:=λz=>ay [] wr z) rfl ((ay.refl _ _).drew) ?_;repeat (
     (first
     |(refine aS.cons (.agg Z) (bG.load rfl 75 (.tmp 5) rfl _ rfl λz G=>(aP.out z G).1) ?_)
     |(refine aS.cons (.agg ZL) (bG.load rfl 73 (.tmp 10) rfl _ rfl λz G=>(aP.out z G).2.1) ?_)
     |(refine aS.cons (.int .i64 (q:Int)) (bG.call rfl 63 #[i] ?J ?h) ?_;(case J=>(intro wz;go_simp));(case h=>exact λz G=>(HI.out z).mono λe w' J=>⟨J.1,J.2▸G⟩))
     |(refine aS.cons (.agg ZR) (bG.call rfl 180 #[Z,ZL,(0:Int)] ?J ?h) ?_;(case J=>(intro wz;go_simp));(case h=>exact λz G=>(aP.out z G).2.2.1.mono λe w' J=>⟨J.1,G.trans' J.2⟩))
     |(refine aS.cons ?_ (bG.val rfl ?h) ?_;(case h=>(intro z G;clear G;go_simp;rfl))));simp only[Act.put,ag,ah,ai])
    refine aS.done λz G=> ?_
    have tT:=ar G;clear G;go_wp2_with fail;refine(aP.out _ tT.out).2.2.2.mono ?_;rintro e w' ⟨rfl,xm⟩;go_wp2;go_ret;exact⟨rfl,xm.out⟩
  |succ gg=>
   have cm:k<W:=by omega
   have cg:(k:Int)<(W:Int):=by omega
   have cM:(0:Int)<=(k:Int):=by omega
   have lZ:(k:Int)<13:=by omega
   have Sz:=Yf.out k;have cd:Hid (∀z,ay [] wr z->(loadVar 3 ⟨lb,k,none⟩).run prog z= .ok (.int .i64 ((dY n own).getD k 0)) z):=λz U=>FL (off:=k) underlying3 (ae.keep U) (by rw[aG,gI (by rw[Eu.out];omega)])
   have bF:Hid (∀z,ay [] wr z->(loadVar 30 ⟨w.heap.size,17,none⟩).run prog z= .ok v z):=λz U=>abJ (off:=17) underlying30 (av.keep U) bK
   have DX:Hid (∀z,Calls prog 155 #[((dY n own).getD k 0:Int)] z λe w'=>e=((1080+8*((dY n own).getD k 0).toNat:Nat):Int)/\z=w'):=λz=>by
    have :=j6 ((dY n own).getD k 0) z;rwa[iG,aA,show 1080+(dY n own).getD k 0*8=((1080+8*((dY n own).getD k 0).toNat:Nat):Int) by omega] at this
   have rh:Hid (∀z,ay [] wr z->Calls prog 183 #[v,(k:Int)] z λe w'=>e=(aX (jf n.E k)).toArray/\ay [] z w'):=λz U=>DW (aQ.keep U) bT.out k (JD.out k cm)
   have FX:Hid (∀z,ay [] wr z->Calls prog 182 #[b,((1080+8*((dY n own).getD k 0).toNat:Nat):Int),(aX (jf n.E k)).toArray] z λe w'=>e= .returned (.tuple #[])/\Hid (Onto w6 b kQ B (ps++(Yi++sW n.E (dY n own) (k+1))) w')):=λz U=>by
    have h1:=rY (af.keep U) (by simp only[aC,yP,bb];omega) (1080+8*((dY n own).getD k 0).toNat) (by omega) (jf n.E k) (mL _ _ _);refine h1.mono ?_;rintro e w' ⟨J,h2⟩;refine⟨J,?_⟩;rw[aV,aV,<-Af] at h2;exact Onto.trans Qz V (Onto.mono U (by omega) h2)
   clear HP af av aQ aN ae HX HF uP JO Sz;generalize ((1080+8*((dY n own).getD k 0).toNat:Nat):Int)=bk at *;generalize (dY n own).getD k 0=x,(aX (jf n.E k)).toArray=RW at *;go_wp2_with fail;refine jR (l:=[_,_,_,_,_,_,_,_,_]) (S:=λz=>ay [] wr z) rfl ((ay.refl _ _).drew) ?_;repeat (
    (first
    |(refine aS.cons (.int .i64 x) (bG.load rfl 3 (.tmp 51) rfl _ rfl λz G=>cd.out z G) ?_)
    |(refine aS.cons v (bG.load rfl 30 (.tmp 54) rfl _ rfl λz G=>bF.out z G) ?_)
    |(refine aS.cons (.int .i64 bk) (bG.call rfl 155 #[(x:Int)] ?J ?h) ?_;(case J=>(intro wz;go_simp));(case h=>exact λz G=>(DX.out z).mono λe w' J=>⟨J.1,J.2▸G⟩))
    |(refine aS.cons (.agg RW) (bG.call rfl 183 #[v,(k:Int)] ?J ?h) ?_;(case J=>(intro wz;go_simp));(case h=>exact λz G=>(rh.out z G).mono λe w' J=>⟨J.1,G.trans' J.2⟩))
    |(refine aS.cons ?_ (bG.val rfl ?h) ?_;(case h=>(intro z G;clear G;go_simp;rfl))));simp only[Act.put,ag,ah,ai])
   refine aS.done λz G=> ?_
   have tT:=ar G;clear G;go_wp2_with fail;refine Rr (FX.out _ tT.out) λw' xm=> ?_;go_wp2;go_roundg gg;case measure=>omega
   case rel=>exact⟨k+1,by omega,by go_num,xm.out⟩
def xY (i:Int) (n:bS):Prop:=(0<=i/\i<32)/\n.F=2/\cm n
instance (i:Int) (n:bS):Decidable (xY i n):=by unfold xY;infer_instance
theorem Yl (i:Int)(n:bS)(v:Value)(g:Nat)(hB:n.B.length=13)(hE:bD w v g n.E)(hN:∀k,k<n.E.length->(eY n.E k).size<=9223372036854775807)(aa:¬xY i n):
  Calls prog 152 #[p,i,aL n v] w λe w'=>e=(1:Int)/\ay [] w w':=by
 have xX:Hid (∀W,ay [] w W->Calls prog 101 #[aL n v] W λe w'=>e=(decide (cm n))/\ay [] W w'):=λW hk=>nX n v g hB W (hE.keep hk) hN
 have V:=fT v hB;have G:=bc.new w (aL n v) 75;obtain⟨HL,J⟩:=hh2 (bZ G hB) (km i);generalize aL n v=Z at *;have c0:(w.alloc (.cells Z 75)).cell? w.heap.size=some (.int .i64 n.F):=by rw[G.cell];exact V.f0
 have HK:Hid (ay [] w (w.alloc (.cells Z 75))):=(ay.refl [] w).alloc _;have jT:=ar aa;clear G V hE hN hB aa;by_cases hi:i<0\/32<=i
 ·have z:gA i= -1:=by unfold gA;rw[aB hi]
  rw[z] at J;clear z;go_in;go_wp2_with fail;refine C' (J.out _) ?_;go_wp2;go_ret;exact⟨rfl,HK.out⟩
 ·have z:gA i=((824+8*i.toNat:Nat):Int):=by unfold gA;rw[aA hi];omega
  rw[z] at J;have ac:(0:Int)<=((824+8*i.toNat:Nat):Int):=by omega
  generalize ((824+8*i.toNat:Nat):Int)=q at *;clear z;by_cases hF:n.F=2
  ·have HQ:Hid (decide (cm n)=false):=aP λh=>jT.out ⟨by omega,hF,h⟩
   rw[hF] at c0;rw[HQ.out] at xX;go_in;go_wp2_with fail;refine C' (J.out _) ?_;go_wp2_with((with_reducible show wpList _ _ _ (⟨_,.load 75 (.tmp 5),_,_,_,_⟩::_) _ _);refine eB (by simp[Region.wanted,yielded,ac]) 75 (.tmp 5) rfl _ rfl _ HL.out ?_);refine Rr (xX.out _ HK.out) λw1 U=> ?_;have jv:=ar (HK.out.trans' U);clear U;go_wp2;go_ret;exact⟨rfl,jv.out⟩
  ·have ae:(n.F != 2)=true:=bne_iff_ne.2 hF
   generalize n.F=f at *;go_in;go_wp2_with fail;refine C' (J.out _) ?_;go_wp2;go_ret;exact⟨rfl,HK.out⟩
theorem QA (h:eN w b gp B ps)(aa:In64 (az B ps))(i:Int)(n:bS)(v:Value)(g:Nat)(hB:n.B.length=13)(hE:bD w v g n.E)(hN:∀k,k<n.E.length->(eY n.E k).size<=9223372036854775807)
  (G:xY i n) (UJ:(aY (az B ps)).length<eQ n):
  Calls prog 152 #[b,i,aL n v] w λe w'=>e=(7:Int)/\ay [] w w':=by
 have xX:Hid (∀z,ay [] w z->Calls prog 101 #[aL n v] z λe w'=>e=true/\ay [] z w'):=λz U=>by
  have :=nX n v g hB z (hE.keep U) hN;rwa[bq G.2.2] at this
 have ag:=(jJ G.2.2).1;have Bn:Hid (∀z,ay [] w z->Calls prog 186 #[aL n v] z λe w'=>e=((eQ n:Nat):Int)/\ay [] z w'):=λz U=>by
  have :=F3 n v g hB z (hE.keep U) (by omega) hN;rwa[aB G.2.2] at this
 have JN:Hid (∀z,ay [] w z->Calls prog 157 #[b,((eQ n:Nat):Int)] z λe w'=>e= .returned (.tuple #[(),(7:Int)])/\z=w'):=λz U=>
  xV (h.keep U) aa (eQ n) UJ
 have W:=fT v hB;have V:=bc.new w (aL n v) 75;have HL:Hid (∀z,ay [] (w.alloc (.cells (aL n v) 75)) z->(loadVar 75 w.heap.size).run prog z= .ok (.agg (aL n v)) z):=λz U=>bZ (V.keep U) hB
 have HI:=ar (km i);generalize aL n v=Z at *;have c0:(w.alloc (.cells Z 75)).cell? w.heap.size=some (.int .i64 2):=by rw[V.cell,<-G.2.1];exact W.f0
 have HK:Hid (ay [] w (w.alloc (.cells Z 75))):=(ay.refl [] w).alloc _;have ae:gA i=((824+8*i.toNat:Nat):Int):=by unfold gA;rw[aA (by have :=G.1;omega)];have :=G.1;omega
 rw[ae] at HI;have af:(0:Int)<=((824+8*i.toNat:Nat):Int):=by omega
 generalize ((824+8*i.toNat:Nat):Int)=q at *;clear V W hE hN hB ae G h aa UJ;have IA:=ar (HL.out _ (ay.refl [] _));generalize ((eQ n:Nat):Int)=nn at *;go_in;go_wp2_with fail;refine C' (HI.out _) ?_;go_wp2_with((with_reducible show wpList _ _ _ (⟨_,.load 75 (.tmp 5),_,_,_,_⟩::_) _ _);refine eB (by simp[Region.wanted,yielded,af]) 75 (.tmp 5) rfl _ rfl _ IA.out ?_);refine Rr (xX.out _ HK.out) λw1 J=> ?_;obtain⟨jv,zn⟩:=hh2 (HK.out.trans' J) (HL.out _ J);clear J;go_wp2_with(with_reducible refine gL 75 zn.out ?_);refine Rr (Bn.out _ jv.out) λw2 ac=> ?_;have fC:=ar (jv.out.trans' ac);clear ac;go_wp2_with fail;refine C' (JN.out _ fC.out) ?_;go_wp2;go_ret;exact⟨rfl,fC.out⟩
def um (Ls:List (List Int)) (own:List Nat) (k:Nat):List (Int×Int):=(List.range k).flatMap λj=>jM (1080+8*own.getD j 0) (Ls.getD j []) 8
theorem Ah (Ls:List (List Int))(own:List Nat)(k:Nat):um Ls own (k+1)=um Ls own k++jM (1080+8*own.getD k 0) (Ls.getD k []) 8:=by
 unfold um;rw[dQ,List.flatMap_append];simp
theorem CJ (Ls:List (List Int))(own:List Nat)(k:Nat):(um Ls own k).length=8*k:=by
 induction k with
 |zero=>rfl
 |succ k ih=>rw[Ah,aC,ih,oJ];omega
def mR (X:List Int) (i:Nat) (n:bS) (own:List Nat):List (Int×Int):=dt X own++(um (gY n own) own own.length++jM (824+8*i) (nR n own) 8)
theorem Gm{n:bS}(G:cm n):eQ n<=32:=by
 rcases G.2.2 with ⟨-,z⟩|⟨-,h⟩
 ·rw[sf z]
  split<;>omega
 ·rw[vg h]
  have J:=h.1;have U:=kv n.E 0;have W:=kv n.E 1;have e2:=kv n.E 2;have V:=kv n.E 3;simp only[fO,dN];omega
theorem abK (h:eN w b gp B ps)(aZ:In64 (az B ps))(hT:ku w)(Ic:gp<w.heap.size)(aR:ps.length<=800000)(i:Int)(n:bS)(v:Value)(g:Nat)(hB:n.B.length=13)(hE:bD w v g n.E)
  (hN:∀k,k<n.E.length->(eY n.E k).size<=9223372036854775807) (G:xY i n) (bn:n.E.length≠0->g≠b/\g≠gp) (hn:eQ n<=(aY (az B ps)).length):
  Calls prog 152 #[b,i,aL n v] w λe w'=>e=(0:Int)/\Onto w b gp B (ps++mR (az B ps) i.toNat n ((aY (az B ps)).take (eQ n))) w':=by
 have xX:Hid (∀z,ay [] w z->Calls prog 101 #[aL n v] z λe w'=>e=true/\ay [] z w'):=λz hk=>by
  have :=nX n v g hB z (hE.keep hk) hN;rwa[bq G.2.2] at this
 have bT:=jJ G.2.2;have Bn:Hid (∀z,ay [] w z->Calls prog 186 #[aL n v] z λe w'=>e=((eQ n:Nat):Int)/\ay [] z w'):=λz hk=>by
  have :=F3 n v g hB z (hE.keep hk) (by omega) hN;rwa[aB G.2.2] at this
 have bw:=Cl (az B ps);have JN:Hid (∀z,ay [] w z->Calls prog 157 #[b,((eQ n:Nat):Int)] z (Bk z b gp B ps ((aY (az B ps)).take (eQ n)))):=λz hk=>
  CF (h.keep hk) aZ (hT.keep hk) (bQ Ic hk.size) (by omega) (eQ n) hn
 have EP:Hid (∀c∈(aY (az B ps)).take (eQ n),c≠0/\c<256):=λc hc=>by
  have :=j5.1 (bL hc);exact⟨this.2.1,this.1⟩
 have aa:((aY (az B ps)).take (eQ n)).length=eQ n:=by rw[aJ,cZ hn]
 have cg:=Gm G.2.2;have bO:((aY (az B ps)).take (eQ n)).length<=32:=by omega
 have aU:=fT v hB;have av:=bc.new w (aL n v) 75;have cf:=h.raw.lt;obtain⟨HI,HR,HB⟩:=hh3 (km i) G.2.2 hB;have rW:Hid (∀z,bc z w.heap.size (aL n v) 75->(loadVar 75 w.heap.size).run prog z= .ok (.agg (aL n v)) z):=λz hb=>bZ hb hB
 have IH:Hid (mR (az B ps) i.toNat n ((aY (az B ps)).take (eQ n))=dt (az B ps) ((aY (az B ps)).take (eQ n))++(um (gY n ((aY (az B ps)).take (eQ n))) ((aY (az B ps)).take (eQ n)) ((aY (az B ps)).take (eQ n)).length++jM (824+8*i.toNat) (nR n ((aY (az B ps)).take (eQ n))) 8)):=rfl;have Cx:Hid ((dt (az B ps) ((aY (az B ps)).take (eQ n))).length=9*eQ n):=by
  show _=_;rw[qb _ _ EP.out,aa]
 generalize bv:(aY (az B ps)).take (eQ n)=own at *;have bh:Hid (∀z v' U vo,bD z v g n.E->Reads z vo U (dJ own)->v'=v->Calls prog 188 #[aL n v',vo] z (pA z (nR n own) (gY n own))):=λz v' U vo W ho hv=>by
  subst hv;exact SI n v' g hB G.2.2 W vo U own ho aa λc hc=>(EP.out c hc).2
 have bB:=xW G.2.2 aa;have Qy:Hid (∀k,k<own.length->((gY n own).getD k []).length=8):=λk hk=>wC (by omega)
 have ak:=Bl n own;generalize mR (az B ps) i.toNat n own=bo,Yh:dt (az B ps) own=Yi at *;have bj:=ar Yh;clear Yh;have ba:gA i=((824+8*i.toNat:Nat):Int):=by unfold gA;rw[aA (by have :=G.1;omega)];have :=G.1;omega
 rw[ba] at HI;have jr:i.toNat<32:=by have :=G.1;omega
 have c0:(w.alloc (.cells (aL n v) 75)).cell? w.heap.size=some (.int .i64 2):=by rw[av.cell,<-G.2.1];exact aU.f0
 generalize bp:nR n own=RW,bz:gY n own=BW at *;have aQ:Hid (∀z U vo,bD z v g n.E->Reads z vo U (dJ own)->Calls prog 188 #[aL n v,vo] z (pA z RW BW)):=λz U vo W ho=>bh.out z v U vo W ho rfl
 generalize hZ:aL n v=Z at *;have HK:Hid (ay [] w (w.alloc (.cells Z 75))):=(ay.refl [] w).alloc _;obtain⟨pO,HE,HS,zB,IA⟩:=hh5 av hE h aR (rW.out _ av);generalize hq:824+8*i.toNat=q at *;have SJ:q+8<=3128:=by omega
 clear hq jr bp bz hZ bh;have bl:(0:Int)<=(q:Int):=by omega
 have bI:=ar aa;clear av aU hE hN hB ba h aZ hT bw hn bv aR aa G;have bX:=kV;generalize vW:(aX (List.replicate 8 0)).toArray=Z8 at *;have xz:=ar vW;clear vW;go_in;go_wp2_with fail;refine C' (HI.out _) ?_;go_wp2_with((with_reducible show wpList _ _ _ (⟨_,.load 75 (.tmp 5),_,_,_,_⟩::_) _ _);refine eB (by simp[Region.wanted,yielded,bl]) 75 (.tmp 5) rfl _ rfl _ IA.out ?_);refine Rr (xX.out _ HK.out) λw1 aH=> ?_;obtain⟨jv,zC⟩:=hh2 (HK.out.trans' aH) (pO.out.keep aH);have zn:=ar (rW.out _ zC.out);clear aH IA pO HK;go_wp2_with(with_reducible refine gL 75 zn.out ?_);refine Rr (Bn.out _ jv.out) λw2 J=> ?_;obtain⟨fC,oD⟩:=hh2 (jv.out.trans' J) (zC.out.keep J);clear J jv zC zn Bn xX;go_wp2_with fail;refine(JN.out _ fC.out).mono ?_;rintro e w3 ⟨vo,U,rfl,aN,cj,Yj,kQ,bb,bK,aG,ac⟩;rw[bj.out] at aG;have cd:=fC.out.size;have bJ:=oD.out.lt;have qC:=ar (oD.out.keep ac (by simp only[aM,aK,bC];omega));have xf:Hid (bD w3 v g n.E):=(HE.out.keep fC.out).keep ac (λbF=>by have :=bn bF;simp only[aM,aK,bC];omega);have og:Hid (ay [b,gp] w w3):=(fC.out.mono).trans' ac;obtain⟨o5,Qr,uk⟩:=hh3 aG aN (rW.out _ qC.out);have bV:=ac.size;obtain⟨ao,co,rfl,Ng,bU,SC⟩:=sU aN;clear JN fC oD HE HS ac aG aN;go_wp2_with(with_reducible refine gL 75 uk.out ?_);refine(aQ.out _ U _ xf.out Qr.out).mono ?_;rintro e w4 ⟨vb,gb,rfl,hb,bW,aP⟩;obtain⟨w5,bf,EB,kr⟩:=bE (P:= prog) (ty:= 132) (cs:=aX RW) (by rw[bA,ak];exact iZ) (bc.new w4 Z8 132) (by rw[<-xz.out];simp[bA,ak]) (fk _);have bY:=aP.size;have rE:ay [] w4 w5:=((ay.refl [] w4).alloc (.cells Z8 132)).trans kr (by intro x V;rw[au] at V;omega);have tZ:ay [] w3 w5:=aP.trans' rE;obtain⟨EF,X7⟩:=hh2 bf EB;have aW:Hid (pz w5 vb gb BW):=hb.keep rE;have rp:=ar (o5.out.keep tZ);have pU:Hid (ay [b,gp] w w5):=og.out.trans' (tZ.mono);have br:Hid (own.length≠0->gb≠b/\gb≠kQ/\gb≠w4.heap.size):=λh0=>by
  obtain⟨a,cap,q1,q2,q3,q4⟩:=hb;have :=(q4 (by omega)).1;omega
 have bN:U<w3.heap.size:=Yj;have aI:Hid (∀k,k<own.length->∀z,ay [b,kQ] w5 z->U<w3.heap.size/\∃off,ao=some ⟨U,off,none⟩/\z.cell? ⟨U,off+k,none⟩=some (.int .i64 ((own.getD k 0:Nat):Int))):=λk hk z yQ=>by
  obtain⟨h1,off,h2,h3⟩:=SC.out k hk;refine⟨h1,off,h2,?_⟩;have e1:z.heap[U]? =w5.heap[U]? :=yQ.block U (bQ h1 tZ.size) (by simp only[aM,aK,bC];omega);have e2:w5.heap[U]? =w3.heap[U]? :=tZ.block U h1 (by simp);exact(aO (w:=w3) (w':=z) (a:=⟨U,off+k,none⟩) (e1.trans e2)).trans h3
 have rQ:w4.heap.size<w5.heap.size:=EB.lt;have b7:=tZ.size;have b6:kQ<w3.heap.size:=by
  rcases bb with h|h
  ·omega
  ·omega
 have bg:Hid (Onto w5 b kQ B (ps++(Yi++um BW own 0)) w5):=by
  refine Onto.refl ?_;have :=rp.out;simpa[um] using this
 clear bf EB kr rE tZ aP hb uk o5 xf qC Qr og aQ SC;generalize bP:w4.heap.size=g9 at *;go_wp2_with(with_reducible refine gS 132 EF.out ?_);go_loopg [44] own.length (λgh s44 z=>∃k:Nat,k+gh=own.length/\s44= .int .i64 (k:Int)/\Hid (Onto w5 b kQ B (ps++(Yi++um BW own k)) z))
 case atStart=>exact⟨0,by omega,rfl,bg.out⟩
 case round=>
  clear bg;obtain⟨k,hk,rfl,HP⟩:=hrel;obtain⟨lH,Qz,ax,J⟩:=HP.out;have PA:Hid (∀z,ay [] wr z->(loadVar 132 g9).run prog z= .ok (.agg (aX RW).toArray) z):=λz yQ=>fN ((X7.out.keep J (by simp only[aM,aK,bC];omega)).keep yQ) ak
  have aT:=Cx.out;have bR:=zB.out;have EU:=J.size;cases gk with
  |zero=>
   obtain rfl:k=own.length:=by omega
   have bH:Hid (∀z,Calls prog 63 #[i] z λe w'=>e=((q:Nat):Int)/\z=w'):=λz=>HI.out z
   have FX:Hid (∀z,ay [] wr z->Calls prog 182 #[b,((q:Nat):Int),(aX RW).toArray] z λe w'=>e= .returned (.tuple #[])/\Hid (Onto w b gp B (ps++bo) w')):=λz ae=>by
    have h1:=rY (ax.keep ae) (by simp only[aC,CJ,aT];omega) q SJ RW ak;refine h1.mono ?_;rintro e w' ⟨W,h2⟩;refine⟨W,?_⟩;rw[aV,aV,<-IH.out] at h2;have h3:=Onto.trans Qz J (Onto.mono ae (by omega) h2);refine Onto.trans ?_ pU.out h3;rcases bb with h|h
    ·exact .inl h
    ·exact .inr ⟨by omega,by omega⟩
   clear HP ax aI IH;generalize (aX RW).toArray=ZW,((q:Nat):Int)=qi at *;go_wp2_with fail;refine jR (l:=[_,_,_,_]) (S:=λz=>ay [] wr z) rfl ((ay.refl _ _).drew) ?_;repeat (
    (first
    |(refine aS.cons (.agg ZW) (bG.load rfl 132 (.tmp 9) rfl _ rfl λz V=>PA.out z V) ?_)
    |(refine aS.cons (.int .i64 qi) (bG.call rfl 63 #[i] ?W ?h) ?_;(case W=>(intro wz;go_simp));(case h=>exact λz V=>(bH.out z).mono λe w' W=>⟨W.1,W.2▸V⟩))
    |(refine aS.cons ?_ (bG.val rfl ?h) ?_;(case h=>(intro z V;clear V;go_simp;rfl))));simp only[Act.put,ag,ah,ai])
   refine aS.done λz V=> ?_
   have tT:=ar V;clear V;go_wp2_with fail;refine Rr (FX.out _ tT.out) λw' xm=> ?_;go_wp2;go_ret;exact⟨rfl,xm.out⟩
  |succ gg=>
   have af:k<own.length:=by omega
   have ck:(k:Int)<(own.length:Int):=by omega
   have cM:(0:Int)<=(k:Int):=by omega
   obtain⟨b9,off,rfl,c1⟩:=aI.out k af wr J;obtain⟨bu,cap,rfl,aF,pN⟩:=D4 aW.out (k:=k) (by omega) (Qy.out k af);have bt:=br.out (by omega);have mO:Hid (∀z,ay [] wr z->(loadVar 132 ⟨gb,bu+k*8,none⟩).run prog z= .ok (.agg (aX (BW.getD k [])).toArray) z):=λz yQ=>pN z ((yQ.block gb (bQ aF J.size) (by simp)).trans (J.block gb aF (by simp only[aM,aK,bC];omega)))
   have Yd:own.getD k 0<256:=(EP.out _ (by rw[aj,aD af];exact bM af)).2;have DX:Hid (∀z,Calls prog 155 #[((own.getD k 0:Nat):Int)] z λe w'=>e=((1080+8*own.getD k 0:Nat):Int)/\z=w'):=λz=>by
    have :=j6 ((own.getD k 0:Nat):Int) z;rwa[iG,aA,show 1080+((own.getD k 0:Nat):Int)*8=((1080+8*own.getD k 0:Nat):Int) by omega] at this
   have FX:Hid (∀z,ay [] wr z->Calls prog 182 #[b,((1080+8*own.getD k 0:Nat):Int),(aX (BW.getD k [])).toArray] z λe w'=>e= .returned (.tuple #[])/\Hid (Onto w5 b kQ B (ps++(Yi++um BW own (k+1))) w')):=λz ae=>by
    have h1:=rY (ax.keep ae) (by simp only[aC,CJ,aT];omega) (1080+8*own.getD k 0) (by omega) (BW.getD k []) (Qy.out k af);refine h1.mono ?_;rintro e w' ⟨W,h2⟩;refine⟨W,?_⟩;rw[aV,aV,<-Ah] at h2;exact Onto.trans Qz J (Onto.mono ae (by omega) h2)
   rw[bB] at *;clear HP ax PA Yd pN aF bt aW aI IH;generalize ((1080+8*own.getD k 0:Nat):Int)=bk,((own.getD k 0:Nat):Int)=x,(aX (BW.getD k [])).toArray=RK at *;go_wp2_with fail;refine jR (l:=[_,_,_,_,_,_,_]) (S:=λz=>ay [] wr z) rfl ((ay.refl _ _).drew) ?_;repeat (
    (first
    |(refine aS.cons (.agg RK) (bG.load rfl 132 (.tmp 54) rfl _ rfl λz V=>mO.out z V) ?_)
    |(refine aS.cons (.int .i64 bk) (bG.call rfl 155 #[x] ?W ?h) ?_;(case W=>(intro wz;go_simp));(case h=>exact λz V=>(DX.out z).mono λe w' W=>⟨W.1,W.2▸V⟩))
    |(refine aS.cons ?_ (bG.val rfl ?h) ?_;(case h=>(intro z V;clear V;go_simp;rfl))));simp only[Act.put,ag,ah,ai])
   refine aS.done λz V=> ?_
   have tT:=ar V;clear V;go_wp2_with fail;refine Rr (FX.out _ tT.out) λw' xm=> ?_;go_wp2;go_roundg gg;case measure=>omega
   case rel=>exact⟨k+1,by omega,by go_num,xm.out⟩
end Go.Proofs.YtimcfdnbpkiniaaGreatDoor
