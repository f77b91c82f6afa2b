/- Lemmas. -/
import Derived.Test.YtepbpdipenedhaaGreatDoorR23
set_option maxHeartbeats 4000000
set_option maxRecDepth 100000
namespace Go.Proofs.YtepbpdipenedhaaGreatDoor
open Go.Proofs.Tryz
open Go.RowKit
variable{w:World}{r:lX}{Z h:Array Value}{T b d g gp:Nat}{B:List Int}{ps:List (Int×Int)}{own:Nat->List Nat}{ex:List Nat}{M:Nat->Nd}{n:bP}{v:Value}{nm:ByteArray}{th:Bool}{i:Int}
end Go.Proofs.YtepbpdipenedhaaGreatDoor
namespace Go.Proofs.YtepbpdipenedhaaGreatDoor
open Go.Proofs.Tryz
open Go.RowKit
variable{w:World}{r:lX}{Z h:Array Value}{T b d g gp:Nat}{B:List Int}{ps:List (Int×Int)}{own:Nat->List Nat}{ex:List Nat}{M:Nat->Nd}{n:bP}{v:Value}{nm:ByteArray}{th:Bool}{i:Int}
def GH (r:lX) (vd h:Value):Array Value:= #[.int .i64 r.E,.int .i64 r.N,.int .i64 r.K,.int .i64 r.L,.int .i64 r.I,vd,h]
def Hw (w:World) (r:lX) (Z:Array Value):Prop:=∃vd h,Z=GH r vd h/\(∃g,Reads w vd g (jL r.D))/\∃g,bC w h g r.S
theorem Hw.size(h:Hw w r Z):Z.size=7:=by
 obtain⟨vd,z,rfl,-⟩:=h;rfl
theorem Hw.one(h:Hw w r Z):∀u∈Z.toList,u.oneCell'=true:=by
 obtain⟨vd,U,rfl,⟨V,G⟩,W,J⟩:=h;intro u z;have z:u∈[Value.int .i64 r.E,.int .i64 r.N,.int .i64 r.K,.int .i64 r.L,.int .i64 r.I,vd,U]:=z;simp only[aP,aM,bz] at z;rcases z with rfl|rfl|rfl|rfl|rfl|rfl|rfl
 ·rfl
 ·rfl
 ·rfl
 ·rfl
 ·rfl
 ·exact Qc G
 ·exact J.one
theorem Ek:(prog.info? 34).map (·.size)=some 7:=by kernel_rfl
theorem Bg{z:World}(G:bh w g Z T)(J:Hw z r Z):(loadVar 34 ⟨g,0,none⟩).run prog w= .ok (.agg Z) w:=by
 have h:=J.size;obtain⟨l⟩:=Z;simp only[bN] at h;exact bW g 0 l underlying34 rfl (by rw[h];exact Ek) λj _=>by
  rw[G.cell,aX,aF]
theorem uF{W:World}(U:bh w g h 34)(V:h.size=7)(G:Hw W r Z):
  ∃w',(storeVar 34 ⟨g,0,none⟩ (.agg Z)).run prog w= .ok () w'/\bh w' g Z 34/\az [g] w w':=by
 have J:=G.one;have z:=G.size;obtain⟨l⟩:=Z;simp only[bN] at z;exact bB (P:= prog) (ty:= 34) (cs:=l) (by rw[z];exact Ek) U (by rw[V,z]) J
theorem pZ (w:World):(zeroValue 34).run prog w= .ok (.agg (GH jf (.slice none 0 0) (.slice none 0 0))) w:=by kernel_rfl
theorem nK (w:World)(g:Nat):Reads w (.slice none 0 0) g (jL []):=⟨none,0,rfl,by simp[jL],by simp[maxLen],λh=>absurd rfl h⟩
theorem Yl (w:World){r:lX}(h:r.D=[])(z:r.S=[]):Hw w r (GH r (.slice none 0 0) (.slice none 0 0)):=⟨_,_,rfl,⟨0,by rw[h];exact nK w 0⟩,0,by rw[z];exact bC.nil w 0⟩
def Gs (o:kM) (h vq vd:Value):Array Value:= #[.int .i64 o.K,h,vq,.int .i64 o.O,.int .i64 o.N,vd]
theorem Qf (n:bP){v:Value}{g:Nat}{A M B:List (ByteArray×Int)}{nm:ByteArray}(hB:n.B.length=13)(hE:bC w v g n.E)(hs:iN n.E A M B nm)(XH:n.E.length<=500):
  Calls prog 178 #[.agg (aR n v),.string nm] w (uu w n (A++B)):=by
 have KS:=hs.newLen 0;obtain⟨L,hL⟩:∃L,A++B=L:=⟨_,rfl⟩;rw[hL] at KS ⊢;have HL:=au hL;have ar:(aR cr (.slice none 0 0)).size=18:=rfl;have aT:=eA;have af:=(bh.new w (aR n v) 111).alloc (.cells (aR cr (.slice none 0 0)) 111);have ae:=bh.new (w.alloc (.cells (aR n v) 111)) (aR cr (.slice none 0 0)) 111;rw[show(w.alloc (.cells (aR n v) 111)).heap.size=w.heap.size+1 by simp] at ae;have ac:az [] w ((w.alloc (.cells (aR n v) 111)).alloc (.cells (aR cr (.slice none 0 0)) 111)):=((az.refl [] w).alloc _).alloc _;have aB:=I2 (hE.keep ac (by simp)) hs (by omega);have AO:Hid (L.length<=1000):=by show _<=_;omega
 have aA:=iX v hB;have aa:∀u:Value,u.oneCell'=true->∀x∈mo (kH n L) u,x.oneCell'=true:=λu hu=>ku hu
 have XM:=au aa;have aJ:Hid (∀J a c,Calls prog 186 #[.agg (aR n v),.slice a L.length c] J λe w'=>e= .returned (.agg (aR (kH n L) (.slice a L.length c)))/\az [] J w'):=λJ a c=>I5 n v hB L _ rfl
 have aD:∀u,(mo (kH n L) u).length=18:=λu=>by rw[gU];show n.B.length+5=18;omega
 have EJ:=au aD;obtain⟨a,cap,rfl,aK,aI,-⟩:=hE.open;have Zf:=aA.f5;have aP:Hid (∀J,bh J w.heap.size (aR n (.slice a n.E.length cap)) 111->(loadVar 111 ⟨w.heap.size,0,none⟩).run prog J= .ok (.agg (aR n (.slice a n.E.length cap))) J):=λJ hb=>ct hb hB
 generalize aR cr (.slice none 0 0)=Z0 at *;generalize aR n (.slice a n.E.length cap)=Z at *;have aS:((w.alloc (.cells Z 111)).alloc (.cells Z0 111)).cell? ⟨w.heap.size,17,none⟩=some (.slice a n.E.length cap):=by rw[af.cell];exact Zf
 have av:=au aB;have oK:=au af;have o7:=au ae;have fL:=au ac;have H0:=au ar;clear aB af ae ac aA aa aD ar hE hs KS XH Zf hB aK aI hL;go_enter func178,ntmps178;go_wp2_with fail;refine av.out.mono ?_;rintro e V ⟨x,y,rfl,hx,hy,G⟩;obtain⟨a1,c1,aM,-,-,-⟩:=hx.open;obtain⟨a2,c2,aO,-,-,-⟩:=hy.open;subst aM aO;have aC:w.heap.size+2<=V.heap.size:=by have :=G.size;simp at this;omega
 have ax:=au aC;have oK:=au (oK.out.keep G (by simp));have o7:=au (o7.out.keep G (by simp));have mV:=au (fL.out.trans' G);have HX:=au (hx.keep G (by simp));have HY:=au (hy.keep G (by simp));clear hx hy G av aC aS;go_wp2_with fail;refine jX (S:=λJ=>az [w.heap.size+1] V J) [0,1,2] [3,4,5,6] (l:=[_,_,_]) (tl:=[_,_,_,_]) (by kernel_rfl) (by kernel_rfl) (by kernel_rfl) (by kernel_rfl) rfl rfl rfl rfl rfl (λd _ _ _ _ h=>by cases d<;>exact h) (az.refl _ _).drew ?_;refine cN.cons _ (YieldsIf.load rfl 111 (.tmp 2) rfl _ rfl λJ hx=>aP.out J (oK.out.keep hx (by simp))) ?_;simp only[Act.put,ag];refine cN.cons ?_ (YieldsIf.val rfl ?h) ?_;(case h=>(intro J hx;clear hx;go_simp;rfl));simp only[Act.put];refine cN.cons ?_ (YieldsIf.val rfl ?h) ?_;(case h=>(intro J hx;clear hx;go_simp;rfl));simp only[Act.put];refine cN.done ?_;unfold gI;go_wp2_with fail;refine⟨((az.refl _ _).drew).alloc _,?_⟩;unfold gI;have j6:az [] V ((V.alloc (.cells #[.slice a1 A.length c1,.slice a2 B.length c2] 32)).drew):=((az.refl _ _).alloc _).drew;have yP:bh ((V.alloc (.cells #[.slice a1 A.length c1,.slice a2 B.length c2] 32)).drew) V.heap.size ([.slice a1 A.length c1,.slice a2 B.length c2]:List Value).toArray 32 :=(bh.new V #[.slice a1 A.length c1,.slice a2 B.length c2] 32).drew;have aj:[A,B].flatten=L:=by rw[<-HL.out];simp
 have ak:=HX.out.keep j6 (by simp);have aH:=HY.out.keep j6 (by simp);have U:=F3 (Ls:=[A,B]) yP rfl (by simp)
  (af0 (P:=λj=>∃g,bC ((V.alloc (.cells #[.slice a1 A.length c1,.slice a2 B.length c2] 32)).drew) (([.slice a1 A.length c1,.slice a2 B.length c2]:List Value).getD j (.slice none 0 0)) g ([A,B].getD j [])) ⟨g,ak⟩ ⟨g,aH⟩)
  (by rw[aj];exact AO.out)
 rw[aj] at U;have Mt:=au U;have qG:=au j6;clear U j6 yP aj ak aH;go_wp2_with fail;refine Mt.out.mono ?_;rintro e w6 ⟨u,gu,rfl,hu,Zr,kG⟩;obtain⟨a6,W,aQ,-,-,-⟩:=hu.open;subst aQ;have o8:=au (qG.out.trans' kG);have HU:=au hu;have aG:Hid (V.heap.size<=gu):=cD qG.out.size Zr;clear hu Zr kG Mt qG;have HV:=au (aJ.out w6 a6 W);have XN:=au (XM.out (.slice a6 L.length W) rfl);have PO:=au (EJ.out (.slice a6 L.length W));have QY:Hid (aR (kH n L) (.slice a6 L.length W)=(mo (kH n L) (.slice a6 L.length W)).toArray):=rfl;have LZ:Hid (∀w',bC w' (.slice a6 L.length W) gu L->az [] w w'->uu w n L (.returned (.agg (aR (kH n L) (.slice a6 L.length W)))) w'):=λw' h1 h2=>⟨_,gu,rfl,h1,by have :=aG.out;have :=ax.out;omega,h2⟩
 clear XM EJ aJ;generalize aR (kH n L) (.slice a6 L.length W)=Z6 at *;generalize mo (kH n L) (.slice a6 L.length W)=ZL at *;generalize L.length=m at *;go_wp2_with fail;refine⟨o8.out.mono (by simp),?_⟩;unfold gI;go_wp2_with fail;refine HV.out.mono ?_;rintro e w7 ⟨rfl,zW⟩;have GD:=au (o8.out.trans' zW);have aN:=au (HU.out.keep zW (by simp));obtain⟨w8,q1,q2,q3⟩:=bB (P:= prog) (ty:= 111) (cs:=ZL) (by rw[PO.out];exact iY) (o7.out.keep GD.out (by simp)) (by rw[PO.out];exact H0.out) XN.out;rw[<-QY.out] at q1;have HS:=au q1;have Hc:Hid ((loadVar 111 ⟨w.heap.size+1,0,none⟩).run prog w8= .ok (.agg Z6) w8):=by
  rw[QY.out];exact bW _ 0 ZL underlying111 rfl (by rw[PO.out];exact iY) λj _=>by rw[q2.cell,aX,aF]
 have Pm:=au ((GD.out.mono (l':=[w.heap.size+1]) (by simp)).trans' q3);have HF:=au (LZ.out w8 (aN.out.keep q3 (by have :=aG.out;have :=ax.out;intro _ h;rw[ay] at h;omega)) (mV.out.trans Pm.out (by intro z hz;rw[ay] at hz;omega)));clear q1 q2 q3 zW HV LZ;go_wp2_with fail;refine⟨GD.out.mono (by simp),?_⟩;unfold gI;refine pn rfl 111 (.tmp 4) (.tmp 19) rfl ⟨w.heap.size+1,0,none⟩ rfl (.agg Z6) rfl w8 HS.out ?_;go_wp2_with fail;refine⟨Pm.out,?_⟩;unfold gI;go_wp2_with fail;exact aL (b9 results178 rfl Hc.out) rfl HF.out
structure wH (w:World) (b gp:Nat) (B:List Int) (ps:List (Int×Int)) (T:List (bP×Value)) (own:Nat->List Nat) (ex:List Nat) (M:Nat->Nd):Prop where
 sh:eO w b gp B ps
 nd:ni (aA B ps) T own ex M
 lt:b<w.heap.size/\gp<w.heap.size
 tab:∀wx,az [b,gp] w wx->kg wx
section
variable {w w':World} {b gp gG:Nat} {B:List Int} {ps qs:List (Int×Int)} {T T':List (bP×Value)} {own cM:Nat->List Nat} {ex ex':List Nat} {M M':Nat->Nd}
theorem wH.keep0(h:wH w b gp B ps T own ex M)(z:az [] w w'):wH w' b gp B ps T own ex M:=
 ⟨h.sh.keep z (by simp) (by simp),h.nd,by have :=z.size;have :=h.lt;omega,λG J=>h.tab G ((z.mono (by simp)).trans' J)⟩
theorem wH.shT(h:wH w b gp B ps T own ex M):gN w b gp B ps T own:=⟨h.sh,h.nd.st.w64,h.nd.st.gots,h.lt⟩
theorem wH.shS(h:wH w b gp B ps T own ex M):se w b gp B ps T own:=⟨h.shT,h.nd.st.sup⟩
theorem wH.go(h:wH w b gp B ps T own ex M)(V:eO w' b gG B (ps++qs))(G:az [b,gp] w w')(W:gG=gp\/(w.heap.size<=gG/\gG<w'.heap.size))(U:ni (aA (aA B ps) qs) T' cM ex' M'):wH w' b gG B (ps++qs) T' cM ex' M':=
 ⟨V,by rw[bD];exact U,by have :=G.size;have :=h.lt;omega,λJ z=>h.tab J (G.trans z λx z=>by
  simp only[aP,aM,bz] at z ⊢;omega)⟩
def Ym (w:World) (n:bP) (e:Ending) (w':World):Prop:=
 ∃v g h,e= .returned (.tuple #[.agg (aR n v),h,.int .i64 0])/\bC w' v g n.E/\w.heap.size<=g/\az [] w w'
theorem wH.get(h:wH w b gp B ps T own ex M){i:Nat}(J:(M i).K≠0):Calls prog 97 #[.pointer (some ⟨b,0,none⟩),.int .i64 (i:Int)] w (Ym w (nT T i)):=by
 have z:=h.nd.store J;have hF:(nT T i).F≠0:=by rcases z.right.1 with U|U<;>omega
 refine(h.shT.get (h.nd.rng J)).mono ?_;rintro e w1 ⟨v,g,W,ga,r,rfl,hB,hE,V,-,-,G,hr⟩;have Ki:r=0:=by omega
 subst Ki;exact⟨v,g,W,rfl,hE,V,G⟩
theorem wH.put(h:wH w b gp B ps T own ex M)(aa:ps.length<=600000)(i:Nat){n:bP}{v:Value}{g:Nat}{R:Int->List (Int×Int)->Prop}(W:n.B.length=13)(hN:∀k,k<n.E.length->(eU n.E k).size<=9223372036854775807)(U:∀r qs,nH (aA B ps) (i:Int) n r qs->R r qs){G:World}(z:az [] w G)(hE:bC G v g n.E)(hg:w.heap.size<=g):
  Calls prog 49 #[.pointer (some ⟨b,0,none⟩),.int .i64 (i:Int),.agg (aR n v)] G (λe w'=>cO w b gp B ps 700 R e w'/\az [b,gp] G w'):=by
 have ac:=h.lt;refine(um (h.sh.keep z (by simp) (by simp)) h.nd.st.w64 (λwy hy=>h.tab wy ((z.mono (by simp)).trans' hy)) (by have :=z.size;omega) (by omega) (i:Int) n v g W hE hN (λ_=>by omega)).mono ?_;rintro e w1 ⟨r,qs,gG,h1,h2,h3,J,h5,V⟩;exact⟨⟨r,qs,gG,h1,by have :=z.size;omega,h3,(z.mono (by simp)).trans' J,h5,U r qs V⟩,J⟩
theorem Nn {E:List (ByteArray×Int)}(h:Hu E):∀k,k<E.length->(eU E k).size<=9223372036854775807:=λk z=>by
 have G:=(RJ h k z).1;have J:=nN G;rw[lM] at J;omega
end
theorem bh.new2(w:World)(c:Array Value)(T:Nat)(z:Array Value)(h:Nat):bh ((w.alloc (.cells c T)).alloc (.cells z h)) (w.heap.size+1) z h:=by
 have :=bh.new (w.alloc (.cells c T)) z h;rwa[br] at this
def dZ (b:Nat) (o:kM) (h vq vd:Value):Array Value:= #[.pointer (some ⟨b,0,none⟩),.int .i64 o.K,h,vq,.int .i64 o.O,.int .i64 o.N,vd]
def fU (d:Nat) (nm:ByteArray) (th:Bool) (i:Int):Array Value:= #[.int .i64 (d:Int),.string nm,.bool th,.int .i64 i]
theorem Yn:(prog.info? 79).map (·.size)=some 7:=by kernel_rfl
theorem Jk:(prog.info? 165).map (·.size)=some 4:=by kernel_rfl
theorem gZ{z x:Nat}(G:b<w.heap.size/\z<w.heap.size)(h:w.heap.size<=x):x∉[b,z]:=by
 simp only[aP,aM,bz];omega
theorem Yo{U:Nat}{T:List (bP×Value)}(h:wH w b U B ps T own ex M)(aj:ps.length<=600000)(o:kM)(vp vq vd:Value){d:Nat}(hK:(M d).K=2)(nm:ByteArray)(th:Bool)(i:Int):
  Calls prog 153 #[.agg (dZ b o vp vq vd),.agg (fU d nm th i)] w (cO w b U B ps 700 (Cv (aA B ps) ex M d nm)):=by
 have Oe:=h.nd.ed hK;have aa:=h.nd.ents d;obtain⟨A,N,E2,hs⟩:=kQ Oe.2.2 nm;have ac:=rY hs;have dt:az [] w ((w.alloc (.cells (dZ b o vp vq vd) 79)).alloc (.cells (fU d nm th i) 165)):=((az.refl _ _).alloc _).alloc _;have HG:=au ((h.keep0 dt).get (i:=d) (by omega));have W:=h.nd.store (i:=d) (by omega);have av:=W.len;have RH:Hid (∀z v g,az [] w z->bC z v g (A++E2)->w.heap.size<=g->Calls prog 49 #[.pointer (some ⟨b,0,none⟩),.int .i64 (d:Int),.agg (aR (kH (nT T d) (A++E2)) v)] z (λe w'=>cO w b U B ps 700 (Cv (aA B ps) ex M d nm) e w'/\az [b,U] z w')):=λz v g hk hE hg=>
  h.put aj d (n:=kH (nT T d) (A++E2)) W.len (by rw[<-ac];exact Nn (Yd Oe nm)) (λr qs hp=>h.nd.leave hK (by rw[ac];exact hp)) hk hE hg
 have ax:Hid (∀z v g,bC z v g (nT T d).E->Calls prog 178 #[.agg (aR (nT T d) v),.string nm] z (uu z (nT T d) (A++E2))):=λz v g hE=>Qf (nT T d) W.len hE (by rw[aa];exact hs) (by rw[aa];have :=Oe.1;omega)
 have fW:=au dt;have EI:=au h.lt;have Kn:Hid (∀e z,cO w b U B ps 700 (Cv (aA B ps) ex M d nm) e z->∃r,e= .returned (.int .i64 r)/\cO w b U B ps 700 (Cv (aA B ps) ex M d nm) e z):=λe z hh=>by
  obtain⟨r,qs,gG,h1,-⟩:=id hh;exact⟨r,h1,hh⟩
 have HJ:Hid (bh ((w.alloc (.cells (dZ b o vp vq vd) 79)).alloc (.cells (fU d nm th i) 165)) w.heap.size (dZ b o vp vq vd) 79/\bh ((w.alloc (.cells (dZ b o vp vq vd) 79)).alloc (.cells (fU d nm th i) 165)) (w.heap.size+1) (fU d nm th i) 165):=⟨(bh.new w _ _).alloc _,bh.new2 w _ _ _ _⟩;have ub:=eA;clear h Oe aa ac W hs aj hK dt;generalize cO w b U B ps 700 (Cv (aA B ps) ex M d nm)=Q at *;generalize hn:nT T d=n at *;generalize af:aR cr (.slice none 0 0)=Z0 at *;have DN:Hid (Z0.size=18):=by show _=_;rw[<-af];rfl
 clear af hn;generalize A++E2=E' at *;unfold dZ fU at *;generalize (d:Int)=di at *;go_enter func153,ntmps153;go_wp2_with fail;refine HG.out.mono ?_;rintro e w1 ⟨v,g,va,rfl,hE,hg,J⟩;obtain⟨G,p1,p2,p3⟩:=dc (n:=n) (v:=v) (bh.new w1 Z0 111) DN.out av hE.one;have ak:=J.size;have aG:w.heap.size+2<=w1.heap.size:=by rw[br,br] at ak;omega
 have iM:az [] w1 G:=((az.refl _ _).alloc _).trans p3 (by intro x hx;rw[ay] at hx;omega);have aD:az [] w G:=fW.out.trans' (J.trans' iM);have ov:=au p1;have K0:bC G v g n.E:=hE.keep iM (by simp);have QV:=HJ.out.1.keep (J.trans' iM) (by simp);have ae:=HJ.out.2.keep (J.trans' iM) (by simp);have HC:Hid (∀V,az [b,U] G V->V.cell? ⟨w.heap.size,0,none⟩=some (.pointer (some ⟨b,0,none⟩))/\V.cell? ⟨w.heap.size+1,0,none⟩=some (.int .i64 di)/\V.cell? ⟨w.heap.size+1,1,none⟩=some (.string nm)/\(loadVar 111 ⟨w1.heap.size,0,none⟩).run prog V= .ok (.agg (aR n v)) V):=λV hz=>
  ⟨by rw[(QV.keep hz (gZ EI.out (by omega))).cell];rfl,by rw[(ae.keep hz (gZ EI.out (by omega))).cell];rfl,by rw[(ae.keep hz (gZ EI.out (by omega))).cell];rfl,ct (p2.keep hz (gZ EI.out (by omega))) av⟩
 have aC:=au (ax.out G.drew v g (K0.keep ((az.refl [] G).drew) (by simp)));have fL:=au aD;clear p1 p2 p3 aD K0 hE hg J iM HG QV ae HJ fW ak aG ax;go_wp2_with(first|(with_reducible refine gS 111 ov.out ?_));refine jX (S:=λz=>az [b,U] G z) [0,1,2,3,4,5,6] [7,8,9] (l:=[_,_,_,_,_,_,_]) (tl:=[_,_,_]) (by kernel_rfl) (by kernel_rfl) (by kernel_rfl) (by kernel_rfl) rfl rfl rfl rfl rfl (λd _ _ _ _ h=>by cases d<;>exact h) (az.refl _ _).drew ?_;simp only[iz,iI,iJ];repeat (first
  |(refine cN.cons (.agg (aR n v)) (YieldsIf.load rfl 111 _ rfl _ rfl λV hz=>(HC.out _ hz).2.2.2) ?_;simp only[Act.put,ag,ah,ai])
  |(refine cN.cons ?_ (YieldsIf.val rfl ?h) ?_;(case h=>(intro V hz;obtain⟨q0,q1,q2,-⟩:=HC.out V hz;clear hz;go_simp;rfl));simp only[Act.put,ag,ah,ai]))
 refine cN.done ?_;unfold gI;go_wp2_with fail;refine aC.out.mono ?_;rintro e w3 ⟨u,g3,rfl,Yp,aF,ar⟩;have mH:az [] G w3:=((az.refl [] G).drew).trans' ar;have Ad:=au (RH.out w3 u g3 (fL.out.trans' mH) Yp (by have :=fL.out.size;have :=((az.refl [] G).drew).size;omega));have mV:Hid (az [b,U] G w3):=mH.mono (by simp);clear mH ar Yp aF aC RH;go_wp2_with fail;refine⟨mV.out,?_⟩;unfold gI;go_wp2_with fail;refine Ad.out.mono ?_;rintro e w4 ⟨hq,aB⟩;obtain⟨r,rfl,hq⟩:=Kn.out _ _ hq;have HF:=au hq;have pW:=au (mV.out.trans' aB);clear hq aB;go_wp2_with fail;refine⟨pW.out,?_⟩;unfold gI;go_wp2_with fail;refine⟨pW.out,?_⟩;unfold gI;go_wp2_with fail
 first|exact HF.out|(go_ret;exact HF.out)
theorem abB (h:bh w g (aR n v) T)(x:Int):bh (w.setCell ⟨g,2,none⟩ (.int .i64 x)) g (aR { n with L:=x } v) T:=h.set 2 (.int .i64 x)
theorem Cy (h:n.B.length=13):(aR n v).size=18:=by rw[aR,bN,gU,h]
theorem UO{T:List (bP×Value)}(h:wH w b gp B ps T own ex M)(ah:ps.length<=600000)(o:kM)(vp vq vd:Value){i:Nat}(hK:(M i).K≠0)(hL:1<=(M i).L):
  Calls prog 154 #[.agg (dZ b o vp vq vd),.int .i64 (i:Int)] w (cO w b gp B ps 700 (qZ (aA B ps) ex M i)):=by
 have dt:az [] w (w.alloc (.cells (dZ b o vp vq vd) 79)):=(az.refl _ _).alloc _;have HG:=au ((h.keep0 dt).get hK);have J:=h.nd.store hK;have af:=J.len;have hl:=h.nd.links i;have aj:=J.right.2.1;have RH:Hid (1<(M i).L->∀z v g,az [] w z->bC z v g (nT T i).E->w.heap.size<=g->Calls prog 49 #[.pointer (some ⟨b,0,none⟩),.int .i64 (i:Int),.agg (aR { nT T i with L:=(M i).L-1 } v)] z (λe w'=>cO w b gp B ps 700 (qZ (aA B ps) ex M i) e w'/\az [b,gp] z w')):=λak z v g hk hE hg=>
  h.put ah i (n:={ nT T i with L:=(M i).L-1 }) J.len (show ∀k,k<(nT T i).E.length->(eU (nT T i).E k).size<=9223372036854775807 from Dh J.right) (λr qs hp=>h.nd.unlinkPut hK ak hp) hk hE hg
 have ZF:Hid ((M i).L=1->∀z,az [] w z->Calls prog 179 #[.pointer (some ⟨b,0,none⟩),.int .i64 (i:Int)] z (cO w b gp B ps 700 (qZ (aA B ps) ex M i))):=λh1 z hk=>by
  have ax:=h.lt;refine(abh (h.sh.keep hk (by simp) (by simp)) h.nd.st.w64 (by have :=hk.size;omega) (by omega) (i:Int)).mono ?_;rintro e V ⟨r,qs,gG,h2,h3,h4,h5,h6,h7⟩;exact⟨r,qs,gG,h2,by have :=hk.size;omega,h4,(hk.mono (by simp)).trans' h5,h6,h.nd.unlinkDrop hK h1 h7⟩
 have fW:=au dt;have Kn:Hid (∀e z,cO w b gp B ps 700 (qZ (aA B ps) ex M i) e z->∃r,e= .returned (.int .i64 r)/\cO w b gp B ps 700 (qZ (aA B ps) ex M i) e z):=λe z hh=>by
  obtain⟨r,qs,gG,h1,-⟩:=id hh;exact⟨r,h1,hh⟩
 have HJ:Hid (bh (w.alloc (.cells (dZ b o vp vq vd) 79)) w.heap.size (dZ b o vp vq vd) 79):=bh.new w _ _;have ub:=eA;clear h J ah hK dt;generalize cO w b gp B ps 700 (qZ (aA B ps) ex M i)=Q at *;generalize hn:nT T i=n at *;generalize ar:(M i).L=l0 at *;generalize ag:aR cr (.slice none 0 0)=Z0 at *;have DN:Hid (Z0.size=18):=by show _=_;rw[<-ag];rfl
 clear ag hn ar;unfold dZ at *;generalize (i:Int)=di at *;obtain⟨G,GK⟩:∃G,l0-1=G:=⟨_,rfl⟩;have av:IntKind.i64.wrap G=G:=by rw[cy];omega
 rw[GK] at RH;go_enter func154,ntmps154;go_wp2_with fail;refine HG.out.mono ?_;rintro e V ⟨v,g,va,rfl,hE,hg,U⟩;obtain⟨w2,p1,p2,p3⟩:=dc (n:=n) (v:=v) (bh.new V Z0 111) DN.out af hE.one;have ae:=U.size;have ai:w.heap.size+1<=V.heap.size:=by rw[br] at ae;omega
 have iM:az [] V w2:=((az.refl _ _).alloc _).trans p3 (by intro x hx;rw[ay] at hx;omega);have ov:=au p1;have p5:=abB p2 G;have mH:az [] V (w2.setCell ⟨V.heap.size,2,none⟩ (.int .i64 G)):=iM.setCell (.inr (aI _)) _;have aa:az [] w (w2.setCell ⟨V.heap.size,2,none⟩ (.int .i64 G)):=fW.out.trans' (U.trans' mH);have Yp:bC (w2.setCell ⟨V.heap.size,2,none⟩ (.int .i64 G)) v g n.E:=hE.keep mH (by simp);have c1:w2.cell? ⟨V.heap.size,2,none⟩=some (.int .i64 l0):=by rw[p2.cell,<-hl];exact(iX v af).f2
 have ac:=ct p5 af;have c2:(w2.setCell ⟨V.heap.size,2,none⟩ (.int .i64 G)).cell? ⟨w.heap.size,0,none⟩=some (.pointer (some ⟨b,0,none⟩)):=by
  rw[((HJ.out.keep U (by simp)).keep mH (by simp)).cell];rfl
 have zC:=au ac;have mU:=au p2;by_cases h1:l0=1
 ·have HD:=au (ZF.out h1 _ aa)
  have b1:decide (G<1)=true:=bq (by omega);clear h1 hL hl aj;clear p1 p2 p3 p5 aa mH Yp hE hg U iM HG HJ fW ae ai RH ZF ac zC;have o9:=mU.out.frozen;go_wp2_with(first|(with_reducible refine gS 111 ov.out ?_));refine HD.out.mono ?_;intro e w4 W;obtain⟨r,rfl,W⟩:=Kn.out _ _ W;have HF:=au W;clear W;go_wp2_with fail
  first|exact HF.out|(go_ret;exact HF.out)
 ·have Ad:=au (RH.out (by omega) _ v g aa Yp (by rw[br] at hg;omega))
  have b1:decide (G<1)=false:=aS (by omega);clear p1 p2 p3 p5 aa mH Yp hE hg U iM HG HJ fW ae ai RH ZF ac;have o9:=mU.out.frozen;generalize aR { n with L:=G } v=Z3 at *;clear h1 hL hl aj;go_wp2_with(first|(with_reducible refine gS 111 ov.out ?_)|(with_reducible refine gL 111 zC.out ?_));refine Ad.out.mono ?_;rintro e w4 ⟨W,-⟩;obtain⟨r,rfl,W⟩:=Kn.out _ _ W;have HF:=au W;clear W;go_wp2_with fail
  first|exact HF.out|(go_ret;exact HF.out)
theorem Yq{T:List (bP×Value)}(h:wH w b gp B ps T own ex M)(aF:ps.length<=600000)(o:kM)(vp vq vd:Value){d:Nat}(hK:(M d).K=2){nm:ByteArray}(hn:iC (bl nm)=true)(th:Bool)(i0:Int){i:Int}(hi:0<=i/\i<32):
  Calls prog 118 #[.agg (dZ b o vp vq vd),.agg (fU d nm th i0),.int .i64 i] w (cO w b gp B ps 700 (vP (aA B ps) ex M d nm i)):=by
 have Oe:=h.nd.ed hK;have ah:=h.nd.ents d;obtain⟨A,N,E2,hs⟩:=kQ Oe.2.2 nm;have af:=zQ hs i;have dt:az [] w ((w.alloc (.cells (dZ b o vp vq vd) 79)).alloc (.cells (fU d nm th i0) 165)):=((az.refl _ _).alloc _).alloc _;have HG:=au ((h.keep0 dt).get (i:=d) (by omega));have aa:=h.nd.store (i:=d) (by omega);have J:=aa.len;have RH:Hid ((A++([(nm,i)]++E2)).length<=24->∀z v g,az [] w z->bC z v g (A++([(nm,i)]++E2))->w.heap.size<=g->Calls prog 49 #[.pointer (some ⟨b,0,none⟩),.int .i64 (d:Int),.agg (aR (kH (nT T d) (A++([(nm,i)]++E2))) v)] z (λe w'=>cO w b gp B ps 700 (vP (aA B ps) ex M d nm i) e w'/\az [b,gp] z w')):=λG z v g hk hE hg=>by
  rw[<-af] at G hE ⊢;exact h.put aF d (n:=kH (nT T d) (Hv (M d).E nm i)) aa.len (Nn (Ye Oe G hn hi)) (λr qs hp=>h.nd.enter hK hn hi G hp) hk hE hg
 have ar:Hid (∀z v g,bC z v g (nT T d).E->Calls prog 158 #[.agg (aR (nT T d) v),.agg #[.string nm,.int .i64 i]] z (uu z (nT T d) (A++([(nm,i)]++E2)))):=λz v g hE=>XL (nT T d) i aa.len hE (by rw[ah];exact hs) (by rw[ah];have :=Oe.1;omega)
 have fW:=au dt;have EI:=au h.lt;have jC:Hid (∀z,az [] w z->24<(A++([(nm,i)]++E2)).length->cO w b gp B ps 700 (vP (aA B ps) ex M d nm i) (.returned (.int .i64 7)) z):=λz hk aI=>cO.none h.sh hk (.inl ⟨rfl,rfl,.inl (by rw[af];exact aI)⟩)
 have Kn:Hid (∀e z,cO w b gp B ps 700 (vP (aA B ps) ex M d nm i) e z->∃r,e= .returned (.int .i64 r)/\cO w b gp B ps 700 (vP (aA B ps) ex M d nm i) e z):=λe z hh=>by
  obtain⟨r,qs,gG,h1,-⟩:=id hh;exact⟨r,h1,hh⟩
 have HJ:Hid (bh ((w.alloc (.cells (dZ b o vp vq vd) 79)).alloc (.cells (fU d nm th i0) 165)) w.heap.size (dZ b o vp vq vd) 79/\bh ((w.alloc (.cells (dZ b o vp vq vd) 79)).alloc (.cells (fU d nm th i0) 165)) (w.heap.size+1) (fU d nm th i0) 165):=⟨(bh.new w _ _).alloc _,bh.new2 w _ _ _ _⟩;have ub:=eA;clear h Oe ah af aa hs aF hK dt hi hn;generalize cO w b gp B ps 700 (vP (aA B ps) ex M d nm i)=Q at *;generalize hn:nT T d=n at *;generalize ax:aR cr (.slice none 0 0)=Z0 at *;have DN:Hid (Z0.size=18):=by show _=_;rw[<-ax];rfl
 clear ax hn;generalize A++([(nm,i)]++E2)=U at *;unfold dZ fU at *;generalize (d:Int)=di at *;go_enter func118,ntmps118;go_wp2_with fail;refine HG.out.mono ?_;rintro e w1 ⟨v,g,va,rfl,hE,hg,V⟩;obtain⟨w2,p1,p2,p3⟩:=dc (n:=n) (v:=v) (bh.new w1 Z0 111) DN.out J hE.one;have aC:=V.size;have aD:w.heap.size+2<=w1.heap.size:=by rw[br,br] at aC;omega
 have iM:az [] w1 w2:=((az.refl _ _).alloc _).trans p3 (by intro x hx;rw[ay] at hx;omega);have av:az [] w w2:=fW.out.trans' (V.trans' iM);have ov:=au p1;have K0:bC w2 v g n.E:=hE.keep iM (by simp);have QV:=HJ.out.1.keep (V.trans' iM) (by simp);have aj:=HJ.out.2.keep (V.trans' iM) (by simp);have c1:w2.cell? ⟨w.heap.size+1,1,none⟩=some (.string nm):=by rw[aj.cell];rfl
 have qN:=au (ct p2 J);have ak:=au (ar.out w2 v g K0);have mU:Hid (bh w2 w1.heap.size (aR n v) 111/\(aR n v).size=18/\w1.heap.size<w2.heap.size):=⟨p2,Cy J,by have :=p3.size;rw[br] at this;omega⟩;have ac:Hid (bh w2 w.heap.size _ _/\bh w2 (w.heap.size+1) _ _):=⟨QV,aj⟩;have fL:=au av;have Wm:=au aD;clear p1 p2 p3 av K0 hE hg V iM HG QV aj HJ fW aC aD ar;go_wp2_with(first|(with_reducible refine gS 111 ov.out ?_)|(with_reducible refine gL 111 qN.out ?_));refine ak.out.mono ?_;rintro e w3 ⟨u,g3,rfl,Yp,aB,ae⟩;obtain⟨w4,p1,p2,p3⟩:=dc (n:=kH n U) (v:=u) (mU.out.1.keep ae (by simp)) mU.out.2.1 J Yp.one;have W:az [w1.heap.size] w2 w4:=(ae.mono (by simp)).trans' p3;have Hx:az [] w w4:=fL.out.trans W (by intro x hx;rw[ay] at hx;have :=Wm.out;omega);have VE:bC w4 u g3 U:=Yp.keep p3 (by rw[ay];have :=mU.out.2.2;omega);have ag:=ac.out.1.keep W (by rw[ay];have :=Wm.out;omega);have ai:=ac.out.2.keep W (by rw[ay];have :=Wm.out;omega);have c2:w4.cell? ⟨w.heap.size,0,none⟩=some (.pointer (some ⟨b,0,none⟩)):=by rw[ag.cell];rfl
 have c3:w4.cell? ⟨w.heap.size+1,0,none⟩=some (.int .i64 di):=by rw[ai.cell];rfl
 have c4:w4.cell? ⟨w1.heap.size,3,none⟩=some (.int .i64 (U.length:Int)):=by rw[p2.cell];exact(iX (n:=kH n U) u J).f3
 have vB:=au p1;have aG:=au (ct p2 J);have PS:w.heap.size<=g3:=by have :=fL.out.size;omega
 by_cases G:U.length<=24
 ·have aH:=au (RH.out G w4 u g3 Hx VE PS)
  have b1:decide ((24:Int)<(U.length:Int))=false:=aS (by omega);generalize aR (kH n U) u=Z4 at *;generalize (U.length:Int)=el at *;clear p1 p2 p3 ae Yp VE W Hx ag ai aB PS mU ac fL Wm RH jC ak qN ov G;go_wp2_with(first|(with_reducible refine gS 111 vB.out ?_)|(with_reducible refine gL 111 aG.out ?_));refine aH.out.mono ?_;rintro e w5 ⟨hq,-⟩;obtain⟨r,rfl,hq⟩:=Kn.out _ _ hq;have HF:=au hq;clear hq;go_wp2_with fail
  first|exact HF.out|(go_ret;exact HF.out)
 ·have HF:=au (jC.out w4 Hx (by omega))
  have b1:decide ((24:Int)<(U.length:Int))=true:=bq (by omega);generalize aR (kH n U) u=Z4 at *;generalize (U.length:Int)=el at *;clear p1 p2 p3 ae Yp VE W Hx ag ai aB PS mU ac fL Wm RH jC ak qN ov G;go_wp2_with(first|(with_reducible refine gS 111 vB.out ?_))
  first|exact HF.out|(go_ret;exact HF.out)
theorem qA{P:Program}{fn:Func}{tmps:Array Value}{a u c:Nat}{h:Addr}{x y:Value}(z:fn.results= #[.tmp a,.cell b u,.tmp c])(U:tmps.getD a undef=v)(J:tmps.getD b undef= .pointer (some h))
  (G:(loadVar u h).run P w= .ok x w) (V:tmps.getD c undef=y):(results fn tmps).run P w= .ok (.tuple #[v,x,y]) w:=by
 rw[fX] at U J V;unfold results;rw[z];simp[U,J,asAddr,G,V]
theorem Cz (w:World):(zeroValue 165).run prog w= .ok (.agg #[.int .i64 0,.string ⟨#[]⟩,.bool false,.int .i64 0]) w:=by kernel_rfl
theorem nL (J:bh w g h T)(G:h.size=4):
  ∃w',(storeVar 165 ⟨g,0,none⟩ (.agg (fU d nm th i))).run prog w= .ok () w'/\bh w' g (fU d nm th i) T/\az [g] w w':=
 bB (P:= prog) (ty:= 165) (cs:=[.int .i64 (d:Int),.string nm,.bool th,.int .i64 i]) Jk J (by rw[G];rfl) (by
  intro u z;simp only[aP,aM,bz] at z;rcases z with rfl|rfl|rfl|rfl<;>rfl)
theorem rA (h:bh w g (fU d nm th i) T):(loadVar 165 ⟨g,0,none⟩).run prog w= .ok (.agg (fU d nm th i)) w:=
 bW g 0 [.int .i64 (d:Int),.string nm,.bool th,.int .i64 i] underlying165 rfl Jk λj _=>by
  rw[h.cell,aX,fU,aF]
theorem ny{o:kM}{h vq vd:Value}(z:bh w g (dZ b o h vq vd) T):(loadVar 79 ⟨g,0,none⟩).run prog w= .ok (.agg (dZ b o h vq vd)) w:=
 bW g 0 [.pointer (some ⟨b,0,none⟩),.int .i64 o.K,h,vq,.int .i64 o.O,.int .i64 o.N,vd] underlying79 rfl Yn λj _=>by
  rw[z.cell,aX,dZ,aF]
def Np (w:World) (M:Nat->Nd) (P:List ByteArray) (e:Ending) (w':World):Prop:=
 az [] w w'/\(((dJ M P).2≠0/\e= .returned (.tuple #[.agg (fU 0 ⟨#[]⟩ false 0),.int .i64 (dJ M P).2]))\/
  ((dJ M P).2=0/\∃th i,e= .returned (.tuple #[.agg (fU (dJ M P).1 (cL P) th i),.int .i64 0])/\
   ((th=false/\cz (M (dJ M P).1).E (cL P)<0/\i=0)\/(th=true/\0<=cz (M (dJ M P).1).E (cL P)/\i=cz (M (dJ M P).1).E (cL P)))))
theorem UQ{T:List (bP×Value)}(h:wH w b gp B ps T own ex M)(hT:eo M)(o:kM)(vp vq vd:Value){v:Value}{g:Nat}{P:List ByteArray}(hP:jg w v g P)(hs:∀s∈P,s.size<=9223372036854775807):
  Calls prog 113 #[.agg (dZ b o vp vq vd),v] w (Np w M P):=by
 have dt:az [] w ((w.alloc (.cells (dZ b o vp vq vd) 79)).alloc (.cells (fU 0 ⟨#[]⟩ false 0) 165)):=((az.refl _ _).alloc _).alloc _;have hA:=(h.nd.snd hT).agree;have QM:=au (Qe (h.keep0 dt).shT hA (hP.keep dt (by simp)) hs);have fW:=au dt;have HJ:Hid (bh ((w.alloc (.cells (dZ b o vp vq vd) 79)).alloc (.cells (fU 0 ⟨#[]⟩ false 0) 165)) w.heap.size (dZ b o vp vq vd) 79/\bh ((w.alloc (.cells (dZ b o vp vq vd) 79)).alloc (.cells (fU 0 ⟨#[]⟩ false 0) 165)) (w.heap.size+1) (fU 0 ⟨#[]⟩ false 0) 165):=⟨(bh.new w _ _).alloc _,bh.new2 w _ _ _ _⟩;have ae:=au (λhe=>uy (M:=M) (p:=P) he);have HG:Hid (∀x,(M x).K=2->∀U,az [] w U->Calls prog 97 #[.pointer (some ⟨b,0,none⟩),.int .i64 (x:Int)] U (Ym U (nT T x))):=λx hx U W=>(h.keep0 W).get (by omega)
 have uN:Hid (∀x,(M x).K=2->∀U v g s,bC U v g (nT T x).E->Calls prog 156 #[.agg (aR (nT T x) v),.string s] U λe w'=>
   ∃(r:Int) (ok:Bool),e= .returned (.tuple #[.int .i64 r,.bool ok])/\az [] U w'/\((ok=false/\cz (M x).E s<0/\r=0)\/(ok=true/\0<=cz (M x).E s/\r=cz (M x).E s))):=λx hx U v g s hE=>by
  obtain⟨A,X,B',hs⟩:=kQ (hA.tree.rises x) s;have h1:=kR hs λq hq=>(hA.tree.lead x q hq).1.1
  rw[hA.ents x] at hs;have hl:=h.nd.st.gots.elen x;refine(Rs (nT T x) (h.nd.store (i:=x) (by omega)).len hE hs (by omega)).mono ?_;rintro e w' ⟨rfl,W⟩;refine⟨_,_,rfl,W,?_⟩;rcases Int.lt_or_le (cz (M x).E s) 0 with h2|h2
  ·exact .inl ⟨by rw[h1.1.1 h2];rfl,h2,by rw[h1.1.1 h2];rfl⟩
  ·exact .inr ⟨by rw[h1.2 h2];rfl,h2,by rw[h1.2 h2];rfl⟩
 have uL:Hid (∀x,(M x).K=2->(nT T x).B.length=13):=λx hx=>(h.nd.store (i:=x) (by omega)).len
 have tz:Hid (∀w',az [] w w'->(dJ M P).2≠0->Np w M P (.returned (.tuple #[.agg (fU 0 ⟨#[]⟩ false 0),.int .i64 (dJ M P).2])) w'):=λw' W hr=>⟨W,.inl ⟨hr,rfl⟩⟩
 have wQ:Hid (∀w' r ok,az [] w w'->(dJ M P).2=0->((ok=false/\cz (M (dJ M P).1).E (cL P)<0/\r=0)\/(ok=true/\0<=cz (M (dJ M P).1).E (cL P)/\r=cz (M (dJ M P).1).E (cL P)))->Np w M P (.returned (.tuple #[.agg (fU (dJ M P).1 (cL P) ok r),.int .i64 0])) w'):=λw' r ok W hr hh=>⟨W,.inr ⟨hr,ok,r,rfl,hh⟩⟩
 have ub:=eA;have aB:=Cz;clear h hT hA hP hs dt;generalize Np w M P=Q at *;generalize dJ M P=R at *;generalize cL P=nm at *;generalize aj:aR cr (.slice none 0 0)=Z0 at *;have DN:Hid (Z0.size=18):=by show _=_;rw[<-aj];rfl
 clear aj;have e0:fU 0 ⟨#[]⟩ false 0= #[.int .i64 0,.string ⟨#[]⟩,.bool false,.int .i64 0]:=rfl;have ej:dZ b o vp vq vd= #[.pointer (some ⟨b,0,none⟩),.int .i64 o.K,vp,vq,.int .i64 o.O,.int .i64 o.N,vd]:=rfl;rw[ej,e0] at *;clear e0 ej;obtain⟨x,ee⟩:=R
 dsimp only at *
 go_enter func113,ntmps113;go_wp2_with fail;refine QM.out.mono ?_;rintro e w1 ⟨z,⟨rfl,rfl⟩|⟨af,rfl⟩⟩
 ·have J:=(ae.out rfl).1
  have ak:=HG.out x J w1 (fW.out.trans' z);have ah:=au ak;have ai:=au (uN.out x J);have ar:=uL.out x J;have c1:w1.cell? ⟨w.heap.size,0,none⟩=some (.pointer (some ⟨b,0,none⟩)):=by rw[(HJ.out.1.keep z (by simp)).cell];rfl
  have DF:Hid (bh w1 (w.heap.size+1) _ _):=HJ.out.2.keep z (by simp);have iU:=au (fW.out.trans' z);have aA:Hid (w.heap.size+2<=w1.heap.size):=by show _<=_;have :=z.size;rw[br,br] at this;omega
  clear z QM HJ fW ae HG uN uL tz ak J;generalize hn:nT T x=n at *;clear hn;have JP:=au (λw' r ok W hh=>wQ.out w' r ok W rfl hh);clear wQ;have ag:Hid (∀w' r ok g ac T',bh w' g ac T'->ac.size=4->∃G,(storeVar 165 ⟨g,0,none⟩ (.agg #[.int .i64 (x:Int),.string nm,.bool ok,.int .i64 r])).run prog w'= .ok () G/\(loadVar 165 ⟨g,0,none⟩).run prog G= .ok (.agg (fU x nm ok r)) G/\az [g] w' G):=λw' r ok g ac T' hb hc=>by
   obtain⟨G,a1,a2,a3⟩:=nL (d:=x) (nm:=nm) (th:=ok) (i:=r) hb hc;exact⟨G,a1,rA a2,a3⟩
  generalize (x:Int)=xi at *;go_wp2_with fail;refine ah.out.mono ?_;rintro e w2 ⟨v,g,va,rfl,hE,hg,V⟩;obtain⟨w3,p1,p2,p3⟩:=dc (n:=n) (v:=v) (bh.new w2 Z0 111) DN.out ar hE.one;have ax:=V.size;have mH:az [] w2 w3:=((az.refl _ _).alloc _).trans p3 (by intro x hx;rw[ay] at hx;omega);have xX:=au p1;have zC:=au (ct p2 ar);have av:=au (ai.out w3 v g nm (hE.keep mH (by simp)));have rb:Hid (bh w3 (w.heap.size+1) _ _):=(DF.out.keep V (by simp)).keep mH (by simp);have mV:=au (iU.out.trans' (V.trans' mH));clear p1 p2 p3 V mH hE hg ax ah ai DF iU c1;generalize aR n v=Zn at *;go_wp2_with(first|(with_reducible refine gS 111 xX.out ?_)|(with_reducible refine gL 111 zC.out ?_));refine av.out.mono ?_;rintro e w4 ⟨r,ok,rfl,aa,hh⟩;obtain⟨w5,q1,q2,q3⟩:=ag.out w4 r ok (w.heap.size+1) _ _ (rb.out.keep aa (by simp)) rfl;have zz:=au q1;have IH:=au q2;have HF:=au (JP.out w5 r ok ((mV.out.trans' aa).trans q3 (by intro y hy;rw[ay] at hy;omega)) hh);clear q1 q2 q3 aa hh JP mV rb av zC xX ag;go_wp2_with(with_reducible refine gS 165 zz.out ?_);exact aL (dH results113 rfl IH.out rfl) rfl HF.out
 ·obtain⟨w3,p1,p2,p3⟩:=nL (d:=0) (nm:=⟨#[]⟩) (th:=false) (i:=0) (HJ.out.2.keep z (by simp)) rfl
  have xX:=au p1;have zC:=au (rA p2);have HF:=au (tz.out w3 ((fW.out.trans' z).trans p3 (by intro y hy;rw[ay] at hy;omega)) af);have b1:(ee != 0)=true:=by simpa using af
  clear p1 p2 p3 z af QM HJ fW ae HG uN uL tz wQ DN ub;unfold fU at xX zC;go_wp2_with(with_reducible refine gS 165 xX.out ?_);exact aL (dH results113 rfl zC.out rfl) rfl HF.out
end Go.Proofs.YtepbpdipenedhaaGreatDoor
