/- Lemmas. -/
import Derived.Test.YtcecbdeamjigiaaGreatDoorH23
set_option maxHeartbeats 4000000
set_option maxRecDepth 100000
namespace Go.Proofs.YtcecbdeamjigiaaGreatDoor
open Go.RowKit
variable{w:World}{r:kX}{Z h:Array Value}{T b d g gp:Nat}{B:List Int}{ps:List (Int×Int)}{own:Nat->List Nat}{ex:List Nat}{M:Nat->Nd}{nm:ByteArray}{th:Bool}{i:Int}
end Go.Proofs.YtcecbdeamjigiaaGreatDoor
namespace Go.Proofs.YtcecbdeamjigiaaGreatDoor
open Go.RowKit
variable{w:World}{r:kX}{Z h:Array Value}{T b d g gp:Nat}{B:List Int}{ps:List (Int×Int)}{own:Nat->List Nat}{ex:List Nat}{M:Nat->Nd}{nm:ByteArray}{th:Bool}{i:Int}
def QU (r:kX) (vd h:Value):Array Value:= #[.int .i64 r.E,.int .i64 r.N,.int .i64 r.K,.int .i64 r.L,.int .i64 r.I,vd,h]
def Gy (w:World) (r:kX) (Z:Array Value):Prop:=∃vd h,Z=QU r vd h/\(∃g,Reads w vd g (d8s r.D))/\∃g,bz w h g r.S
theorem Gy.size(h:Gy w r Z):Z.size=7:=by
 obtain⟨vd,y,rfl,-⟩:=h;rfl
theorem Gy.one(h:Gy w r Z):∀u∈Z.toList,u.oneCell'=true:=by
 obtain⟨vd,z,rfl,⟨U,J⟩,V,G⟩:=h;intro u y;have y:u∈[Value.int .i64 r.E,.int .i64 r.N,.int .i64 r.K,.int .i64 r.L,.int .i64 r.I,vd,z]:=y;simp only[aS,aV,bL] at y;rcases y with rfl|rfl|rfl|rfl|rfl|rfl|rfl
 ·rfl
 ·rfl
 ·rfl
 ·rfl
 ·rfl
 ·exact LZ J
 ·exact G.one
theorem Gz:(Tryz.prog.info? 34).map (·.size)=some 7:=by kernel_rfl
theorem AX{y:World}(z:bm w g Z T)(G:Gy y r Z):(loadVar 34 ⟨g,0,none⟩).run Tryz.prog w= .ok (.agg Z) w:=by
 have h:=G.size;obtain⟨l⟩:=Z;simp only[bU] at h;exact bT g 0 l Tryz.underlying34 rfl (by rw[h];exact Gz) λj _=>by
  rw[z.cell,aX,aC]
theorem CW{G:World}(J:bm w g h 34)(V:h.size=7)(z:Gy G r Z):
  ∃w',(storeVar 34 ⟨g,0,none⟩ (.agg Z)).run Tryz.prog w= .ok () w'/\bm w' g Z 34/\ay [g] w w':=by
 have U:=z.one;have y:=z.size;obtain⟨l⟩:=Z;simp only[bU] at y;exact br (P:= Tryz.prog) (ty:= 34) (cs:=l) (by rw[y];exact Gz) J (by rw[V,y]) U
theorem GA (w:World):(zeroValue 34).run Tryz.prog w= .ok (.agg (QU nG (.slice none 0 0) (.slice none 0 0))) w:=by kernel_rfl
theorem vW (w:World)(g:Nat):Reads w (.slice none 0 0) g (d8s []):=⟨none,0,rfl,by simp[d8s],by simp[maxLen],λh=>absurd rfl h⟩
theorem TW (w:World){r:kX}(y:r.D=[])(h:r.S=[]):Gy w r (QU r (.slice none 0 0) (.slice none 0 0)):=⟨_,_,rfl,⟨0,by rw[y];exact vW w 0⟩,0,by rw[h];exact bz.nil w 0⟩
def Qa (o:qR) (h vq vd:Value):Array Value:= #[.int .i64 o.K,h,vq,.int .i64 o.O,.int .i64 o.N,vd]
end Go.Proofs.YtcecbdeamjigiaaGreatDoor
namespace Go.Proofs.YtcecbdeamjigiaaGreatDoor
open Go.RowKit
variable{w:World}{r:kX}{Z h:Array Value}{T b d g gp:Nat}{B:List Int}{ps:List (Int×Int)}{own:Nat->List Nat}{ex:List Nat}{M:Nat->Nd}{nm:ByteArray}{th:Bool}{i:Int}
end Go.Proofs.YtcecbdeamjigiaaGreatDoor
namespace Go.Proofs.YtcecbdeamjigiaaGreatDoor
open Go.RowKit
variable{w:World}{r:kX}{Z h:Array Value}{T b d g gp:Nat}{B:List Int}{ps:List (Int×Int)}{own:Nat->List Nat}{ex:List Nat}{M:Nat->Nd}{nm:ByteArray}{th:Bool}{i:Int}
structure Da (w:World) (b gp:Nat) (B:List Int) (ps:List (Int×Int)) (T:List (bM×Value)) (own:Nat->List Nat) (ex:List Nat) (M:Nat->Nd):Prop where
 sh:eF w b gp B ps
 nd:lK (az B ps) T own ex M
 lt:b<w.heap.size/\gp<w.heap.size
 tab:∀wx,ay [b,gp] w wx->kI wx
section
variable {w w':World} {b gp gA:Nat} {B:List Int} {ps qs:List (Int×Int)} {T T':List (bM×Value)} {own cD:Nat->List Nat} {ex ex':List Nat} {M M':Nat->Nd}
theorem Da.keep0(h:Da w b gp B ps T own ex M)(y:ay [] w w'):Da w' b gp B ps T own ex M:=
 ⟨h.sh.keep y (by simp) (by simp),h.nd,by have :=y.size;have :=h.lt;omega,λz G=>h.tab z ((y.mono (by simp)).trans' G)⟩
theorem Da.shT(h:Da w b gp B ps T own ex M):fG w b gp B ps T own:=⟨h.sh,h.nd.st.w64,h.nd.st.gots,h.lt⟩
theorem Da.shS(h:Da w b gp B ps T own ex M):yQ w b gp B ps T own:=⟨h.shT,h.nd.st.sup⟩
theorem Da.go(h:Da w b gp B ps T own ex M)(J:eF w' b gA B (ps++qs))(z:ay [b,gp] w w')(V:gA=gp\/(w.heap.size<=gA/\gA<w'.heap.size))(G:lK (az (az B ps) qs) T' cD ex' M'):Da w' b gA B (ps++qs) T' cD ex' M':=
 ⟨J,by rw[bo];exact G,by have :=z.size;have :=h.lt;omega,λU y=>h.tab U (z.trans y λx y=>by
  simp only[aS,aV,bL] at y ⊢;omega)⟩
def Yl (w:World) (n:bM) (e:Ending) (w':World):Prop:=
 ∃v g h,e= .returned (.tuple #[.agg (aU n v),h,.int .i64 0])/\bz w' v g n.E/\w.heap.size<=g/\ay [] w w'
theorem Da.get(h:Da w b gp B ps T own ex M){i:Nat}(z:(M i).K≠0):Calls Tryz.prog 95 #[.pointer (some ⟨b,0,none⟩),.int .i64 (i:Int)] w (Yl w (nT T i)):=by
 have y:=h.nd.store z;have hF:(nT T i).F≠0:=by rcases y.right.1 with U|U<;>omega
 refine(h.shT.get (h.nd.rng z)).mono ?_;rintro e w1 ⟨v,g,G,ga,r,rfl,hB,W,Z,-,-,V,hr⟩;have J:r=0:=by omega
 subst J;exact⟨v,g,G,rfl,W,Z,V⟩
theorem Da.put(h:Da w b gp B ps T own ex M)(pn:ps.length<=600000)(i:Nat){n:bM}{v:Value}{g:Nat}{R:Int->List (Int×Int)->Prop}(Z:n.B.length=13)(hN:∀k,k<n.E.length->(eh n.E k).size<=9223372036854775807)(hR:∀r qs,pI (az B ps) (i:Int) n r qs->R r qs){z:World}(y:ay [] w z)(hE:bz z v g n.E)(hg:w.heap.size<=g):
  Calls Tryz.prog 49 #[.pointer (some ⟨b,0,none⟩),.int .i64 (i:Int),.agg (aU n v)] z (λe w'=>fY w b gp B ps 700 R e w'/\ay [b,gp] z w'):=by
 have U:=h.lt;refine(yG (h.sh.keep y (by simp) (by simp)) h.nd.st.w64 (λwy V=>h.tab wy ((y.mono (by simp)).trans' V)) (by have :=y.size;omega) (by omega) (i:Int) n v g Z hE hN (λ_=>by omega)).mono ?_;rintro e w1 ⟨r,qs,gA,h1,h2,h3,G,J,W⟩;exact⟨⟨r,qs,gA,h1,by have :=y.size;omega,h3,(y.mono (by simp)).trans' G,J,hR r qs W⟩,G⟩
theorem TX {E:List (ByteArray×Int)}(h:DW E):∀k,k<E.length->(eh E k).size<=9223372036854775807:=λk z=>by
 have G:=(Nl h k z).1;have y:=ml G;rw[jZ] at y;omega
end
theorem bm.new2(w:World)(c:Array Value)(T:Nat)(h:Array Value)(y:Nat):bm ((w.alloc (.cells c T)).alloc (.cells h y)) (w.heap.size+1) h y:=by
 have :=bm.new (w.alloc (.cells c T)) h y;rwa[cm] at this
def ix (b:Nat) (o:qR) (h vq vd:Value):Array Value:= #[.pointer (some ⟨b,0,none⟩),.int .i64 o.K,h,vq,.int .i64 o.O,.int .i64 o.N,vd]
def fZ (d:Nat) (nm:ByteArray) (th:Bool) (i:Int):Array Value:= #[.int .i64 (d:Int),.string nm,.bool th,.int .i64 i]
theorem TY:(Tryz.prog.info? 79).map (·.size)=some 7:=by kernel_rfl
theorem Fh:(Tryz.prog.info? 159).map (·.size)=some 4:=by kernel_rfl
theorem qL{y x:Nat}(z:b<w.heap.size/\y<w.heap.size)(h:w.heap.size<=x):x∉[b,y]:=by
 simp only[aS,aV,bL];omega
theorem Qb{n:bM}{v:Value}(h:n.B.length=13):(aU n v).size=18:=by rw[aU,bU,fC,h]
theorem TZ{T:List (bM×Value)}(h:Da w b gp B ps T own ex M)(pn:ps.length<=600000)(o:qR)(vp vq vd:Value){d:Nat}(hK:(M d).K=2){nm:ByteArray}(hn:fN (bl nm)=true)(th:Bool)(i0:Int){i:Int}(hi:0<=i/\i<32):
  Calls Tryz.prog 116 #[.agg (ix b o vp vq vd),.agg (fZ d nm th i0),.int .i64 i] w (fY w b gp B ps 700 (rK (az B ps) ex M d nm i)):=by
 have ae:=h.nd.ed hK;have af:=h.nd.ents d;obtain⟨A,N,E2,hs⟩:=jF ae.2.2 nm;have ah:=vU hs i;have ez:ay [] w ((w.alloc (.cells (ix b o vp vq vd) 79)).alloc (.cells (fZ d nm th i0) 159)):=((ay.refl _ _).alloc _).alloc _;have HG:=ar ((h.keep0 ez).get (i:=d) (by omega));have aa:=h.nd.store (i:=d) (by omega);have G:=aa.len;have ag:Hid ((A++([(nm,i)]++E2)).length<=24->∀y v g,ay [] w y->bz y v g (A++([(nm,i)]++E2))->w.heap.size<=g->Calls Tryz.prog 49 #[.pointer (some ⟨b,0,none⟩),.int .i64 (d:Int),.agg (aU (kg (nT T d) (A++([(nm,i)]++E2))) v)] y (λe w'=>fY w b gp B ps 700 (rK (az B ps) ex M d nm i) e w'/\ay [b,gp] y w')):=λz y v g hk hE hg=>by
  rw[<-ah] at z hE ⊢;exact h.put pn d (n:=kg (nT T d) (DX (M d).E nm i)) aa.len (TX (TP ae z hn hi)) (λr qs hp=>h.nd.enter hK hn hi z hp) hk hE hg
 have aq:Hid (∀y v g,bz y v g (nT T d).E->Calls Tryz.prog 155 #[.agg (aU (nT T d) v),.agg #[.string nm,.int .i64 i]] y (Cw y (nT T d) (A++([(nm,i)]++E2)))):=λy v g hE=>Tr (nT T d) i aa.len hE (by rw[af];exact hs) (by rw[af];have :=ae.1;omega)
 have fS:=ar ez;have Rt:=ar h.lt;have jr:Hid (∀y,ay [] w y->24<(A++([(nm,i)]++E2)).length->fY w b gp B ps 700 (rK (az B ps) ex M d nm i) (.returned (.int .i64 7)) y):=λy hk aB=>fY.none h.sh hk (.inl ⟨rfl,rfl,.inl (by rw[ah];exact aB)⟩)
 have Ye:Hid (∀e y,fY w b gp B ps 700 (rK (az B ps) ex M d nm i) e y->∃r,e= .returned (.int .i64 r)/\fY w b gp B ps 700 (rK (az B ps) ex M d nm i) e y):=λe y hh=>by
  obtain⟨r,qs,gA,h1,-⟩:=id hh;exact⟨r,h1,hh⟩
 have HJ:Hid (bm ((w.alloc (.cells (ix b o vp vq vd) 79)).alloc (.cells (fZ d nm th i0) 159)) w.heap.size (ix b o vp vq vd) 79/\bm ((w.alloc (.cells (ix b o vp vq vd) 79)).alloc (.cells (fZ d nm th i0) 159)) (w.heap.size+1) (fZ d nm th i0) 159):=⟨(bm.new w _ _).alloc _,bm.new2 w _ _ _ _⟩;have xf:=eV;clear h ae af ah aa hs pn hK ez hi hn;generalize fY w b gp B ps 700 (rK (az B ps) ex M d nm i)=Q at *;generalize hn:nT T d=n at *;generalize ax:aU cB (.slice none 0 0)=Z0 at *;have Ja:Hid (Z0.size=18):=by show _=_;rw[<-ax];rfl
 clear ax hn;generalize A++([(nm,i)]++E2)=U at *;unfold ix fZ at *;generalize (d:Int)=di at *;go_enter Tryz.func116,Tryz.ntmps116;go_wp2_with fail;refine HG.out.mono ?_;rintro e w1 ⟨v,g,va,rfl,hE,hg,dc⟩;obtain⟨V,p1,p2,p3⟩:=fF (n:=n) (v:=v) (bm.new w1 Z0 110) Ja.out G hE.one;have ap:=dc.size;have ak:w.heap.size+2<=w1.heap.size:=by rw[cm,cm] at ap;omega
 have oF:ay [] w1 V:=((ay.refl _ _).alloc _).trans p3 (by intro x hx;rw[au] at hx;omega);have av:ay [] w V:=fS.out.trans' (dc.trans' oF);have wk:=ar p1;have UK:bz V v g n.E:=hE.keep oF (by simp);have YN:=HJ.out.1.keep (dc.trans' oF) (by simp);have C9:=HJ.out.2.keep (dc.trans' oF) (by simp);have c1:V.cell? ⟨w.heap.size+1,1,none⟩=some (.string nm):=by rw[C9.cell];rfl
 have pw:=ar (cH p2 G);have aj:=ar (aq.out V v g UK);have nZ:Hid (bm V w1.heap.size (aU n v) 110/\(aU n v).size=18/\w1.heap.size<V.heap.size):=⟨p2,Qb G,by have :=p3.size;rw[cm] at this;omega⟩;have ac:Hid (bm V w.heap.size _ _/\bm V (w.heap.size+1) _ _):=⟨YN,C9⟩;have fj:=ar av;have XB:=ar ak;clear p1 p2 p3 av UK hE hg dc oF HG YN C9 HJ fS ap ak aq;go_wp2_with(first|(with_reducible refine gS 110 wk.out ?_)|(with_reducible refine gL 110 pw.out ?_));refine aj.out.mono ?_;rintro e w3 ⟨u,g3,rfl,W,aw,Z⟩;obtain⟨w4,p1,p2,p3⟩:=fF (n:=kg n U) (v:=u) (nZ.out.1.keep Z (by simp)) nZ.out.2.1 G W.one;have J:ay [w1.heap.size] V w4:=(Z.mono (by simp)).trans' p3;have DY:ay [] w w4:=fj.out.trans J (by intro x hx;rw[au] at hx;have :=XB.out;omega);have QO:bz w4 u g3 U:=W.keep p3 (by rw[au];have :=nZ.out.2.2;omega);have ai:=ac.out.1.keep J (by rw[au];have :=XB.out;omega);have Ym:=ac.out.2.keep J (by rw[au];have :=XB.out;omega);have c2:w4.cell? ⟨w.heap.size,0,none⟩=some (.pointer (some ⟨b,0,none⟩)):=by rw[ai.cell];rfl
 have c3:w4.cell? ⟨w.heap.size+1,0,none⟩=some (.int .i64 di):=by rw[Ym.cell];rfl
 have c4:w4.cell? ⟨w1.heap.size,3,none⟩=some (.int .i64 (U.length:Int)):=by rw[p2.cell];exact(jo (n:=kg n U) u G).f3
 have wj:=ar p1;have aC:=ar (cH p2 G);have UM:w.heap.size<=g3:=by have :=fj.out.size;omega
 by_cases z:U.length<=24
 ·have aA:=ar (ag.out z w4 u g3 DY QO UM)
  have b1:decide ((24:Int)<(U.length:Int))=false:=aT (by omega);generalize aU (kg n U) u=Z4 at *;generalize (U.length:Int)=el at *;clear p1 p2 p3 Z W QO J DY ai Ym aw UM nZ ac fj XB ag jr aj pw wk z;go_wp2_with(first|(with_reducible refine gS 110 wj.out ?_)|(with_reducible refine gL 110 aC.out ?_));refine aA.out.mono ?_;rintro e w5 ⟨hq,-⟩;obtain⟨r,rfl,hq⟩:=Ye.out _ _ hq;have HF:=ar hq;clear hq;go_wp2_with fail
  first|exact HF.out|(go_ret;exact HF.out)
 ·have HF:=ar (jr.out w4 DY (by omega))
  have b1:decide ((24:Int)<(U.length:Int))=true:=bj (by omega);generalize aU (kg n U) u=Z4 at *;generalize (U.length:Int)=el at *;clear p1 p2 p3 Z W QO J DY ai Ym aw UM nZ ac fj XB ag jr aj pw wk z;go_wp2_with(first|(with_reducible refine gS 110 wj.out ?_))
  first|exact HF.out|(go_ret;exact HF.out)
theorem yY (w:World):(zeroValue 159).run Tryz.prog w= .ok (.agg #[.int .i64 0,.string ⟨#[]⟩,.bool false,.int .i64 0]) w:=by kernel_rfl
theorem lp (z:bm w g h T)(G:h.size=4):
  ∃w',(storeVar 159 ⟨g,0,none⟩ (.agg (fZ d nm th i))).run Tryz.prog w= .ok () w'/\bm w' g (fZ d nm th i) T/\ay [g] w w':=
 br (P:= Tryz.prog) (ty:= 159) (cs:=[.int .i64 (d:Int),.string nm,.bool th,.int .i64 i]) Fh z (by rw[G];rfl) (by
  intro u y;simp only[aS,aV,bL] at y;rcases y with rfl|rfl|rfl|rfl<;>rfl)
theorem qM (h:bm w g (fZ d nm th i) T):(loadVar 159 ⟨g,0,none⟩).run Tryz.prog w= .ok (.agg (fZ d nm th i)) w:=
 bT g 0 [.int .i64 (d:Int),.string nm,.bool th,.int .i64 i] Tryz.underlying159 rfl Fh λj _=>by
  rw[h.cell,aX,fZ,aC]
theorem xC{o:qR}{h vq vd:Value}(y:bm w g (ix b o h vq vd) T):(loadVar 79 ⟨g,0,none⟩).run Tryz.prog w= .ok (.agg (ix b o h vq vd)) w:=
 bT g 0 [.pointer (some ⟨b,0,none⟩),.int .i64 o.K,h,vq,.int .i64 o.O,.int .i64 o.N,vd] Tryz.underlying79 rfl TY λj _=>by
  rw[y.cell,aX,ix,aC]
def JO (w:World) (M:Nat->Nd) (P:List ByteArray) (e:Ending) (w':World):Prop:=
 ay [] w w'/\(((dh M P).2≠0/\e= .returned (.tuple #[.agg (fZ 0 ⟨#[]⟩ false 0),.int .i64 (dh M P).2]))\/
  ((dh M P).2=0/\∃th i,e= .returned (.tuple #[.agg (fZ (dh M P).1 (ct P) th i),.int .i64 0])/\
   ((th=false/\bZ (M (dh M P).1).E (ct P)<0/\i=0)\/(th=true/\0<=bZ (M (dh M P).1).E (ct P)/\i=bZ (M (dh M P).1).E (ct P)))))
theorem Qc{T:List (bM×Value)}(h:Da w b gp B ps T own ex M)(hT:eb M)(o:qR)(vp vq vd:Value){v:Value}{g:Nat}{P:List ByteArray}(hP:jQ w v g P)(hs:∀s∈P,s.size<=9223372036854775807):
  Calls Tryz.prog 111 #[.agg (ix b o vp vq vd),v] w (JO w M P):=by
 have ez:ay [] w ((w.alloc (.cells (ix b o vp vq vd) 79)).alloc (.cells (fZ 0 ⟨#[]⟩ false 0) 159)):=((ay.refl _ _).alloc _).alloc _;have hA:=(h.nd.snd hT).agree;have Mt:=ar (L3 (h.keep0 ez).shT hA (hP.keep ez (by simp)) hs);have fS:=ar ez;have HJ:Hid (bm ((w.alloc (.cells (ix b o vp vq vd) 79)).alloc (.cells (fZ 0 ⟨#[]⟩ false 0) 159)) w.heap.size (ix b o vp vq vd) 79/\bm ((w.alloc (.cells (ix b o vp vq vd) 79)).alloc (.cells (fZ 0 ⟨#[]⟩ false 0) 159)) (w.heap.size+1) (fZ 0 ⟨#[]⟩ false 0) 159):=⟨(bm.new w _ _).alloc _,bm.new2 w _ _ _ _⟩;have Z:=ar (λhe=>qD (M:=M) (p:=P) he);have HG:Hid (∀x,(M x).K=2->∀U,ay [] w U->Calls Tryz.prog 95 #[.pointer (some ⟨b,0,none⟩),.int .i64 (x:Int)] U (Yl U (nT T x))):=λx hx U W=>(h.keep0 W).get (by omega)
 have Aj:Hid (∀x,(M x).K=2->∀U v g s,bz U v g (nT T x).E->Calls Tryz.prog 153 #[.agg (aU (nT T x) v),.string s] U λe w'=>
   ∃(r:Int) (ok:Bool),e= .returned (.tuple #[.int .i64 r,.bool ok])/\ay [] U w'/\((ok=false/\bZ (M x).E s<0/\r=0)\/(ok=true/\0<=bZ (M x).E s/\r=bZ (M x).E s))):=λx hx U v g s hE=>by
  obtain⟨A,X,B',hs⟩:=jF (hA.tree.rises x) s;have h1:=jk hs λq hq=>(hA.tree.lead x q hq).1.1
  rw[hA.ents x] at hs;have hl:=h.nd.st.gots.elen x;refine(M6 (nT T x) (h.nd.store (i:=x) (by omega)).len hE hs (by omega)).mono ?_;rintro e w' ⟨rfl,W⟩;refine⟨_,_,rfl,W,?_⟩;rcases Int.lt_or_le (bZ (M x).E s) 0 with h2|h2
  ·exact .inl ⟨by rw[h1.1.1 h2];rfl,h2,by rw[h1.1.1 h2];rfl⟩
  ·exact .inr ⟨by rw[h1.2 h2];rfl,h2,by rw[h1.2 h2];rfl⟩
 have Dg:Hid (∀x,(M x).K=2->(nT T x).B.length=13):=λx hx=>(h.nd.store (i:=x) (by omega)).len
 have Ag:Hid (∀w',ay [] w w'->(dh M P).2≠0->JO w M P (.returned (.tuple #[.agg (fZ 0 ⟨#[]⟩ false 0),.int .i64 (dh M P).2])) w'):=λw' W hr=>⟨W,.inl ⟨hr,rfl⟩⟩
 have GW:Hid (∀w' r ok,ay [] w w'->(dh M P).2=0->((ok=false/\bZ (M (dh M P).1).E (ct P)<0/\r=0)\/(ok=true/\0<=bZ (M (dh M P).1).E (ct P)/\r=bZ (M (dh M P).1).E (ct P)))->JO w M P (.returned (.tuple #[.agg (fZ (dh M P).1 (ct P) ok r),.int .i64 0])) w'):=λw' r ok W hr hh=>⟨W,.inr ⟨hr,ok,r,rfl,hh⟩⟩
 have xf:=eV;have aw:=yY;clear h hT hA hP hs ez;generalize JO w M P=Q at *;generalize dh M P=R at *;generalize ct P=nm at *;generalize ap:aU cB (.slice none 0 0)=Z0 at *;have Ja:Hid (Z0.size=18):=by show _=_;rw[<-ap];rfl
 clear ap;have e0:fZ 0 ⟨#[]⟩ false 0= #[.int .i64 0,.string ⟨#[]⟩,.bool false,.int .i64 0]:=rfl;have ej:ix b o vp vq vd= #[.pointer (some ⟨b,0,none⟩),.int .i64 o.K,vp,vq,.int .i64 o.O,.int .i64 o.N,vd]:=rfl;rw[ej,e0] at *;clear e0 ej;obtain⟨x,ee⟩:=R
 dsimp only at *
 go_enter Tryz.func111,Tryz.ntmps111;go_wp2_with fail;refine Mt.out.mono ?_;rintro e w1 ⟨J,⟨rfl,rfl⟩|⟨ac,rfl⟩⟩
 ·have G:=(Z.out rfl).1
  have aj:=HG.out x G w1 (fS.out.trans' J);have af:=ar aj;have ah:=ar (Aj.out x G);have ai:=Dg.out x G;have c1:w1.cell? ⟨w.heap.size,0,none⟩=some (.pointer (some ⟨b,0,none⟩)):=by rw[(HJ.out.1.keep J (by simp)).cell];rfl
  have Ak:Hid (bm w1 (w.heap.size+1) _ _):=HJ.out.2.keep J (by simp);have iH:=ar (fS.out.trans' J);have av:Hid (w.heap.size+2<=w1.heap.size):=by show _<=_;have :=J.size;rw[cm,cm] at this;omega
  clear J Mt HJ fS Z HG Aj Dg Ag aj G;generalize hn:nT T x=n at *;clear hn;have NT:=ar (λw' r ok W hh=>GW.out w' r ok W rfl hh);clear GW;have ag:Hid (∀w' r ok g ae T',bm w' g ae T'->ae.size=4->∃z,(storeVar 159 ⟨g,0,none⟩ (.agg #[.int .i64 (x:Int),.string nm,.bool ok,.int .i64 r])).run Tryz.prog w'= .ok () z/\(loadVar 159 ⟨g,0,none⟩).run Tryz.prog z= .ok (.agg (fZ x nm ok r)) z/\ay [g] w' z):=λw' r ok g ae T' hb hc=>by
   obtain⟨z,a1,a2,a3⟩:=lp (d:=x) (nm:=nm) (th:=ok) (i:=r) hb hc;exact⟨z,a1,qM a2,a3⟩
  generalize (x:Int)=xi at *;go_wp2_with fail;refine af.out.mono ?_;rintro e w2 ⟨v,g,va,rfl,hE,hg,V⟩;obtain⟨w3,p1,p2,p3⟩:=fF (n:=n) (v:=v) (bm.new w2 Z0 110) Ja.out ai hE.one;have aq:=V.size;have pF:ay [] w2 w3:=((ay.refl _ _).alloc _).trans p3 (by intro x hx;rw[au] at hx;omega);have uf:=ar p1;have zC:=ar (cH p2 ai);have ak:=ar (ah.out w3 v g nm (hE.keep pF (by simp)));have qb:Hid (bm w3 (w.heap.size+1) _ _):=(Ak.out.keep V (by simp)).keep pF (by simp);have lS:=ar (iH.out.trans' (V.trans' pF));clear p1 p2 p3 V pF hE hg aq af ah Ak iH c1;generalize aU n v=Zn at *;go_wp2_with(first|(with_reducible refine gS 110 uf.out ?_)|(with_reducible refine gL 110 zC.out ?_));refine ak.out.mono ?_;rintro e w4 ⟨r,ok,rfl,aa,hh⟩;obtain⟨w5,q1,q2,q3⟩:=ag.out w4 r ok (w.heap.size+1) _ _ (qb.out.keep aa (by simp)) rfl;have zz:=ar q1;have Ey:=ar q2;have HF:=ar (NT.out w5 r ok ((lS.out.trans' aa).trans q3 (by intro y hy;rw[au] at hy;omega)) hh);clear q1 q2 q3 aa hh NT lS qb ak zC uf ag;go_wp2_with(with_reducible refine gS 159 zz.out ?_);exact aK (dn Tryz.results111 rfl Ey.out rfl) rfl HF.out
 ·obtain⟨w3,p1,p2,p3⟩:=lp (d:=0) (nm:=⟨#[]⟩) (th:=false) (i:=0) (HJ.out.2.keep J (by simp)) rfl
  have uf:=ar p1;have zC:=ar (qM p2);have HF:=ar (Ag.out w3 ((fS.out.trans' J).trans p3 (by intro y hy;rw[au] at hy;omega)) ac);have b1:(ee != 0)=true:=by simpa using ac
  clear p1 p2 p3 J ac Mt HJ fS Z HG Aj Dg Ag GW Ja xf;unfold fZ at uf zC;go_wp2_with(with_reducible refine gS 159 uf.out ?_);exact aK (dn Tryz.results111 rfl zC.out rfl) rfl HF.out
end Go.Proofs.YtcecbdeamjigiaaGreatDoor
