/- Lemmas. -/
import Derived.Test.YtepbpdipenedhaaGreatDoorS23
set_option maxHeartbeats 4000000
set_option maxRecDepth 100000
namespace Go.Proofs.YtepbpdipenedhaaGreatDoor
open Go.Proofs.Tryz
open Go.RowKit
variable{w:World}{r:lS}{Z h:Array Value}{T b d g gp:Nat}{B:List Int}{ps:List (Int×Int)}{own:Nat->List Nat}{ex:List Nat}{M:Nat->Nd}{nm:ByteArray}{th:Bool}{i:Int}
end Go.Proofs.YtepbpdipenedhaaGreatDoor
namespace Go.Proofs.YtepbpdipenedhaaGreatDoor
open Go.Proofs.Tryz
open Go.RowKit
variable{w:World}{r:lS}{Z h:Array Value}{T b d g gp:Nat}{B:List Int}{ps:List (Int×Int)}{own:Nat->List Nat}{ex:List Nat}{M:Nat->Nd}{nm:ByteArray}{th:Bool}{i:Int}
def GM (r:lS) (vd h:Value):Array Value:= #[.int .i64 r.E,.int .i64 r.N,.int .i64 r.K,.int .i64 r.L,.int .i64 r.I,vd,h]
def GN (w:World) (r:lS) (Z:Array Value):Prop:=∃vd h,Z=GM r vd h/\(∃g,Reads w vd g (QS r.D))/\∃g,br w h g r.S
theorem GN.size(h:GN w r Z):Z.size=7:=by
 obtain⟨vd,y,rfl,-⟩:=h;rfl
theorem GN.one(h:GN w r Z):∀u∈Z.toList,u.oneCell'=true:=by
 obtain⟨vd,J,rfl,⟨V,G⟩,U,z⟩:=h;intro u y;have y:u∈[Value.int .i64 r.E,.int .i64 r.N,.int .i64 r.K,.int .i64 r.L,.int .i64 r.I,vd,J]:=y;simp only[aQ,aS,bD] at y;rcases y with rfl|rfl|rfl|rfl|rfl|rfl|rfl
 ·rfl
 ·rfl
 ·rfl
 ·rfl
 ·rfl
 ·exact L8 G
 ·exact z.one
theorem GP:(prog.info? 34).map (·.size)=some 7:=by kernel_rfl
theorem A9{y:World}(z:bf w g Z T)(G:GN y r Z):(loadVar 34 ⟨g,0,none⟩).run prog w= .ok (.agg Z) w:=by
 have h:=G.size;obtain⟨l⟩:=Z;simp only[bH] at h;exact bE g 0 l underlying34 rfl (by rw[h];exact GP) λj _=>by
  rw[z.cell,aV,aC]
theorem C3{G:World}(J:bf w g h 34)(U:h.size=7)(z:GN G r Z):
  ∃w',(storeVar 34 ⟨g,0,none⟩ (.agg Z)).run prog w= .ok () w'/\bf w' g Z 34/\ay [g] w w':=by
 have V:=z.one;have y:=z.size;obtain⟨l⟩:=Z;simp only[bH] at y;exact bo (P:= prog) (ty:= 34) (cs:=l) (by rw[y];exact GP) J (by rw[U,y]) V
theorem Ba (w:World):(zeroValue 34).run prog w= .ok (.agg (GM mB (.slice none 0 0) (.slice none 0 0))) w:=by kernel_rfl
theorem wK (w:World)(g:Nat):Reads w (.slice none 0 0) g (QS []):=⟨none,0,rfl,by simp[QS],by simp[maxLen],λh=>absurd rfl h⟩
theorem TB (w:World){r:lS}(y:r.D=[])(h:r.S=[]):GN w r (GM r (.slice none 0 0) (.slice none 0 0)):=⟨_,_,rfl,⟨0,by rw[y];exact wK w 0⟩,0,by rw[h];exact br.nil w 0⟩
def GQ (o:pX) (h vq vd:Value):Array Value:= #[.int .i64 o.K,h,vq,.int .i64 o.O,.int .i64 o.N,vd]
end Go.Proofs.YtepbpdipenedhaaGreatDoor
namespace Go.Proofs.YtepbpdipenedhaaGreatDoor
open Go.Proofs.Tryz
open Go.RowKit
variable{w:World}{r:lS}{Z h:Array Value}{T b d g gp:Nat}{B:List Int}{ps:List (Int×Int)}{own:Nat->List Nat}{ex:List Nat}{M:Nat->Nd}{nm:ByteArray}{th:Bool}{i:Int}
end Go.Proofs.YtepbpdipenedhaaGreatDoor
namespace Go.Proofs.YtepbpdipenedhaaGreatDoor
open Go.Proofs.Tryz
open Go.RowKit
variable{w:World}{r:lS}{Z h:Array Value}{T b d g gp:Nat}{B:List Int}{ps:List (Int×Int)}{own:Nat->List Nat}{ex:List Nat}{M:Nat->Nd}{nm:ByteArray}{th:Bool}{i:Int}
structure Di (w:World) (b gp:Nat) (B:List Int) (ps:List (Int×Int)) (T:List (bN×Value)) (own:Nat->List Nat) (ex:List Nat) (M:Nat->Nd):Prop where
 sh:eT w b gp B ps
 nd:pY (az B ps) T own ex M
 lt:b<w.heap.size/\gp<w.heap.size
 tab:∀wx,ay [b,gp] w wx->lC wx
section
variable {w w':World} {b gp ib:Nat} {B:List Int} {ps qs:List (Int×Int)} {T T':List (bN×Value)} {own cH:Nat->List Nat} {ex ex':List Nat} {M M':Nat->Nd}
theorem Di.keep0(h:Di w b gp B ps T own ex M)(y:ay [] w w'):Di w' b gp B ps T own ex M:=
 ⟨h.sh.keep y (by simp) (by simp),h.nd,by have :=y.size;have :=h.lt;omega,λG z=>h.tab G ((y.mono (by simp)).trans' z)⟩
theorem Di.shT(h:Di w b gp B ps T own ex M):fX w b gp B ps T own:=⟨h.sh,h.nd.st.w64,h.nd.st.gots,h.lt⟩
theorem Di.shS(h:Di w b gp B ps T own ex M):L4 w b gp B ps T own:=⟨h.shT,h.nd.st.sup⟩
theorem Di.go(h:Di w b gp B ps T own ex M)(U:eT w' b ib B (ps++qs))(z:ay [b,gp] w w')(V:ib=gp\/(w.heap.size<=ib/\ib<w'.heap.size))(G:pY (az (az B ps) qs) T' cH ex' M'):Di w' b ib B (ps++qs) T' cH ex' M':=
 ⟨U,by rw[bJ];exact G,by have :=z.size;have :=h.lt;omega,λJ y=>h.tab J (z.trans y λx y=>by
  simp only[aQ,aS,bD] at y ⊢;omega)⟩
def XR (w:World) (n:bN) (e:Ending) (w':World):Prop:=
 ∃v g h,e= .returned (.tuple #[.agg (aU n v),h,.int .i64 0])/\br w' v g n.E/\w.heap.size<=g/\ay [] w w'
theorem Di.get(h:Di w b gp B ps T own ex M){i:Nat}(G:(M i).K≠0):Calls prog 97 #[.pointer (some ⟨b,0,none⟩),.int .i64 (i:Int)] w (XR w (nT T i)):=by
 have z:=h.nd.store G;have hF:(nT T i).F≠0:=by rcases z.right.1 with W|W<;>omega
 refine(h.shT.get (h.nd.rng G)).mono ?_;rintro e w1 ⟨v,g,U,ga,r,rfl,hB,J,Z,-,-,y,hr⟩;have V:r=0:=by omega
 subst V;exact⟨v,g,U,rfl,J,Z,y⟩
theorem Di.put(h:Di w b gp B ps T own ex M)(J:ps.length<=600000)(i:Nat){n:bN}{v:Value}{g:Nat}{R:Int->List (Int×Int)->Prop}(hB:n.B.length=13)(hN:∀k,k<n.E.length->(dZ n.E k).size<=9223372036854775807)(hR:∀r qs,uQ (az B ps) (i:Int) n r qs->R r qs){z:World}(y:ay [] w z)(W:br z v g n.E)(hg:w.heap.size<=g):
  Calls prog 49 #[.pointer (some ⟨b,0,none⟩),.int .i64 (i:Int),.agg (aU n v)] z (λe w'=>gQ w b gp B ps 700 R e w'/\ay [b,gp] z w'):=by
 have aa:=h.lt;refine(za (h.sh.keep y (by simp) (by simp)) h.nd.st.w64 (λV hy=>h.tab V ((y.mono (by simp)).trans' hy)) (by have :=y.size;omega) (by omega) (i:Int) n v g hB W hN (λ_=>by omega)).mono ?_;rintro e w1 ⟨r,qs,ib,h1,h2,Z,G,U,h6⟩;exact⟨⟨r,qs,ib,h1,by have :=y.size;omega,Z,(y.mono (by simp)).trans' G,U,hR r qs h6⟩,G⟩
theorem TC {E:List (ByteArray×Int)}(h:JU E):∀k,k<E.length->(dZ E k).size<=9223372036854775807:=λk z=>by
 have y:=(Nk h k z).1;have G:=mX y;rw[kF] at G;omega
end
theorem bf.new2(w:World)(c:Array Value)(T:Nat)(h:Array Value)(y:Nat):bf ((w.alloc (.cells c T)).alloc (.cells h y)) (w.heap.size+1) h y:=by
 have :=bf.new (w.alloc (.cells c T)) h y;rwa[bO] at this
def iR (b:Nat) (o:pX) (h vq vd:Value):Array Value:= #[.pointer (some ⟨b,0,none⟩),.int .i64 o.K,h,vq,.int .i64 o.O,.int .i64 o.N,vd]
def gU (d:Nat) (nm:ByteArray) (th:Bool) (i:Int):Array Value:= #[.int .i64 (d:Int),.string nm,.bool th,.int .i64 i]
theorem TD:(prog.info? 79).map (·.size)=some 7:=by kernel_rfl
theorem Fv:(prog.info? 165).map (·.size)=some 4:=by kernel_rfl
theorem qZ{y x:Nat}(z:b<w.heap.size/\y<w.heap.size)(h:w.heap.size<=x):x∉[b,y]:=by
 simp only[aQ,aS,bD];omega
theorem P6{n:bN}{v:Value}(h:n.B.length=13):(aU n v).size=18:=by rw[aU,bH,fT,h]
theorem TE{T:List (bN×Value)}(h:Di w b gp B ps T own ex M)(aB:ps.length<=600000)(o:pX)(vp vq vd:Value){d:Nat}(hK:(M d).K=2){nm:ByteArray}(hn:gA (bl nm)=true)(th:Bool)(i0:Int){i:Int}(hi:0<=i/\i<32):
  Calls prog 118 #[.agg (iR b o vp vq vd),.agg (gU d nm th i0),.int .i64 i] w (gQ w b gp B ps 700 (rX (az B ps) ex M d nm i)):=by
 have ae:=h.nd.ed hK;have ai:=h.nd.ents d;obtain⟨A,N,E2,hs⟩:=kv ae.2.2 nm;have ag:=wJ hs i;have eo:ay [] w ((w.alloc (.cells (iR b o vp vq vd) 79)).alloc (.cells (gU d nm th i0) 165)):=((ay.refl _ _).alloc _).alloc _;have HG:=ar ((h.keep0 eo).get (i:=d) (by omega));have ac:=h.nd.store (i:=d) (by omega);have G:=ac.len;have av:Hid ((A++([(nm,i)]++E2)).length<=24->∀y v g,ay [] w y->br y v g (A++([(nm,i)]++E2))->w.heap.size<=g->Calls prog 49 #[.pointer (some ⟨b,0,none⟩),.int .i64 (d:Int),.agg (aU (lK (nT T d) (A++([(nm,i)]++E2))) v)] y (λe w'=>gQ w b gp B ps 700 (rX (az B ps) ex M d nm i) e w'/\ay [b,gp] y w')):=λz y v g hk hE hg=>by
  rw[<-ag] at z hE ⊢;exact h.put aB d (n:=lK (nT T d) (D9 (M d).E nm i)) ac.len (TC (TA ae z hn hi)) (λr qs hp=>h.nd.enter hK hn hi z hp) hk hE hg
 have aF:Hid (∀y v g,br y v g (nT T d).E->Calls prog 158 #[.agg (aU (nT T d) v),.agg #[.string nm,.int .i64 i]] y (CM y (nT T d) (A++([(nm,i)]++E2)))):=λy v g hE=>S9 (nT T d) i ac.len hE (by rw[ai];exact hs) (by rw[ai];have :=ae.1;omega)
 have gH:=ar eo;have Rg:=ar h.lt;have jc:Hid (∀y,ay [] w y->24<(A++([(nm,i)]++E2)).length->gQ w b gp B ps 700 (rX (az B ps) ex M d nm i) (.returned (.int .i64 7)) y):=λy hk aJ=>gQ.none h.sh hk (.inl ⟨rfl,rfl,.inl (by rw[ag];exact aJ)⟩)
 have XL:Hid (∀e y,gQ w b gp B ps 700 (rX (az B ps) ex M d nm i) e y->∃r,e= .returned (.int .i64 r)/\gQ w b gp B ps 700 (rX (az B ps) ex M d nm i) e y):=λe y hh=>by
  obtain⟨r,qs,ib,h1,-⟩:=id hh;exact⟨r,h1,hh⟩
 have HJ:Hid (bf ((w.alloc (.cells (iR b o vp vq vd) 79)).alloc (.cells (gU d nm th i0) 165)) w.heap.size (iR b o vp vq vd) 79/\bf ((w.alloc (.cells (iR b o vp vq vd) 79)).alloc (.cells (gU d nm th i0) 165)) (w.heap.size+1) (gU d nm th i0) 165):=⟨(bf.new w _ _).alloc _,bf.new2 w _ _ _ _⟩;have xB:=fu;clear h ae ai ag ac hs aB hK eo hi hn;generalize gQ w b gp B ps 700 (rX (az B ps) ex M d nm i)=Q at *;generalize hn:nT T d=n at *;generalize aG:aU cX (.slice none 0 0)=Z0 at *;have Jh:Hid (Z0.size=18):=by show _=_;rw[<-aG];rfl
 clear aG hn;generalize A++([(nm,i)]++E2)=J at *;unfold iR gU at *;generalize (d:Int)=di at *;go_enter func118,ntmps118;go_wp2_with fail;refine HG.out.mono ?_;rintro e w1 ⟨v,g,va,rfl,hE,hg,V⟩;obtain⟨W,p1,p2,p3⟩:=fW (n:=n) (v:=v) (bf.new w1 Z0 111) Jh.out G hE.one;have aC:=V.size;have aD:w.heap.size+2<=w1.heap.size:=by rw[bO,bO] at aC;omega
 have ng:ay [] w1 W:=((ay.refl _ _).alloc _).trans p3 (by intro x hx;rw[au] at hx;omega);have aH:ay [] w W:=gH.out.trans' (V.trans' ng);have sS:=ar p1;have Us:br W v g n.E:=hE.keep ng (by simp);have Yi:=HJ.out.1.keep (V.trans' ng) (by simp);have ah:=HJ.out.2.keep (V.trans' ng) (by simp);have c1:W.cell? ⟨w.heap.size+1,1,none⟩=some (.string nm):=by rw[ah.cell];rfl
 have pd:=ar (cC p2 G);have ax:=ar (aF.out W v g Us);have oM:Hid (bf W w1.heap.size (aU n v) 111/\(aU n v).size=18/\w1.heap.size<W.heap.size):=⟨p2,P6 G,by have :=p3.size;rw[bO] at this;omega⟩;have aa:Hid (bf W w.heap.size _ _/\bf W (w.heap.size+1) _ _):=⟨Yi,ah⟩;have fF:=ar aH;have Xc:=ar aD;clear p1 p2 p3 aH Us hE hg V ng HG Yi ah HJ gH aC aD aF;go_wp2_with(first|(with_reducible refine gS 111 sS.out ?_)|(with_reducible refine gL 111 pd.out ?_));refine ax.out.mono ?_;rintro e w3 ⟨u,g3,rfl,af,aA,Z⟩;obtain⟨w4,p1,p2,p3⟩:=fW (n:=lK n J) (v:=u) (oM.out.1.keep Z (by simp)) oM.out.2.1 G af.one;have U:ay [w1.heap.size] W w4:=(Z.mono (by simp)).trans' p3;have zj:ay [] w w4:=fF.out.trans U (by intro x hx;rw[au] at hx;have :=Xc.out;omega);have QJ:br w4 u g3 J:=af.keep p3 (by rw[au];have :=oM.out.2.2;omega);have ak:=aa.out.1.keep U (by rw[au];have :=Xc.out;omega);have aj:=aa.out.2.keep U (by rw[au];have :=Xc.out;omega);have c2:w4.cell? ⟨w.heap.size,0,none⟩=some (.pointer (some ⟨b,0,none⟩)):=by rw[ak.cell];rfl
 have c3:w4.cell? ⟨w.heap.size+1,0,none⟩=some (.int .i64 di):=by rw[aj.cell];rfl
 have c4:w4.cell? ⟨w1.heap.size,3,none⟩=some (.int .i64 (J.length:Int)):=by rw[p2.cell];exact(jL (n:=lK n J) u G).f3
 have wQ:=ar p1;have aI:=ar (cC p2 G);have Uu:w.heap.size<=g3:=by have :=fF.out.size;omega
 by_cases z:J.length<=24
 ·have aK:=ar (av.out z w4 u g3 zj QJ Uu)
  have b1:decide ((24:Int)<(J.length:Int))=false:=aM (by omega);generalize aU (lK n J) u=Z4 at *;generalize (J.length:Int)=el at *;clear p1 p2 p3 Z af QJ U zj ak aj aA Uu oM aa fF Xc av jc ax pd sS z;go_wp2_with(first|(with_reducible refine gS 111 wQ.out ?_)|(with_reducible refine gL 111 aI.out ?_));refine aK.out.mono ?_;rintro e w5 ⟨hq,-⟩;obtain⟨r,rfl,hq⟩:=XL.out _ _ hq;have HF:=ar hq;clear hq;go_wp2_with fail
  first|exact HF.out|(go_ret;exact HF.out)
 ·have HF:=ar (jc.out w4 zj (by omega))
  have b1:decide ((24:Int)<(J.length:Int))=true:=bh (by omega);generalize aU (lK n J) u=Z4 at *;generalize (J.length:Int)=el at *;clear p1 p2 p3 Z af QJ U zj ak aj aA Uu oM aa fF Xc av jc ax pd sS z;go_wp2_with(first|(with_reducible refine gS 111 wQ.out ?_))
  first|exact HF.out|(go_ret;exact HF.out)
theorem zk (w:World):(zeroValue 165).run prog w= .ok (.agg #[.int .i64 0,.string ⟨#[]⟩,.bool false,.int .i64 0]) w:=by kernel_rfl
theorem l8 (z:bf w g h T)(G:h.size=4):
  ∃w',(storeVar 165 ⟨g,0,none⟩ (.agg (gU d nm th i))).run prog w= .ok () w'/\bf w' g (gU d nm th i) T/\ay [g] w w':=
 bo (P:= prog) (ty:= 165) (cs:=[.int .i64 (d:Int),.string nm,.bool th,.int .i64 i]) Fv z (by rw[G];rfl) (by
  intro u y;simp only[aQ,aS,bD] at y;rcases y with rfl|rfl|rfl|rfl<;>rfl)
theorem ra (h:bf w g (gU d nm th i) T):(loadVar 165 ⟨g,0,none⟩).run prog w= .ok (.agg (gU d nm th i)) w:=
 bE g 0 [.int .i64 (d:Int),.string nm,.bool th,.int .i64 i] underlying165 rfl Fv λj _=>by
  rw[h.cell,aV,gU,aC]
theorem xX{o:pX}{h vq vd:Value}(y:bf w g (iR b o h vq vd) T):(loadVar 79 ⟨g,0,none⟩).run prog w= .ok (.agg (iR b o h vq vd)) w:=
 bE g 0 [.pointer (some ⟨b,0,none⟩),.int .i64 o.K,h,vq,.int .i64 o.O,.int .i64 o.N,vd] underlying79 rfl TD λj _=>by
  rw[y.cell,aV,iR,aC]
def JV (w:World) (M:Nat->Nd) (P:List ByteArray) (e:Ending) (w':World):Prop:=
 ay [] w w'/\(((cY M P).2≠0/\e= .returned (.tuple #[.agg (gU 0 ⟨#[]⟩ false 0),.int .i64 (cY M P).2]))\/
  ((cY M P).2=0/\∃th i,e= .returned (.tuple #[.agg (gU (cY M P).1 (cm P) th i),.int .i64 0])/\
   ((th=false/\bS (M (cY M P).1).E (cm P)<0/\i=0)\/(th=true/\0<=bS (M (cY M P).1).E (cm P)/\i=bS (M (cY M P).1).E (cm P)))))
theorem P7{T:List (bN×Value)}(h:Di w b gp B ps T own ex M)(hT:dY M)(o:pX)(vp vq vd:Value){v:Value}{g:Nat}{P:List ByteArray}(hP:jh w v g P)(hs:∀s∈P,s.size<=9223372036854775807):
  Calls prog 113 #[.agg (iR b o vp vq vd),v] w (JV w M P):=by
 have eo:ay [] w ((w.alloc (.cells (iR b o vp vq vd) 79)).alloc (.cells (gU 0 ⟨#[]⟩ false 0) 165)):=((ay.refl _ _).alloc _).alloc _;have hA:=(h.nd.snd hT).agree;have Mx:=ar (Ma (h.keep0 eo).shT hA (hP.keep eo (by simp)) hs);have gH:=ar eo;have HJ:Hid (bf ((w.alloc (.cells (iR b o vp vq vd) 79)).alloc (.cells (gU 0 ⟨#[]⟩ false 0) 165)) w.heap.size (iR b o vp vq vd) 79/\bf ((w.alloc (.cells (iR b o vp vq vd) 79)).alloc (.cells (gU 0 ⟨#[]⟩ false 0) 165)) (w.heap.size+1) (gU 0 ⟨#[]⟩ false 0) 165):=⟨(bf.new w _ _).alloc _,bf.new2 w _ _ _ _⟩;have ae:=ar (λhe=>qW (M:=M) (p:=P) he);have HG:Hid (∀x,(M x).K=2->∀J,ay [] w J->Calls prog 97 #[.pointer (some ⟨b,0,none⟩),.int .i64 (x:Int)] J (XR J (nT T x))):=λx hx J U=>(h.keep0 U).get (by omega)
 have Au:Hid (∀x,(M x).K=2->∀J v g s,br J v g (nT T x).E->Calls prog 156 #[.agg (aU (nT T x) v),.string s] J λe w'=>
   ∃(r:Int) (ok:Bool),e= .returned (.tuple #[.int .i64 r,.bool ok])/\ay [] J w'/\((ok=false/\bS (M x).E s<0/\r=0)\/(ok=true/\0<=bS (M x).E s/\r=bS (M x).E s))):=λx hx J v g s hE=>by
  obtain⟨A,X,B',hs⟩:=kv (hA.tree.rises x) s;have h1:=jF hs λq hq=>(hA.tree.lead x q hq).1.1
  rw[hA.ents x] at hs;have hl:=h.nd.st.gots.elen x;refine(M4 (nT T x) (h.nd.store (i:=x) (by omega)).len hE hs (by omega)).mono ?_;rintro e w' ⟨rfl,U⟩;refine⟨_,_,rfl,U,?_⟩;rcases Int.lt_or_le (bS (M x).E s) 0 with h2|h2
  ·exact .inl ⟨by rw[h1.1.1 h2];rfl,h2,by rw[h1.1.1 h2];rfl⟩
  ·exact .inr ⟨by rw[h1.2 h2];rfl,h2,by rw[h1.2 h2];rfl⟩
 have Dp:Hid (∀x,(M x).K=2->(nT T x).B.length=13):=λx hx=>(h.nd.store (i:=x) (by omega)).len
 have Ao:Hid (∀w',ay [] w w'->(cY M P).2≠0->JV w M P (.returned (.tuple #[.agg (gU 0 ⟨#[]⟩ false 0),.int .i64 (cY M P).2])) w'):=λw' U hr=>⟨U,.inl ⟨hr,rfl⟩⟩
 have Hc:Hid (∀w' r ok,ay [] w w'->(cY M P).2=0->((ok=false/\bS (M (cY M P).1).E (cm P)<0/\r=0)\/(ok=true/\0<=bS (M (cY M P).1).E (cm P)/\r=bS (M (cY M P).1).E (cm P)))->JV w M P (.returned (.tuple #[.agg (gU (cY M P).1 (cm P) ok r),.int .i64 0])) w'):=λw' r ok U hr hh=>⟨U,.inr ⟨hr,ok,r,rfl,hh⟩⟩
 have xB:=fu;have az:=zk;clear h hT hA hP hs eo;generalize JV w M P=Q at *;generalize cY M P=R at *;generalize cm P=nm at *;generalize ak:aU cX (.slice none 0 0)=Z0 at *;have Jh:Hid (Z0.size=18):=by show _=_;rw[<-ak];rfl
 clear ak;have e0:gU 0 ⟨#[]⟩ false 0= #[.int .i64 0,.string ⟨#[]⟩,.bool false,.int .i64 0]:=rfl;have ej:iR b o vp vq vd= #[.pointer (some ⟨b,0,none⟩),.int .i64 o.K,vp,vq,.int .i64 o.O,.int .i64 o.N,vd]:=rfl;rw[ej,e0] at *;clear e0 ej;obtain⟨x,ee⟩:=R
 dsimp only at *
 go_enter func113,ntmps113;go_wp2_with fail;refine Mx.out.mono ?_;rintro e w1 ⟨z,⟨rfl,rfl⟩|⟨ac,rfl⟩⟩
 ·have W:=(ae.out rfl).1
  have af:=HG.out x W w1 (gH.out.trans' z);have ag:=ar af;have av:=ar (Au.out x W);have aj:=Dp.out x W;have c1:w1.cell? ⟨w.heap.size,0,none⟩=some (.pointer (some ⟨b,0,none⟩)):=by rw[(HJ.out.1.keep z (by simp)).cell];rfl
  have Av:Hid (bf w1 (w.heap.size+1) _ _):=HJ.out.2.keep z (by simp);have jl:=ar (gH.out.trans' z);have aA:Hid (w.heap.size+2<=w1.heap.size):=by show _<=_;have :=z.size;rw[bO,bO] at this;omega
  clear z Mx HJ gH ae HG Au Dp Ao af W;generalize hn:nT T x=n at *;clear hn;have NS:=ar (λw' r ok U hh=>Hc.out w' r ok U rfl hh);clear Hc;have ai:Hid (∀w' r ok g aa T',bf w' g aa T'->aa.size=4->∃G,(storeVar 165 ⟨g,0,none⟩ (.agg #[.int .i64 (x:Int),.string nm,.bool ok,.int .i64 r])).run prog w'= .ok () G/\(loadVar 165 ⟨g,0,none⟩).run prog G= .ok (.agg (gU x nm ok r)) G/\ay [g] w' G):=λw' r ok g aa T' hb hc=>by
   obtain⟨G,a1,a2,a3⟩:=l8 (d:=x) (nm:=nm) (th:=ok) (i:=r) hb hc;exact⟨G,a1,ra a2,a3⟩
  generalize (x:Int)=xi at *;go_wp2_with fail;refine ag.out.mono ?_;rintro e w2 ⟨v,g,va,rfl,hE,hg,V⟩;obtain⟨w3,p1,p2,p3⟩:=fW (n:=n) (v:=v) (bf.new w2 Z0 111) Jh.out aj hE.one;have ax:=V.size;have mO:ay [] w2 w3:=((ay.refl _ _).alloc _).trans p3 (by intro x hx;rw[au] at hx;omega);have uz:=ar p1;have zO:=ar (cC p2 aj);have ah:=ar (av.out w3 v g nm (hE.keep mO (by simp)));have p9:Hid (bf w3 (w.heap.size+1) _ _):=(Av.out.keep V (by simp)).keep mO (by simp);have lV:=ar (jl.out.trans' (V.trans' mO));clear p1 p2 p3 V mO hE hg ax ag av Av jl c1;generalize aU n v=Zn at *;go_wp2_with(first|(with_reducible refine gS 111 uz.out ?_)|(with_reducible refine gL 111 zO.out ?_));refine ah.out.mono ?_;rintro e w4 ⟨r,ok,rfl,Z,hh⟩;obtain⟨w5,q1,q2,q3⟩:=ai.out w4 r ok (w.heap.size+1) _ _ (p9.out.keep Z (by simp)) rfl;have zL:=ar q1;have EG:=ar q2;have HF:=ar (NS.out w5 r ok ((lV.out.trans' Z).trans q3 (by intro y hy;rw[au] at hy;omega)) hh);clear q1 q2 q3 Z hh NS lV p9 ah zO uz ai;go_wp2_with(with_reducible refine gS 165 zL.out ?_);exact aL (dc results113 rfl EG.out rfl) rfl HF.out
 ·obtain⟨w3,p1,p2,p3⟩:=l8 (d:=0) (nm:=⟨#[]⟩) (th:=false) (i:=0) (HJ.out.2.keep z (by simp)) rfl
  have uz:=ar p1;have zO:=ar (ra p2);have HF:=ar (Ao.out w3 ((gH.out.trans' z).trans p3 (by intro y hy;rw[au] at hy;omega)) ac);have b1:(ee != 0)=true:=by simpa using ac
  clear p1 p2 p3 z ac Mx HJ gH ae HG Au Dp Ao Hc Jh xB;unfold gU at uz zO;go_wp2_with(with_reducible refine gS 165 uz.out ?_);exact aL (dc results113 rfl zO.out rfl) rfl HF.out
end Go.Proofs.YtepbpdipenedhaaGreatDoor
