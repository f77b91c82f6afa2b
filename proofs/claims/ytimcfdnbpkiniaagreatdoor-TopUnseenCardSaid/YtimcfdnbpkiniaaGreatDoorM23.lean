/- Lemmas. -/
import Derived.Test.YtimcfdnbpkiniaaGreatDoorM22
set_option maxHeartbeats 4000000
set_option maxRecDepth 100000
namespace Go.Proofs.YtimcfdnbpkiniaaGreatDoor
open Go.Proofs.Tryz
open Go.RowKit
section
variable{w:World}{v:Value}{b g gp:Nat}{B:List Int}{ps:List (Int×Int)}{T:List (bS×Value)}{own:Nat->List Nat}{r:lX}{Z:Array Value}{ex:List Nat}{M:Nat->Nd}{n:bS}
theorem Rp{xs:List Value}(h:Reads w v g xs):v.oneCell'=true:=by
 obtain⟨a,cap,rfl,-⟩:=h;rfl
theorem VY{P:List ByteArray}{k:Nat}(h:P.length=k+1):aQ P=lq P k:=by
 unfold aQ lq;rw[List.getLastD_eq_getLast?,List.getLast?_eq_getElem?,h,jQ,aj]
theorem Rs (M:Nat->Nd)(P:List ByteArray):(P=[]/\bo M P=(0,1))\/(P≠[]/\lY P=false/\bo M P=(0,1))\/
  (P≠[]/\lY P=true/\(((iI M 0 P.dropLast).2≠0/\bo M P=iI M 0 P.dropLast)\/((iI M 0 P.dropLast).2=0/\(M (iI M 0 P.dropLast).1).K≠2/\bo M P=(0,4))\/((iI M 0 P.dropLast).2=0/\(M (iI M 0 P.dropLast).1).K=2/\bo M P=iI M 0 P.dropLast))):=by
 unfold bo;by_cases z:P=[]
 ·exact .inl ⟨z,by rw[aB (.inl z)]⟩
 ·cases h2:lY P with
  |false=>exact .inr (.inl ⟨z,rfl,by rw[aB (.inr rfl)]⟩)
  |true=>
   refine .inr (.inr ⟨z,rfl,?_⟩);rw[aA (by simp[z])];by_cases G:(iI M 0 P.dropLast).2=0
   ·by_cases J:(M (iI M 0 P.dropLast).1).K=2
    ·exact .inr (.inr ⟨G,J,by rw[aA (λh=>h.2 J)]⟩)
    ·exact .inr (.inl ⟨G,J,by rw[aB ⟨G,J⟩]⟩)
   ·exact .inl ⟨G,by rw[aA (λh=>G h.1)]⟩
theorem Rt (h:gK w b gp B ps T own){M:Nat->Nd}(hA:Lz M T){v:Value}{g:Nat}{P:List ByteArray}(hP:fU w v g P)(hs:∀s∈P,s.size<=9223372036854775807):
  Calls prog 161 #[b,v] w (rT w (bo M P) (aQ P)):=by
 have HG:=ar (G8 hP hs);obtain⟨a,cap,rfl,af,aA,zr⟩:=hP.open;have U:=ar (Rs M P);have Bv:Hid (∀e w',rT w (bo M P) (aQ P) e w'->rT w (bo M P) (aQ P) e w'):=λ_ _ h=>h
 rcases eo P.length with h0|h0
 ·have W:P=[]:=List.length_eq_zero_iff.1 h0
  have G:bo M P=(0,1):=by
   rcases U.out with z|z|z
   ·exact z.2
   ·exact absurd W z.1
   ·exact absurd W z.1
  have HF:Hid (rT w (bo M P) (aQ P) (.returned (.tuple #[(0:Int),.string ⟨#[]⟩,(1:Int)])) w):=⟨ay.refl _ _,.inr ⟨by rw[G];decide,by rw[G]⟩⟩;clear U Bv h hA hP hs G HG;generalize rT w (bo M P) (aQ P)=Q at *;rw[h0] at af ⊢;clear W h0 zr;go_in;go_wp2
  go_ret3
  exact HF.out
 ·obtain⟨k,hk⟩:∃k,P.length=k+1:=⟨P.length-1,by omega⟩
  have aC:P≠[]:=λe=>by rw[e] at h0;simp at h0
  have hl:=VY hk;have av:=hP.init;rw[hk,jQ] at av;have HW:=ar (Oo h hA av);have HD:Hid (∀x:Nat,(M x).K≠0->∀wx,ay [] w wx->Calls prog 196 #[b,(x:Int)] wx (wM wx (nT T x))):=λx hx wx hk=>
   BD (h.keep0 hk) (hA.tree.rng hx) (hA.form x hx)
  have PE:Hid ((iI M 0 P.dropLast).2=0->(M (iI M 0 P.dropLast).1).K≠0):=λhe=>(CZ hA.tree P.dropLast 0 (by rw[hA.tree.root];omega) he).1
  have ae:Hid (∀x,(nT T x).K=(M x).K):=λx=>(hA.kind x).symm
  have PC:Hid ((iI M 0 P.dropLast).2≠0->(iI M 0 P.dropLast).1=0):=Om _ _;obtain⟨aF,off,rfl,c0⟩:=zr.out k (by omega);have Me:Hid (∀wx,ay [] w wx->wx.cell? ⟨g,off+k,none⟩=some (.string (aQ P))):=λwx yQ=>by
   rw[hl];exact(aO (w:=w) (a:=⟨g,off+k,none⟩) (yQ.block g aF (by simp))).trans c0
  have aj:Hid (∀w',ay [] w w'->bo M P=(0,1)->rT w (bo M P) (aQ P) (.returned (.tuple #[(0:Int),.string ⟨#[]⟩,(1:Int)])) w'):=λw' tV G=>⟨tV,.inr ⟨by rw[G];decide,by rw[G]⟩⟩
  have V:Hid (∀w' r,ay [] w w'->(bo M P).2=r->r≠0->rT w (bo M P) (aQ P) (.returned (.tuple #[(0:Int),.string ⟨#[]⟩,(r:Int)])) w'):=λw' r tV G hn=>⟨tV,.inr ⟨by rw[G];exact hn,by rw[G]⟩⟩
  have Ru:Hid (∀w' (x:Nat) nm,ay [] w w'->bo M P=(x,0)->nm=aQ P->rT w (bo M P) (aQ P) (.returned (.tuple #[(x:Int),.string nm,(0:Int)])) w'):=λw' x nm tV G hn=>⟨tV,.inl ⟨by rw[G],by rw[G,hn]⟩⟩
  have W7:=ar aC;rw[hk] at af HG ⊢;unfold maxLen at aA;have aK:(((k+1:Nat):Int)==0)=false:=by simp;omega
  have rq:=dC;clear h hA hP hs av hl c0 h0 aC zr;generalize rT w (bo M P) (aQ P)=Q at *;generalize bo M P=R,iI M 0 P.dropLast=S,aQ P=ln,ax:aL bY (.slice none 0 0)=Z0 at *;have jt:=ar ax;have Fb:Hid (Z0.size=18):=by show _=_;rw[<-ax];rfl
  clear ax;cases hgd:lY P with
  |false=>
   rw[hgd] at HG;have G:R=(0,1):=by
    rcases U.out with z|z|z
    ·exact z.2
    ·exact z.2.2
    ·rw[hgd] at z;cases z.2.1
   have HF:=ar (aj.out w (ay.refl _ _) G);clear hgd G U aj V Ru HW HD PE ae PC Me Bv W7;go_in;go_wp2_with fail;refine C' HG.out ?_;go_wp2
   go_ret3
   exact HF.out
  |true=>
   rw[hgd] at HG;have HC:Hid ((S.2≠0/\R=S)\/(S.2=0/\(M S.1).K≠2/\R=(0,4))\/(S.2=0/\(M S.1).K=2/\R=S)):=by
    rcases U.out with z|z|z
    ·exact absurd z.1 W7.out
    ·rw[hgd] at z;cases z.2.1
    ·exact z.2.2
   obtain⟨x,ee⟩:=S;have aI:IntKind.i64.wrap (k:Int)=(k:Int):=by rw[cB];omega
   have aG:(0:Int)<=(k:Int):=by omega
   have aJ:(k:Int)<=(cap:Int):=by omega
   have aN:(k:Int)<((k+1:Nat):Int):=by omega
   have aM:(k:Int)<(k:Int)+1:=by omega
   clear hgd U aj Bv W7;go_in;go_wp2_with fail;refine C' HG.out ?_;go_wp2_with fail;refine Rr HW.out λw1 aB=> ?_;have jv:=ar aB;clear aB HW HG;by_cases he:ee=0
   ·subst he
    have ak:=ar (HD.out x (PE.out rfl) w1 jv.out);have aa:=ae.out x;clear HD PE ae PC;generalize nT T x=n at *;go_wp2_with fail;refine ak.out.mono ?_;rintro e w2 ⟨ac,⟨hK,v,g1,rfl,hB,hE,aD⟩|⟨hK,rfl⟩⟩
    ·obtain⟨w3,p1,p2,p3⟩:=cr (n:=n) (v:=v) (bc.new w2 Z0 75) Fb.out hB hE.one
     have o5:=ar p1;have VZ:ay [] w w3:=(jv.out.trans' ac).trans (((ay.refl [] w2).alloc _).trans p3 (by intro x hx;rw[au] at hx;omega));have az:Hid (∀J,ay [] w3 J->J.cell? ⟨g,off+k,none⟩=some (.string ln)):=λJ hz=>Me.out J (VZ.trans' hz)
     have G:R=(x,0):=by
      rcases HC.out with z|z|z
      ·exact absurd rfl z.1
      ·exact absurd (aa.symm.trans hK) z.2.1
      ·exact z.2.2
     have HF:Hid (∀J,ay [] w3 J->Q (.returned (.tuple #[(x:Int),.string ln,(0:Int)])) J):=λJ hz=>Ru.out J x ln (VZ.trans' hz) G rfl
     clear p1 p2 p3 VZ ac hE hB aD G HC Ru V Me aa hK ak;generalize aL n v=ZN at *;go_wp2_with(first|(with_reducible refine gS 75 o5.out ?_));refine iW (S:=λJ=>ay [] w3 J) ((ay.refl _ _).drew) ?_;repeat (first
      |(refine aS.cons ?_ (bG.val rfl ?h) ?_;(case h=>(intro J hz;have q0:=az.out J hz;clear hz;go_simp;rfl));simp only[Act.put,ag,ah,ai]))
     refine aS.done λJ hz=> ?_
     have Qv:=ar (HF.out J hz);clear hz az HF;go_wp2
     go_ret3
     exact Qv.out
    ·obtain⟨w3,p1,p2,p3⟩:=cr (n:=bY) (v:= .slice none 0 0) (bc.new w2 Z0 75) Fb.out rfl rfl
     have o5:=ar p1;have VZ:ay [] w w3:=(jv.out.trans' ac).trans (((ay.refl [] w2).alloc _).trans p3 (by intro x hx;rw[au] at hx;omega));have G:R=(0,4):=by
      rcases HC.out with z|z|z
      ·exact absurd rfl z.1
      ·exact z.2.2
      ·exact absurd (aa.trans z.2.1) hK
     have HF:=ar (V.out w3 4 VZ (by rw[G]) (by omega));clear p1 p2 p3 VZ ac G HC Ru V Me aa hK ak;go_wp2_with(first|(with_reducible refine gS 75 o5.out ?_))
     go_ret3
     exact HF.out
   ·have G:R.2=ee:=by
     rcases HC.out with z|z|z
     ·rw[z.2]
     ·exact absurd z.1 he
     ·exact absurd z.1 he
    have HF:=ar (V.out w1 ee jv.out G he);have aH:(ee==0)=false:=by simpa using he
    clear G HC Ru V Me HD PE ae PC he;go_wp2
    go_ret3
    exact HF.out
end
section
variable{w:World}{v:Value}{b g gp:Nat}{B:List Int}{ps:List (Int×Int)}{T:List (bS×Value)}{own:Nat->List Nat}{r:lX}{Z:Array Value}{ex:List Nat}{M:Nat->Nd}{n:bS}
def tU (r:lX) (vd h:Value):Array Value:= #[.int .i64 r.E,.int .i64 r.N,.int .i64 r.K,.int .i64 r.L,.int .i64 r.I,vd,h]
def Db (w:World) (r:lX) (Z:Array Value):Prop:=∃vd h,Z=tU r vd h/\(∃g,Reads w vd g (ky r.D))/\∃g,bD w h g r.S
theorem Db.size(h:Db w r Z):Z.size=7:=by
 obtain⟨vd,z,rfl,-⟩:=h;rfl
theorem Db.one(h:Db w r Z):∀u∈Z.toList,u.oneCell'=true:=by
 obtain⟨vd,J,rfl,⟨V,G⟩,W,U⟩:=h;intro u z;have z:u∈[Value.int .i64 r.E,.int .i64 r.N,.int .i64 r.K,.int .i64 r.L,.int .i64 r.I,vd,J]:=z;simp only[aM,aK,bC] at z;rcases z with rfl|rfl|rfl|rfl|rfl|rfl|rfl
 ·rfl
 ·rfl
 ·rfl
 ·rfl
 ·rfl
 ·exact Rp G
 ·exact U.one
abbrev vI (g:Nat) (Z:Array Value) (Q:Ending->World->Prop) (w:World):Prop:=
 ∃h,(storeVar 38 g (.agg Z)).run prog w= .ok () h/\(loadVar 38 g).run prog h= .ok (.agg Z) h/\Q (.returned Z) h
theorem Ff:(prog.info? 38).map (·.size)=some 7:=by kernel_rfl
theorem wQ{G:World}{T:Nat}(J:bc w g Z T)(z:Db G r Z):(loadVar 38 g).run prog w= .ok (.agg Z) w:=by
 have h:=z.size;obtain⟨l⟩:=Z;simp only[bP] at h;exact bX g 0 l underlying38 rfl (by rw[h];exact Ff) λj _=>by
  rw[J.cell,bp,aG]
theorem yu{W:World}{h:Array Value}(V:bc w g h 38)(U:h.size=7)(G:Db W r Z):
  ∃w',(storeVar 38 g (.agg Z)).run prog w= .ok () w'/\bc w' g Z 38/\ay [g] w w':=by
 have J:=G.one;have z:=G.size;obtain⟨l⟩:=Z;simp only[bP] at z;exact bE (P:= prog) (ty:= 38) (cs:=l) (by rw[z];exact Ff) V (by rw[U,z]) J
theorem lD (w:World):(zeroValue 38).run prog w= .ok (.agg (tU fh (.slice none 0 0) (.slice none 0 0))) w:=by kernel_rfl
theorem tM (w:World)(g:Nat):Reads w (.slice none 0 0) g (ky []):=⟨none,0,rfl,by simp[ky],by simp[maxLen],λh=>absurd rfl h⟩
theorem aab (w:World){r:lX}(h:r.D=[])(z:r.S=[]):Db w r (tU r (.slice none 0 0) (.slice none 0 0)):=⟨_,_,rfl,⟨0,by rw[h];exact tM w 0⟩,0,by rw[z];exact bD.nil w 0⟩
def pJ (o:iP) (h vq vd:Value):Array Value:= #[.int .i64 o.K,h,vq,.int .i64 o.O,.int .i64 o.N,vd]
structure aeX (w:World) (o:iP) (Z:Array Value):Prop where
 cells:∃vp vq vd,Z=pJ o vp vq vd/\(∃g,fU w vp g o.P)/\(∃g,fU w vq g o.Q)/\∃g,Reads w vd g (ky o.D)
 small:(∀s∈o.P,s.size<=9223372036854775807)/\∀s∈o.Q,s.size<=9223372036854775807
 i64:(-9223372036854775808<=o.K/\o.K<=9223372036854775807)/\(-9223372036854775808<=o.O/\o.O<=9223372036854775807)/\(-9223372036854775808<=o.N/\o.N<=9223372036854775807)
 bytes:acj o
theorem Rv (n:bS){v:Value}{g:Nat}{A M B:List (ByteArray×Int)}{nm:ByteArray}(hB:n.B.length=13)(hE:bD w v g n.E)(hs:iH n.E A M B nm)(Y1:n.E.length<=500):
  Calls prog 192 #[aL n v,.string nm] w (vA w n (A++B)):=by
 have L8:=hs.newLen 0;obtain⟨L,hL⟩:∃L,A++B=L:=⟨_,rfl⟩;rw[hL] at L8 ⊢;have HL:=ar hL;have aA:(aL bY (.slice none 0 0)).size=18:=rfl;have aV:=dC;have ae:=(bc.new w (aL n v) 75).alloc (.cells (aL bY (.slice none 0 0)) 75);have ac:=bc.new (w.alloc (.cells (aL n v) 75)) (aL bY (.slice none 0 0)) 75;rw[show(w.alloc (.cells (aL n v) 75)).heap.size=w.heap.size+1 by simp] at ac;have aj:ay [] w ((w.alloc (.cells (aL n v) 75)).alloc (.cells (aL bY (.slice none 0 0)) 75)):=((ay.refl [] w).alloc _).alloc _;have aK:=J2 (hE.keep aj) hs (by omega);have Ih:Hid (L.length<=1000):=by show _<=_;omega
 have aC:=fT v hB;have aa:∀u:Value,u.oneCell'=true->∀x∈mQ (kZ n L) u,x.oneCell'=true:=λu hu=>kR hu
 have Y6:=ar aa;have aJ:Hid (∀J a c,Calls prog 200 #[aL n v,.slice a L.length c] J λe w'=>e=aL (kZ n L) (.slice a L.length c)/\ay [] J w'):=λJ a c=>J5 n v hB L _ rfl
 have aN:∀u,(mQ (kZ n L) u).length=18:=λu=>by rw[gJ];show n.B.length+5=18;omega
 have Eu:=ar aN;obtain⟨a,cap,rfl,aO,av,-⟩:=hE.open;have aD:=aC.f5;have aS:Hid (∀J,bc J w.heap.size (aL n (.slice a n.E.length cap)) 75->(loadVar 75 w.heap.size).run prog J= .ok (.agg (aL n (.slice a n.E.length cap))) J):=λJ hb=>bZ hb hB
 generalize aL bY (.slice none 0 0)=Z0,aL n (.slice a n.E.length cap)=Z at *;have aT:((w.alloc (.cells Z 75)).alloc (.cells Z0 75)).cell? ⟨w.heap.size,17,none⟩=some (.slice a n.E.length cap):=by rw[ae.cell];exact aD
 obtain⟨aF,pO,oD,fC,H0⟩:=hh5 aK ae ac aj aA;clear aK ae ac aj aC aa aN aA hE hs L8 Y1 aD hB aO av hL;go_in;go_wp2_with fail;refine aF.out.mono ?_;rintro e W ⟨x,y,rfl,hx,hy,G⟩;obtain⟨a1,c1,aU,-,-,-⟩:=hx.open;obtain⟨a2,c2,aP,-,-,-⟩:=hy.open;subst aU aP;have aB:w.heap.size+2<=W.heap.size:=by have :=G.size;simp at this;omega
 obtain⟨aM,pO,oD,og,HX,HY⟩:=hh6 aB (pO.out.keep G) (oD.out.keep G) (fC.out.trans' G) (hx.keep G) (hy.keep G);clear hx hy G aF aB aT;go_wp2_with fail;refine kg (S:=λJ=>ay [w.heap.size+1] W J) [0,1,2] [3,4,5,6] (l:=[_,_,_]) (tl:=[_,_,_,_]) (by kernel_rfl) (by kernel_rfl) (by kernel_rfl) (by kernel_rfl) rfl rfl rfl rfl rfl (λd _ _ _ _ h=>by cases d<;>exact h) (ay.refl _ _).drew ?_;refine cT.cons _ (YieldsIf.load rfl 75 (.tmp 2) rfl _ rfl λJ hx=>aS.out J (pO.out.keep hx)) ?_;simp only[Act.put,ag];refine cT.cons ?_ (YieldsIf.val rfl ?h) ?_;(case h=>(intro J hx;clear hx;go_simp;rfl));simp only[Act.put];refine cT.cons ?_ (YieldsIf.val rfl ?h) ?_;(case h=>(intro J hx;clear hx;go_simp;rfl));simp only[Act.put];refine cT.done ?_;unfold gF;go_wp2_with fail;refine⟨((ay.refl _ _).drew).alloc _,?_⟩;unfold gF;have kr:ay [] W ((W.alloc (.cells #[.slice a1 A.length c1,.slice a2 B.length c2] 30)).drew):=((ay.refl _ _).alloc _).drew;have tX:bc ((W.alloc (.cells #[.slice a1 A.length c1,.slice a2 B.length c2] 30)).drew) W.heap.size ([.slice a1 A.length c1,.slice a2 B.length c2]:List Value).toArray 30 :=(bc.new W #[.slice a1 A.length c1,.slice a2 B.length c2] 30).drew;have af:[A,B].flatten=L:=by rw[<-HL.out];simp
 have aI:=HX.out.keep kr;have ak:=HY.out.keep kr;have U:=GW (Ls:=[A,B]) tX rfl (by simp)
  (ahl (P:=λj=>∃g,bD ((W.alloc (.cells #[.slice a1 A.length c1,.slice a2 B.length c2] 30)).drew) (([.slice a1 A.length c1,.slice a2 B.length c2]:List Value).getD j (.slice none 0 0)) g ([A,B].getD j [])) ⟨g,aI⟩ ⟨g,ak⟩)
  (by rw[af];exact Ih.out)
 rw[af] at U;obtain⟨NA,pU⟩:=hh2 U kr;clear U kr tX af aI ak;go_wp2_with fail;refine NA.out.mono ?_;rintro e w6 ⟨u,gu,rfl,hu,az,jE⟩;obtain⟨a6,V,aQ,-,-,-⟩:=hu.open;subst aQ;obtain⟨rX,HU⟩:=hh2 (pU.out.trans' jE) hu;have ax:Hid (W.heap.size<=gu):=cL pU.out.size az;clear hu az jE NA pU;obtain⟨HV,Y7,Q6⟩:=hh3 (aJ.out w6 a6 V) (Y6.out (.slice a6 L.length V) rfl) (Eu.out (.slice a6 L.length V));have Su:Hid (aL (kZ n L) (.slice a6 L.length V)=(mQ (kZ n L) (.slice a6 L.length V)).toArray):=rfl;have M7:Hid (∀w',bD w' (.slice a6 L.length V) gu L->ay [] w w'->vA w n L (.returned (aL (kZ n L) (.slice a6 L.length V))) w'):=λw' h1 h2=>⟨_,gu,rfl,h1,by have :=ax.out;have :=aM.out;omega,h2⟩
 clear Y6 Eu aJ;generalize aL (kZ n L) (.slice a6 L.length V)=Z6,mQ (kZ n L) (.slice a6 L.length V)=ZL at *;generalize L.length=m at *;go_wp2_with fail;refine⟨rX.out.mono,?_⟩;unfold gF;go_wp2_with fail;refine Rr HV.out λw7 xZ=> ?_;obtain⟨JV,aR⟩:=hh2 (rX.out.trans' xZ) (HU.out.keep xZ);obtain⟨w8,q1,q2,q3⟩:=bE (P:= prog) (ty:= 75) (cs:=ZL) (by rw[Q6.out];exact iV) (oD.out.keep JV.out) (by rw[Q6.out];exact H0.out) Y7.out;rw[<-Su.out] at q1;have HS:=ar q1;have D5:Hid ((loadVar 75 (w.heap.size+1:Nat)).run prog w8= .ok (.agg Z6) w8):=by
  rw[Su.out];exact bX _ 0 ZL underlying75 rfl (by rw[Q6.out];exact iV) λj _=>by rw[q2.cell,bp,aG]
 have PB:=ar ((JV.out.mono (l':=[w.heap.size+1]) (by simp)).trans' q3);have HF:=ar (M7.out w8 (aR.out.keep q3 (by have :=ax.out;have :=aM.out;intro _ h;rw[au] at h;omega)) (og.out.trans PB.out (by intro z hz;rw[au] at hz;omega)));clear q1 q2 q3 xZ HV M7;go_wp2_with fail;refine⟨JV.out.mono,?_⟩;unfold gF;refine qa rfl 75 (.tmp 4) (.tmp 19) rfl ⟨w.heap.size+1,0,none⟩ rfl (.agg Z6) rfl w8 HS.out ?_;go_wp2_with fail;refine⟨PB.out,?_⟩;unfold gF;go_wp2;exact aH (bu results192 rfl D5.out) rfl HF.out
structure rz (w:World) (b gp:Nat) (B:List Int) (ps:List (Int×Int)) (T:List (bS×Value)) (own:Nat->List Nat) (ex:List Nat) (M:Nat->Nd):Prop where
 sh:eN w b gp B ps
 nd:nC (az B ps) T own ex M
 lt:b<w.heap.size/\gp<w.heap.size
 tab:∀wx,ay [b,gp] w wx->ku wx
section
variable {w w':World} {b gp gG:Nat} {B:List Int} {ps qs:List (Int×Int)} {T T':List (bS×Value)} {own cY:Nat->List Nat} {ex ex':List Nat} {M M':Nat->Nd}
theorem rz.keep0(h:rz w b gp B ps T own ex M)(z:ay [] w w'):rz w' b gp B ps T own ex M:=
 ⟨h.sh.keep z,h.nd,by have :=z.size;have :=h.lt;omega,λG J=>h.tab G ((z.mono).trans' J)⟩
theorem rz.shT(h:rz w b gp B ps T own ex M):gK w b gp B ps T own:=⟨h.sh,h.nd.st.w64,h.nd.st.gots,h.lt⟩
theorem rz.shS(h:rz w b gp B ps T own ex M):tH w b gp B ps T own:=⟨h.shT,h.nd.st.sup⟩
theorem rz.go(h:rz w b gp B ps T own ex M)(J:eN w' b gG B (ps++qs))(G:ay [b,gp] w w')(W:gG=gp\/(w.heap.size<=gG/\gG<w'.heap.size))(V:nC (az (az B ps) qs) T' cY ex' M'):rz w' b gG B (ps++qs) T' cY ex' M':=
 ⟨J,by rw[br];exact V,by have :=G.size;have :=h.lt;omega,λU z=>h.tab U (G.trans z λx z=>by
  simp only[aM,aK,bC] at z ⊢;omega)⟩
def Tk (w:World) (n:bS) (e:Ending) (w':World):Prop:=
 ∃v g h,e= .returned (.tuple #[aL n v,h,(0:Int)])/\bD w' v g n.E/\w.heap.size<=g/\ay [] w w'
theorem rz.get(h:rz w b gp B ps T own ex M){i:Nat}(J:(M i).K≠0):Calls prog 30 #[b,(i:Int)] w (Tk w (nT T i)):=by
 have G:=h.nd.store J;have hF:(nT T i).F≠0:=by rcases G.right.1 with U|U<;>omega
 refine(h.shT.get (h.nd.rng J)).mono ?_;rintro e w1 ⟨v,g,va,ga,r,rfl,hB,V,hg,-,-,z,hr⟩;have W:r=0:=by omega
 subst W;exact⟨v,g,va,rfl,V,hg,z⟩
theorem rz.put(h:rz w b gp B ps T own ex M)(aa:ps.length<=600000)(i:Nat){n:bS}{v:Value}{g:Nat}{R:Int->List (Int×Int)->Prop}(hB:n.B.length=13)(hN:∀k,k<n.E.length->(eY n.E k).size<=9223372036854775807)(hR:∀r qs,nK (az B ps) (i:Int) n r qs->R r qs){G:World}(z:ay [] w G)(hE:bD G v g n.E)(hg:w.heap.size<=g):
  Calls prog 48 #[b,(i:Int),aL n v] G (λe w'=>cQ w b gp B ps 700 R e w'/\ay [b,gp] G w'):=by
 have W:=h.lt;refine(sy (h.sh.keep z) h.nd.st.w64 (λV hy=>h.tab V ((z.mono).trans' hy)) (by have :=z.size;omega) (by omega) (i:Int) n v g hB hE hN (λ_=>by omega)).mono ?_;rintro e w1 ⟨r,qs,gG,h1,h2,h3,J,h5,U⟩;exact⟨⟨r,qs,gG,h1,by have :=z.size;omega,h3,(z.mono).trans' J,h5,hR r qs U⟩,J⟩
theorem OI {E:List (ByteArray×Int)}(h:I9 E):∀k,k<E.length->(eY E k).size<=9223372036854775807:=λk G=>by
 have z:=(Ti h k G).1;have J:=oz z;rw[mh] at J;omega
end
theorem bc.new2(w:World)(c:Array Value)(T:Nat)(h:Array Value)(z:Nat):bc ((w.alloc (.cells c T)).alloc (.cells h z)) (w.heap.size+1) h z:=by
 have :=bc.new (w.alloc (.cells c T)) h z;rwa[aU] at this
def cC (b:Nat) (o:iP) (h vq vd:Value):Array Value:= #[.pointer (some ⟨b,0,none⟩),.int .i64 o.K,h,vq,.int .i64 o.O,.int .i64 o.N,vd]
def cH (d:Nat) (nm:ByteArray) (th:Bool) (i:Int):Array Value:= #[.int .i64 (d:Int),.string nm,.bool th,.int .i64 i]
theorem aac:(prog.info? 91).map (·.size)=some 7:=by kernel_rfl
theorem Kj:(prog.info? 174).map (·.size)=some 4:=by kernel_rfl
theorem eF{z x:Nat}(G:b<w.heap.size/\z<w.heap.size)(h:w.heap.size<=x):x∉[b,z]:=by
 simp only[aM,aK,bC];omega
theorem OJ{V:Nat}(h:rz w b V B ps T own ex M)(ax:ps.length<=600000)(o:iP)(vp vq vd:Value){d:Nat}(hK:(M d).K=2)(nm:ByteArray)(th:Bool)(i:Int):
  Calls prog 159 #[cC b o vp vq vd,cH d nm th i] w (cQ w b V B ps 700 (Ay (az B ps) ex M d nm)):=by
 have BK:=h.nd.ed hK;have ac:=h.nd.ents d;obtain⟨A,N,E2,hs⟩:=lA BK.2.2 nm;have ae:=tE hs;have cM:ay [] w ((w.alloc (.cells (cC b o vp vq vd) 91)).alloc (.cells (cH d nm th i) 174)):=((ay.refl _ _).alloc _).alloc _;have HG:=ar ((h.keep0 cM).get (i:=d) (by omega));have aa:=h.nd.store (i:=d) (by omega);have aB:=aa.len;have LI:Hid (∀z v g,ay [] w z->bD z v g (A++E2)->w.heap.size<=g->Calls prog 48 #[b,(d:Int),aL (kZ (nT T d) (A++E2)) v] z (λe w'=>cQ w b V B ps 700 (Ay (az B ps) ex M d nm) e w'/\ay [b,V] z w')):=λz v g hk hE hg=>
  h.put ax d (n:=kZ (nT T d) (A++E2)) aa.len (by rw[<-ae];exact OI (ZF BK nm)) (λr qs hp=>h.nd.leave hK (by rw[ae];exact hp)) hk hE hg
 have aF:Hid (∀z v g,bD z v g (nT T d).E->Calls prog 192 #[aL (nT T d) v,.string nm] z (vA z (nT T d) (A++E2))):=λz v g hE=>Rv (nT T d) aa.len hE (by rw[ac];exact hs) (by rw[ac];have :=BK.1;omega)
 obtain⟨fG,DI⟩:=hh2 cM h.lt;have Ij:Hid (∀e z,cQ w b V B ps 700 (Ay (az B ps) ex M d nm) e z->∃r,e=(r:Int)/\cQ w b V B ps 700 (Ay (az B ps) ex M d nm) e z):=λe z hh=>by
  obtain⟨r,qs,gG,h1,-⟩:=id hh;exact⟨r,h1,hh⟩
 have HJ:Hid (bc ((w.alloc (.cells (cC b o vp vq vd) 91)).alloc (.cells (cH d nm th i) 174)) w.heap.size (cC b o vp vq vd) 91/\bc ((w.alloc (.cells (cC b o vp vq vd) 91)).alloc (.cells (cH d nm th i) 174)) (w.heap.size+1) (cH d nm th i) 174):=⟨(bc.new w _ _).alloc _,bc.new2 w _ _ _ _⟩;have rq:=dC;clear h BK ac ae aa hs ax hK cM;generalize cQ w b V B ps 700 (Ay (az B ps) ex M d nm)=Q,hn:nT T d=n,aD:aL bY (.slice none 0 0)=Z0 at *;have Fb:Hid (Z0.size=18):=by show _=_;rw[<-aD];rfl
 clear aD hn;generalize A++E2=E' at *;unfold cC cH at *;generalize (d:Int)=di at *;go_in;go_wp2_with fail;refine HG.out.mono ?_;rintro e w1 ⟨v,g,va,rfl,hE,hg,J⟩;obtain⟨G,p1,p2,p3⟩:=cr (n:=n) (v:=v) (bc.new w1 Z0 75) Fb.out aB hE.one;have aA:=J.size;have aH:w.heap.size+2<=w1.heap.size:=by rw[aU,aU] at aA;omega
 have eP:ay [] w1 G:=((ay.refl _ _).alloc _).trans p3 (by intro x hx;rw[au] at hx;omega);have av:ay [] w G:=fG.out.trans' (J.trans' eP);have jh:=ar p1;have Md:bD G v g n.E:=hE.keep eP;have Sq:=HJ.out.1.keep (J.trans' eP);have af:=HJ.out.2.keep (J.trans' eP);have HC:Hid (∀U,ay [b,V] G U->U.cell? w.heap.size=some (.pointer (some ⟨b,0,none⟩))/\U.cell? (w.heap.size+1:Nat)=some (.int .i64 di)/\U.cell? ⟨w.heap.size+1,1,none⟩=some (.string nm)/\(loadVar 75 w1.heap.size).run prog U= .ok (.agg (aL n v)) U):=λU W=>
  ⟨by rw[(Sq.keep W (eF DI.out (by omega))).cell];rfl,by rw[(af.keep W (eF DI.out (by omega))).cell];rfl,by rw[(af.keep W (eF DI.out (by omega))).cell];rfl,bZ (p2.keep W (eF DI.out (by omega))) aB⟩
 obtain⟨aj,fC⟩:=hh2 (aF.out G.drew v g (Md.keep ((ay.refl [] G).drew))) av;clear p1 p2 p3 av Md hE hg J eP HG Sq af HJ fG aA aH aF;go_wp2_with(first|(with_reducible refine gS 75 jh.out ?_));refine kg (S:=λz=>ay [b,V] G z) [0,1,2,3,4,5,6] [7,8,9] (l:=[_,_,_,_,_,_,_]) (tl:=[_,_,_]) (by kernel_rfl) (by kernel_rfl) (by kernel_rfl) (by kernel_rfl) rfl rfl rfl rfl rfl (λd _ _ _ _ h=>by cases d<;>exact h) (ay.refl _ _).drew ?_;simp only[fZ,gN,gQ];repeat (
  (first
  |(refine cT.cons (.agg (aL n v)) (YieldsIf.load rfl 75 _ rfl _ rfl λU W=>(HC.out _ W).2.2.2) ?_)
  |(refine cT.cons ?_ (YieldsIf.val rfl ?h) ?_;(case h=>(intro U W;obtain⟨q0,q1,q2,-⟩:=HC.out U W;clear W;go_simp;rfl))));simp only[Act.put,ag,ah,ai])
 refine cT.done ?_;unfold gF;go_wp2_with fail;refine aj.out.mono ?_;rintro e w3 ⟨u,g3,rfl,ak,aI,aG⟩;have ny:ay [] G w3:=((ay.refl [] G).drew).trans' aG;have Cf:=ar (LI.out w3 u g3 (fC.out.trans' ny) ak (by have :=fC.out.size;have :=((ay.refl [] G).drew).size;omega));have og:Hid (ay [b,V] G w3):=ny.mono;clear ny aG ak aI aj LI;go_wp2_with fail;refine⟨og.out,?_⟩;unfold gF;go_wp2_with fail;refine Cf.out.mono ?_;rintro e w4 ⟨hq,aC⟩;obtain⟨r,rfl,hq⟩:=Ij.out _ _ hq;obtain⟨HF,qB⟩:=hh2 hq (og.out.trans' aC);clear hq aC;go_wp2_with fail;refine⟨qB.out,?_⟩;unfold gF;go_wp2_with fail;refine⟨qB.out,?_⟩;unfold gF;go_wp2
 first|exact HF.out|(go_ret;exact HF.out)
theorem Tm{T:Nat}(h:bc w g (aL n v) T)(x:Int):bc (w.setCell ⟨g,2,none⟩ (.int .i64 x)) g (aL { n with L:=x } v) T:=h.set 2 (.int .i64 x)
theorem zg (h:n.B.length=13):(aL n v).size=18:=by rw[aL,bP,gJ,h]
theorem Kk (h:rz w b gp B ps T own ex M)(aj:ps.length<=600000)(o:iP)(vp vq vd:Value){i:Nat}(hK:(M i).K≠0)(hL:1<=(M i).L):
  Calls prog 160 #[cC b o vp vq vd,(i:Int)] w (cQ w b gp B ps 700 (rU (az B ps) ex M i)):=by
 have cM:ay [] w (w.alloc (.cells (cC b o vp vq vd) 91)):=(ay.refl _ _).alloc _;have HG:=ar ((h.keep0 cM).get hK);have U:=h.nd.store hK;have ag:=U.len;have hl:=h.nd.links i;have ak:=U.right.2.1;have LI:Hid (1<(M i).L->∀z v g,ay [] w z->bD z v g (nT T i).E->w.heap.size<=g->Calls prog 48 #[b,(i:Int),.agg (aL { nT T i with L:=(M i).L-1 } v)] z (λe w'=>cQ w b gp B ps 700 (rU (az B ps) ex M i) e w'/\ay [b,gp] z w')):=λaA z v g hk hE hg=>
  h.put aj i (n:={ nT T i with L:=(M i).L-1 }) U.len (show ∀k,k<(nT T i).E.length->(eY (nT T i).E k).size<=9223372036854775807 from yb U.right) (λr qs hp=>h.nd.unlinkPut hK aA hp) hk hE hg
 have ae:Hid ((M i).L=1->∀z,ay [] w z->Calls prog 193 #[b,(i:Int)] z (cQ w b gp B ps 700 (rU (az B ps) ex M i))):=λh1 z hk=>by
  have aC:=h.lt;refine(acb (h.sh.keep hk) h.nd.st.w64 (by have :=hk.size;omega) (by omega) (i:Int)).mono ?_;rintro e V ⟨r,qs,gG,h2,h3,h4,h5,h6,h7⟩;exact⟨r,qs,gG,h2,by have :=hk.size;omega,h4,(hk.mono).trans' h5,h6,h.nd.unlinkDrop hK h1 h7⟩
 have fG:=ar cM;have Ij:Hid (∀e z,cQ w b gp B ps 700 (rU (az B ps) ex M i) e z->∃r,e=(r:Int)/\cQ w b gp B ps 700 (rU (az B ps) ex M i) e z):=λe z hh=>by
  obtain⟨r,qs,gG,h1,-⟩:=id hh;exact⟨r,h1,hh⟩
 have HJ:Hid (bc (w.alloc (.cells (cC b o vp vq vd) 91)) w.heap.size (cC b o vp vq vd) 91):=bc.new w _ _;have rq:=dC;clear h U aj hK cM;generalize cQ w b gp B ps 700 (rU (az B ps) ex M i)=Q,hn:nT T i=n,ax:(M i).L=l0,av:aL bY (.slice none 0 0)=Z0 at *;have Fb:Hid (Z0.size=18):=by show _=_;rw[<-av];rfl
 clear av hn ax;unfold cC at *;generalize (i:Int)=di at *;obtain⟨G,Cj⟩:∃G,l0-1=G:=⟨_,rfl⟩;have aB:IntKind.i64.wrap G=G:=by rw[cB];omega
 rw[Cj] at LI;go_in;go_wp2_with fail;refine HG.out.mono ?_;rintro e V ⟨v,g,va,rfl,hE,hg,J⟩;obtain⟨w2,p1,p2,p3⟩:=cr (n:=n) (v:=v) (bc.new V Z0 75) Fb.out ag hE.one;have af:=J.size;have ai:w.heap.size+1<=V.heap.size:=by rw[aU] at af;omega
 have eP:ay [] V w2:=((ay.refl _ _).alloc _).trans p3 (by intro x hx;rw[au] at hx;omega);have jh:=ar p1;have p5:=Tm p2 G;have ny:ay [] V (w2.setCell ⟨V.heap.size,2,none⟩ (.int .i64 G)):=eP.setCell (.inr (aI _)) _;have aa:ay [] w (w2.setCell ⟨V.heap.size,2,none⟩ (.int .i64 G)):=fG.out.trans' (J.trans' ny);have ac:bD (w2.setCell ⟨V.heap.size,2,none⟩ (.int .i64 G)) v g n.E:=hE.keep ny;have c1:w2.cell? ⟨V.heap.size,2,none⟩=some (.int .i64 l0):=by rw[p2.cell,<-hl];exact(fT v ag).f2
 have ah:=bZ p5 ag;have c2:(w2.setCell ⟨V.heap.size,2,none⟩ (.int .i64 G)).cell? w.heap.size=some (.pointer (some ⟨b,0,none⟩)):=by
  rw[((HJ.out.keep J).keep ny).cell];rfl
 obtain⟨uk,mP⟩:=hh2 ah p2;by_cases h1:l0=1
 ·have HD:=ar (ae.out h1 _ aa)
  have b1:decide (G<1)=true:=bq (by omega);clear h1 hL hl ak;clear p1 p2 p3 p5 aa ny ac hE hg J eP HG HJ fG af ai LI ae ah uk;have oZ:=mP.out.frozen;go_wp2_with(first|(with_reducible refine gS 75 jh.out ?_));refine HD.out.mono ?_;intro e w4 W;obtain⟨r,rfl,W⟩:=Ij.out _ _ W;have HF:=ar W;clear W;go_wp2
  first|exact HF.out|(go_ret;exact HF.out)
 ·have Cf:=ar (LI.out (by omega) _ v g aa ac (by rw[aU] at hg;omega))
  have b1:decide (G<1)=false:=aP (by omega);clear p1 p2 p3 p5 aa ny ac hE hg J eP HG HJ fG af ai LI ae ah;have oZ:=mP.out.frozen;generalize aL { n with L:=G } v=Z3 at *;clear h1 hL hl ak;go_wp2_with(with_reducible first|refine gS 75 jh.out ?_|refine gL 75 uk.out ?_);refine Cf.out.mono ?_;rintro e w4 ⟨W,-⟩;obtain⟨r,rfl,W⟩:=Ij.out _ _ W;have HF:=ar W;clear W;go_wp2
  first|exact HF.out|(go_ret;exact HF.out)
theorem Ho (h:rz w b gp B ps T own ex M)(ax:ps.length<=600000)(o:iP)(vp vq vd:Value){d:Nat}(hK:(M d).K=2){nm:ByteArray}(hn:ig (bl nm)=true)(th:Bool)(i0:Int){i:Int}(hi:0<=i/\i<32):
  Calls prog 128 #[cC b o vp vq vd,cH d nm th i0,i] w (cQ w b gp B ps 700 (tI (az B ps) ex M d nm i)):=by
 have BK:=h.nd.ed hK;have ag:=h.nd.ents d;obtain⟨A,N,E2,hs⟩:=lA BK.2.2 nm;have ai:=Aw hs i;have cM:ay [] w ((w.alloc (.cells (cC b o vp vq vd) 91)).alloc (.cells (cH d nm th i0) 174)):=((ay.refl _ _).alloc _).alloc _;have HG:=ar ((h.keep0 cM).get (i:=d) (by omega));have aa:=h.nd.store (i:=d) (by omega);have J:=aa.len;have LI:Hid ((A++([(nm,i)]++E2)).length<=24->∀z v g,ay [] w z->bD z v g (A++([(nm,i)]++E2))->w.heap.size<=g->Calls prog 48 #[b,(d:Int),aL (kZ (nT T d) (A++([(nm,i)]++E2))) v] z (λe w'=>cQ w b gp B ps 700 (tI (az B ps) ex M d nm i) e w'/\ay [b,gp] z w')):=λG z v g hk hE hg=>by
  rw[<-ai] at G hE ⊢;exact h.put ax d (n:=kZ (nT T d) (wP (M d).E nm i)) aa.len (OI (ZG BK G hn hi)) (λr qs hp=>h.nd.enter hK hn hi G hp) hk hE hg
 have aC:Hid (∀z v g,bD z v g (nT T d).E->Calls prog 164 #[aL (nT T d) v,.agg #[.string nm,i]] z (vA z (nT T d) (A++([(nm,i)]++E2)))):=λz v g hE=>Y5 (nT T d) i aa.len hE (by rw[ag];exact hs) (by rw[ag];have :=BK.1;omega)
 obtain⟨fG,DI⟩:=hh2 cM h.lt;have jT:Hid (∀z,ay [] w z->24<(A++([(nm,i)]++E2)).length->cQ w b gp B ps 700 (tI (az B ps) ex M d nm i) (.returned (7:Int)) z):=λz hk aI=>cQ.none h.sh hk (.inl ⟨rfl,rfl,.inl (by rw[ai];exact aI)⟩)
 have Ij:Hid (∀e z,cQ w b gp B ps 700 (tI (az B ps) ex M d nm i) e z->∃r,e=(r:Int)/\cQ w b gp B ps 700 (tI (az B ps) ex M d nm i) e z):=λe z hh=>by
  obtain⟨r,qs,gG,h1,-⟩:=id hh;exact⟨r,h1,hh⟩
 have HJ:Hid (bc ((w.alloc (.cells (cC b o vp vq vd) 91)).alloc (.cells (cH d nm th i0) 174)) w.heap.size (cC b o vp vq vd) 91/\bc ((w.alloc (.cells (cC b o vp vq vd) 91)).alloc (.cells (cH d nm th i0) 174)) (w.heap.size+1) (cH d nm th i0) 174):=⟨(bc.new w _ _).alloc _,bc.new2 w _ _ _ _⟩;have rq:=dC;clear h BK ag ai aa hs ax hK cM hi hn;generalize cQ w b gp B ps 700 (tI (az B ps) ex M d nm i)=Q,hn:nT T d=n,aA:aL bY (.slice none 0 0)=Z0 at *;have Fb:Hid (Z0.size=18):=by show _=_;rw[<-aA];rfl
 clear aA hn;generalize A++([(nm,i)]++E2)=U at *;unfold cC cH at *;generalize (d:Int)=di at *;go_in;go_wp2_with fail;refine HG.out.mono ?_;rintro e w1 ⟨v,g,va,rfl,hE,hg,V⟩;obtain⟨w2,p1,p2,p3⟩:=cr (n:=n) (v:=v) (bc.new w1 Z0 75) Fb.out J hE.one;have aG:=V.size;have aD:w.heap.size+2<=w1.heap.size:=by rw[aU,aU] at aG;omega
 have eP:ay [] w1 w2:=((ay.refl _ _).alloc _).trans p3 (by intro x hx;rw[au] at hx;omega);have aF:ay [] w w2:=fG.out.trans' (V.trans' eP);have jh:=ar p1;have Md:bD w2 v g n.E:=hE.keep eP;have Sq:=HJ.out.1.keep (V.trans' eP);have ak:=HJ.out.2.keep (V.trans' eP);have c1:w2.cell? ⟨w.heap.size+1,1,none⟩=some (.string nm):=by rw[ak.cell];rfl
 obtain⟨rJ,aj⟩:=hh2 (bZ p2 J) (aC.out w2 v g Md);have mP:Hid (bc w2 w1.heap.size (aL n v) 75/\(aL n v).size=18/\w1.heap.size<w2.heap.size):=⟨p2,zg J,by have :=p3.size;rw[aU] at this;omega⟩;have af:Hid (bc w2 w.heap.size _ _/\bc w2 (w.heap.size+1) _ _):=⟨Sq,ak⟩;obtain⟨fC,Sv⟩:=hh2 aF aD;clear p1 p2 p3 aF Md hE hg V eP HG Sq ak HJ fG aG aD aC;go_wp2_with(with_reducible first|refine gS 75 jh.out ?_|refine gL 75 rJ.out ?_);refine aj.out.mono ?_;rintro e w3 ⟨u,g3,rfl,ac,aB,ae⟩;obtain⟨w4,p1,p2,p3⟩:=cr (n:=kZ n U) (v:=u) (mP.out.1.keep ae) mP.out.2.1 J ac.one;have W:ay [w1.heap.size] w2 w4:=(ae.mono).trans' p3;have Ja:ay [] w w4:=fC.out.trans W (by intro x hx;rw[au] at hx;have :=Sv.out;omega);have WZ:bD w4 u g3 U:=ac.keep p3 (by rw[au];have :=mP.out.2.2;omega);have ah:=af.out.1.keep W (by rw[au];have :=Sv.out;omega);have av:=af.out.2.keep W (by rw[au];have :=Sv.out;omega);have c2:w4.cell? w.heap.size=some (.pointer (some ⟨b,0,none⟩)):=by rw[ah.cell];rfl
 have c3:w4.cell? (w.heap.size+1:Nat)=some (.int .i64 di):=by rw[av.cell];rfl
 have c4:w4.cell? ⟨w1.heap.size,3,none⟩=some (.int .i64 (U.length:Int)):=by rw[p2.cell];exact(fT (n:=kZ n U) u J).f3
 obtain⟨tY,aJ⟩:=hh2 p1 (bZ p2 J);have Vr:w.heap.size<=g3:=by have :=fC.out.size;omega
 by_cases G:U.length<=24
 ·have aH:=ar (LI.out G w4 u g3 Ja WZ Vr)
  have b1:decide ((24:Int)<(U.length:Int))=false:=aP (by omega);generalize aL (kZ n U) u=Z4,(U.length:Int)=el at *;clear p1 p2 p3 ae ac WZ W Ja ah av aB Vr mP af fC Sv LI jT aj rJ jh G;go_wp2_with(with_reducible first|refine gS 75 tY.out ?_|refine gL 75 aJ.out ?_);refine aH.out.mono ?_;rintro e w5 ⟨hq,-⟩;obtain⟨r,rfl,hq⟩:=Ij.out _ _ hq;have HF:=ar hq;clear hq;go_wp2
  first|exact HF.out|(go_ret;exact HF.out)
 ·have HF:=ar (jT.out w4 Ja (by omega))
  have b1:decide ((24:Int)<(U.length:Int))=true:=bq (by omega);generalize aL (kZ n U) u=Z4,(U.length:Int)=el at *;clear p1 p2 p3 ae ac WZ W Ja ah av aB Vr mP af fC Sv LI jT aj rJ jh G;go_wp2_with(first|(with_reducible refine gS 75 tY.out ?_))
  first|exact HF.out|(go_ret;exact HF.out)
end
end Go.Proofs.YtimcfdnbpkiniaaGreatDoor
