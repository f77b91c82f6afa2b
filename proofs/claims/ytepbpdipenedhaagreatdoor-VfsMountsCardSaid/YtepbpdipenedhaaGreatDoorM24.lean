/- Lemmas. -/
import Derived.Test.YtepbpdipenedhaaGreatDoorM23
set_option maxHeartbeats 4000000
set_option maxRecDepth 100000
namespace Go.Proofs.YtepbpdipenedhaaGreatDoor
open Go.Proofs.Tryz
open Go.RowKit
section
variable{w:World}{a b c d g gp u:Nat}{B:List Int}{ps:List (Int×Int)}{T:List (bT×Value)}{own:Nat->List Nat}{r:mM}{Z h tmps:Array Value}{ex:List Nat}{M:Nat->Nd}{n:bT}{v x y:Value}{P:Program}{fn:Func}{nm:ByteArray}{th:Bool}{i:Int}
theorem V2{P:List ByteArray}{k:Nat}(h:P.length=k+1):aS P=lG P k:=by
 unfold aS lG;rw[List.getLastD_eq_getLast?,List.getLast?_eq_getElem?,h,ib,aj]
theorem Ru (M:Nat->Nd)(P:List ByteArray):(P=[]/\bq M P=(0,1))\/(P≠[]/\mj P=false/\bq M P=(0,1))\/
  (P≠[]/\mj P=true/\(((iQ M 0 P.dropLast).2≠0/\bq M P=iQ M 0 P.dropLast)\/((iQ M 0 P.dropLast).2=0/\(M (iQ M 0 P.dropLast).1).K≠2/\bq M P=(0,4))\/((iQ M 0 P.dropLast).2=0/\(M (iQ M 0 P.dropLast).1).K=2/\bq M P=iQ M 0 P.dropLast))):=by
 unfold bq;by_cases z:P=[]
 ·exact .inl ⟨z,by rw[aB (.inl z)]⟩
 ·cases h2:mj P with
  |false=>exact .inr (.inl ⟨z,rfl,by rw[aB (.inr rfl)]⟩)
  |true=>
   refine .inr (.inr ⟨z,rfl,?_⟩);rw[aA (by simp[z])];by_cases G:(iQ M 0 P.dropLast).2=0
   ·by_cases J:(M (iQ M 0 P.dropLast).1).K=2
    ·exact .inr (.inr ⟨G,J,by rw[aA (λh=>h.2 J)]⟩)
    ·exact .inr (.inl ⟨G,J,by rw[aB ⟨G,J⟩]⟩)
   ·exact .inl ⟨G,by rw[aA (λh=>G h.1)]⟩
theorem Rv (h:gU w b gp B ps T own){M:Nat->Nd}(hA:LN M T){v:Value}{g:Nat}{P:List ByteArray}(hP:gN w v g P)(hs:∀s∈P,s.size<=9223372036854775807):
  Calls prog 155 #[b,v] w (rX w (bq M P) (aS P)):=by
 have HG:=ar (Hk hP hs);obtain⟨a,cap,rfl,af,aB,zA⟩:=hP.open;have V:=ar (Ru M P);have BC:Hid (∀e w',rX w (bq M P) (aS P) e w'->rX w (bq M P) (aS P) e w'):=λ_ _ h=>h
 rcases dY P.length with h0|h0
 ·have W:P=[]:=List.length_eq_zero_iff.1 h0
  have G:bq M P=(0,1):=by
   rcases V.out with z|z|z
   ·exact z.2
   ·exact absurd W z.1
   ·exact absurd W z.1
  have HF:Hid (rX w (bq M P) (aS P) (.returned (.tuple #[(0:Int),.string ⟨#[]⟩,(1:Int)])) w):=⟨ay.refl _ _,.inr ⟨by rw[G];decide,by rw[G]⟩⟩;clear V BC h hA hP hs G HG;generalize rX w (bq M P) (aS P)=Q at *;rw[h0] at af ⊢;clear W h0 zA;go_in;go_wp2_with fail
  go_ret3
  exact HF.out
 ·obtain⟨k,hk⟩:∃k,P.length=k+1:=⟨P.length-1,by omega⟩
  have az:P≠[]:=λe=>by rw[e] at h0;simp at h0
  have hl:=V2 hk;have ax:=hP.init;rw[hk,ib] at ax;have HW:=ar (Ov h hA ax);have HD:Hid (∀x:Nat,(M x).K≠0->∀wx,ay [] w wx->Calls prog 182 #[b,(x:Int)] wx (wV wx (nT T x))):=λx hx wx hk=>
   BM (h.keep0 hk) (hA.tree.rng hx) (hA.form x hx)
  have PJ:Hid ((iQ M 0 P.dropLast).2=0->(M (iQ M 0 P.dropLast).1).K≠0):=λhe=>(C8 hA.tree P.dropLast 0 (by rw[hA.tree.root];omega) he).1
  have ac:Hid (∀x,(nT T x).K=(M x).K):=λx=>(hA.kind x).symm
  have PH:Hid ((iQ M 0 P.dropLast).2≠0->(iQ M 0 P.dropLast).1=0):=Ou _ _;obtain⟨aF,off,rfl,c0⟩:=zA.out k (by omega);have Mo:Hid (∀wx,ay [] w wx->wx.cell? ⟨g,off+k,none⟩=some (.string (aS P))):=λwx zV=>by
   rw[hl];exact(aO (w:=w) (a:=⟨g,off+k,none⟩) (zV.block g aF (by simp))).trans c0
  have aj:Hid (∀w',ay [] w w'->bq M P=(0,1)->rX w (bq M P) (aS P) (.returned (.tuple #[(0:Int),.string ⟨#[]⟩,(1:Int)])) w'):=λw' uN G=>⟨uN,.inr ⟨by rw[G];decide,by rw[G]⟩⟩
  have U:Hid (∀w' r,ay [] w w'->(bq M P).2=r->r≠0->rX w (bq M P) (aS P) (.returned (.tuple #[(0:Int),.string ⟨#[]⟩,(r:Int)])) w'):=λw' r uN G hn=>⟨uN,.inr ⟨by rw[G];exact hn,by rw[G]⟩⟩
  have Rw:Hid (∀w' (x:Nat) nm,ay [] w w'->bq M P=(x,0)->nm=aS P->rX w (bq M P) (aS P) (.returned (.tuple #[(x:Int),.string nm,(0:Int)])) w'):=λw' x nm uN G hn=>⟨uN,.inl ⟨by rw[G],by rw[G,hn]⟩⟩
  have WX:=ar az;rw[hk] at af HG ⊢;unfold maxLen at aB;have aG:(((k+1:Nat):Int)==0)=false:=by simp;omega
  have rG:=dz;clear h hA hP hs ax hl c0 h0 az zA;generalize rX w (bq M P) (aS P)=Q at *;generalize bq M P=R,iQ M 0 P.dropLast=S,aS P=ln,av:aM cg (.slice none 0 0)=Z0 at *;have jt:=ar av;have Fh:Hid (Z0.size=18):=by show _=_;rw[<-av];rfl
  clear av;cases hgd:mj P with
  |false=>
   rw[hgd] at HG;have G:R=(0,1):=by
    rcases V.out with z|z|z
    ·exact z.2
    ·exact z.2.2
    ·rw[hgd] at z;cases z.2.1
   have HF:=ar (aj.out w (ay.refl _ _) G);clear hgd G V aj U Rw HW HD PJ ac PH Mo BC WX;go_in;go_wp2_with fail;refine C' HG.out ?_;go_wp2_with fail
   go_ret3
   exact HF.out
  |true=>
   rw[hgd] at HG;have HC:Hid ((S.2≠0/\R=S)\/(S.2=0/\(M S.1).K≠2/\R=(0,4))\/(S.2=0/\(M S.1).K=2/\R=S)):=by
    rcases V.out with z|z|z
    ·exact absurd z.1 WX.out
    ·rw[hgd] at z;cases z.2.1
    ·exact z.2.2
   obtain⟨x,ee⟩:=S;have aL:IntKind.i64.wrap (k:Int)=(k:Int):=by rw[cz];omega
   have aJ:(0:Int)<=(k:Int):=by omega
   have aI:(k:Int)<=(cap:Int):=by omega
   have aH:(k:Int)<((k+1:Nat):Int):=by omega
   have aN:(k:Int)<(k:Int)+1:=by omega
   clear hgd V aj BC WX;go_in;go_wp2_with fail;refine C' HG.out ?_;go_wp2_with fail;refine Rr HW.out λw1 aC=> ?_;have jK:=ar aC;clear aC HW HG;by_cases he:ee=0
   ·subst he
    have ak:=ar (HD.out x (PJ.out rfl) w1 jK.out);have ae:=ac.out x;clear HD PJ ac PH;generalize nT T x=n at *;go_wp2_with fail;refine ak.out.mono ?_;rintro e w2 ⟨aa,⟨hK,v,g1,rfl,hB,hE,aD⟩|⟨hK,rfl⟩⟩
    ·obtain⟨w3,p1,p2,p3⟩:=cu (n:=n) (v:=v) (bh.new w2 Z0 111) Fh.out hB hE.one
     have py:=ar p1;have V3:ay [] w w3:=(jK.out.trans' aa).trans (((ay.refl [] w2).alloc _).trans p3 (by intro x hx;rw[au] at hx;omega)) (by simp);have aA:Hid (∀J,ay [] w3 J->J.cell? ⟨g,off+k,none⟩=some (.string ln)):=λJ hz=>Mo.out J (V3.trans' hz)
     have G:R=(x,0):=by
      rcases HC.out with z|z|z
      ·exact absurd rfl z.1
      ·exact absurd (ae.symm.trans hK) z.2.1
      ·exact z.2.2
     have HF:Hid (∀J,ay [] w3 J->Q (.returned (.tuple #[(x:Int),.string ln,(0:Int)])) J):=λJ hz=>Rw.out J x ln (V3.trans' hz) G rfl
     clear p1 p2 p3 V3 aa hE hB aD G HC Rw U Mo ae hK ak;generalize aM n v=ZN at *;go_wp2_with(first|(with_reducible refine gS 111 py.out ?_));refine jy (S:=λJ=>ay [] w3 J) ((ay.refl _ _).drew) ?_;repeat (first
      |(refine aU.cons ?_ (bR.val rfl ?h) ?_;(case h=>(intro J hz;have q0:=aA.out J hz;clear hz;go_simp;rfl));simp only[Act.put,ag,ah,ai]))
     refine aU.done λJ hz=> ?_
     have Qy:=ar (HF.out J hz);clear hz aA HF;go_wp2_with fail
     go_ret3
     exact Qy.out
    ·obtain⟨w3,p1,p2,p3⟩:=cu (n:=cg) (v:= .slice none 0 0) (bh.new w2 Z0 111) Fh.out rfl rfl
     have py:=ar p1;have V3:ay [] w w3:=(jK.out.trans' aa).trans (((ay.refl [] w2).alloc _).trans p3 (by intro x hx;rw[au] at hx;omega)) (by simp);have G:R=(0,4):=by
      rcases HC.out with z|z|z
      ·exact absurd rfl z.1
      ·exact z.2.2
      ·exact absurd (ae.trans z.2.1) hK
     have HF:=ar (U.out w3 4 V3 (by rw[G]) (by omega));clear p1 p2 p3 V3 aa G HC Rw U Mo ae hK ak;go_wp2_with(first|(with_reducible refine gS 111 py.out ?_))
     go_ret3
     exact HF.out
   ·have G:R.2=ee:=by
     rcases HC.out with z|z|z
     ·rw[z.2]
     ·exact absurd z.1 he
     ·exact absurd z.1 he
    have HF:=ar (U.out w1 ee jK.out G he);have aK:(ee==0)=false:=by simpa using he
    clear G HC Rw U Mo HD PJ ac PH he;go_wp2_with fail
    go_ret3
    exact HF.out
end
section
variable{w:World}{a b c d g gp u:Nat}{B:List Int}{ps:List (Int×Int)}{T:List (bT×Value)}{own:Nat->List Nat}{r:mM}{Z h tmps:Array Value}{ex:List Nat}{M:Nat->Nd}{n:bT}{v x y:Value}{P:Program}{fn:Func}{nm:ByteArray}{th:Bool}{i:Int}
end
section
variable{w:World}{a b c d g gp u:Nat}{B:List Int}{ps:List (Int×Int)}{T:List (bT×Value)}{own:Nat->List Nat}{r:mM}{Z h tmps:Array Value}{ex:List Nat}{M:Nat->Nd}{n:bT}{v x y:Value}{P:Program}{fn:Func}{nm:ByteArray}{th:Bool}{i:Int}
def zI (r:mM) (vd h:Value):Array Value:= #[.int .i64 r.E,.int .i64 r.N,.int .i64 r.K,.int .i64 r.L,.int .i64 r.I,vd,h]
def Ji (w:World) (r:mM) (Z:Array Value):Prop:=∃vd h,Z=zI r vd h/\(∃g,Reads w vd g (kT r.D))/\∃g,bD w h g r.S
theorem Ji.size(h:Ji w r Z):Z.size=7:=by
 obtain⟨vd,z,rfl,-⟩:=h;rfl
theorem Ji.one(h:Ji w r Z):∀u∈Z.toList,u.oneCell'=true:=by
 obtain⟨vd,U,rfl,⟨V,G⟩,W,J⟩:=h;intro u z;have z:u∈[Value.int .i64 r.E,.int .i64 r.N,.int .i64 r.K,.int .i64 r.L,.int .i64 r.I,vd,U]:=z;simp only[aL,aK,bC] at z;rcases z with rfl|rfl|rfl|rfl|rfl|rfl|rfl
 ·rfl
 ·rfl
 ·rfl
 ·rfl
 ·rfl
 ·exact Rt G
 ·exact J.one
abbrev vS (g:Nat) (Z:Array Value) (Q:Ending->World->Prop) (w:World):Prop:=
 ∃h,(storeVar 34 g (.agg Z)).run prog w= .ok () h/\(loadVar 34 g).run prog h= .ok (.agg Z) h/\Q (.returned Z) h
theorem Fl:(prog.info? 34).map (·.size)=some 7:=by kernel_rfl
theorem zo{G:World}{T:Nat}(J:bh w g Z T)(z:Ji G r Z):(loadVar 34 g).run prog w= .ok (.agg Z) w:=by
 have h:=z.size;obtain⟨l⟩:=Z;simp only[bN] at h;exact b7 g 0 l underlying34 rfl (by rw[h];exact Fl) λj _=>by
  rw[J.cell,bc,aF]
theorem BU{J:World}(U:bh w g h 34)(V:h.size=7)(G:Ji J r Z):
  ∃w',(storeVar 34 g (.agg Z)).run prog w= .ok () w'/\bh w' g Z 34/\ay [g] w w':=by
 have W:=G.one;have z:=G.size;obtain⟨l⟩:=Z;simp only[bN] at z;exact bH (P:= prog) (ty:= 34) (cs:=l) (by rw[z];exact Fl) U (by rw[V,z]) W
theorem l6 (w:World):(zeroValue 34).run prog w= .ok (.agg (zI fy (.slice none 0 0) (.slice none 0 0))) w:=by kernel_rfl
theorem tS (w:World)(g:Nat):Reads w (.slice none 0 0) g (kT []):=⟨none,0,rfl,by simp[kT],by simp[maxLen],λh=>absurd rfl h⟩
theorem Zz (w:World){r:mM}(z:r.D=[])(h:r.S=[]):Ji w r (zI r (.slice none 0 0) (.slice none 0 0)):=⟨_,_,rfl,⟨0,by rw[z];exact tS w 0⟩,0,by rw[h];exact bD.nil w 0⟩
def BV (o:jB) (h vq vd:Value):Array Value:= #[.int .i64 o.K,h,vq,.int .i64 o.O,.int .i64 o.N,vd]
theorem Rx (n:bT){v:Value}{g:Nat}{A M B:List (ByteArray×Int)}{nm:ByteArray}(hB:n.B.length=13)(hE:bD w v g n.E)(hs:iP n.E A M B nm)(YR:n.E.length<=500):
  Calls prog 178 #[aM n v,.string nm] w (vK w n (A++B)):=by
 have Mi:=hs.newLen 0;obtain⟨L,hL⟩:∃L,A++B=L:=⟨_,rfl⟩;rw[hL] at Mi ⊢;have HL:=ar hL;have ax:(aM cg (.slice none 0 0)).size=18:=rfl;have aV:=dz;have aj:=(bh.new w (aM n v) 111).alloc (.cells (aM cg (.slice none 0 0)) 111);have af:=bh.new (w.alloc (.cells (aM n v) 111)) (aM cg (.slice none 0 0)) 111;rw[show(w.alloc (.cells (aM n v) 111)).heap.size=w.heap.size+1 by simp] at af;have ae:ay [] w ((w.alloc (.cells (aM n v) 111)).alloc (.cells (aM cg (.slice none 0 0)) 111)):=((ay.refl [] w).alloc _).alloc _;have aH:=Ka (hE.keep ae (by simp)) hs (by omega);have IA:Hid (L.length<=1000):=by show _<=_;omega
 have aL:=gG v hB;have aa:∀u:Value,u.oneCell'=true->∀x∈na (lA n L) u,x.oneCell'=true:=λu hu=>kY hu
 have YW:=ar aa;have aD:Hid (∀J a c,Calls prog 186 #[aM n v,.slice a L.length c] J λe w'=>e=aM (lA n L) (.slice a L.length c)/\ay [] J w'):=λJ a c=>Ke n v hB L _ rfl
 have aK:∀u,(na (lA n L) u).length=18:=λu=>by rw[gM];show n.B.length+5=18;omega
 have Ex:=ar aK;obtain⟨a,cap,rfl,aB,aO,-⟩:=hE.open;have ak:=aL.f5;have aT:Hid (∀J,bh J w.heap.size (aM n (.slice a n.E.length cap)) 111->(loadVar 111 w.heap.size).run prog J= .ok (.agg (aM n (.slice a n.E.length cap))) J):=λJ hb=>b9 hb hB
 generalize aM cg (.slice none 0 0)=Z0,aM n (.slice a n.E.length cap)=Z at *;have aP:((w.alloc (.cells Z 111)).alloc (.cells Z0 111)).cell? ⟨w.heap.size,17,none⟩=some (.slice a n.E.length cap):=by rw[aj.cell];exact ak
 obtain⟨av,qa,oQ,fx,H0⟩:=hh5 aH aj af ae ax;clear aH aj af ae aL aa aK ax hE hs Mi YR ak hB aB aO hL;go_in;go_wp2_with fail;refine av.out.mono ?_;rintro e V ⟨x,y,rfl,hx,hy,G⟩;obtain⟨a1,c1,aQ,-,-,-⟩:=hx.open;obtain⟨a2,c2,aU,-,-,-⟩:=hy.open;subst aQ aU;have aA:w.heap.size+2<=V.heap.size:=by have :=G.size;simp at this;omega
 obtain⟨aG,qa,oQ,oI,HX,HY⟩:=hh6 aA (qa.out.keep G (by simp)) (oQ.out.keep G (by simp)) (fx.out.trans' G) (hx.keep G (by simp)) (hy.keep G (by simp));clear hx hy G av aA aP;go_wp2_with fail;refine kA (S:=λJ=>ay [w.heap.size+1] V J) [0,1,2] [3,4,5,6] (l:=[_,_,_]) (tl:=[_,_,_,_]) (by kernel_rfl) (by kernel_rfl) (by kernel_rfl) (by kernel_rfl) rfl rfl rfl rfl rfl (λd _ _ _ _ h=>by cases d<;>exact h) (ay.refl _ _).drew ?_;refine cT.cons _ (YieldsIf.load rfl 111 (.tmp 2) rfl _ rfl λJ hx=>aT.out J (qa.out.keep hx (by simp))) ?_;simp only[Act.put,ag];refine cT.cons ?_ (YieldsIf.val rfl ?h) ?_;(case h=>(intro J hx;clear hx;go_simp;rfl));simp only[Act.put];refine cT.cons ?_ (YieldsIf.val rfl ?h) ?_;(case h=>(intro J hx;clear hx;go_simp;rfl));simp only[Act.put];refine cT.done ?_;unfold gH;go_wp2_with fail;refine⟨((ay.refl _ _).drew).alloc _,?_⟩;unfold gH;have kR:ay [] V ((V.alloc (.cells #[.slice a1 A.length c1,.slice a2 B.length c2] 32)).drew):=((ay.refl _ _).alloc _).drew;have tY:bh ((V.alloc (.cells #[.slice a1 A.length c1,.slice a2 B.length c2] 32)).drew) V.heap.size ([.slice a1 A.length c1,.slice a2 B.length c2]:List Value).toArray 32 :=(bh.new V #[.slice a1 A.length c1,.slice a2 B.length c2] 32).drew;have ac:[A,B].flatten=L:=by rw[<-HL.out];simp
 have aN:=HX.out.keep kR (by simp);have az:=HY.out.keep kR (by simp);have U:=Ha (Ls:=[A,B]) tY rfl (by simp)
  (ag3 (P:=λj=>∃g,bD ((V.alloc (.cells #[.slice a1 A.length c1,.slice a2 B.length c2] 32)).drew) (([.slice a1 A.length c1,.slice a2 B.length c2]:List Value).getD j (.slice none 0 0)) g ([A,B].getD j [])) ⟨g,aN⟩ ⟨g,az⟩)
  (by rw[ac];exact IA.out)
 rw[ac] at U;obtain⟨NK,qR⟩:=hh2 U kR;clear U kR tY ac aN az;go_wp2_with fail;refine NK.out.mono ?_;rintro e w6 ⟨u,gu,rfl,hu,aJ,jW⟩;obtain⟨W,c6,aR,-,-,-⟩:=hu.open;subst aR;obtain⟨tX,HU⟩:=hh2 (qR.out.trans' jW) hu;have aC:Hid (V.heap.size<=gu):=cE qR.out.size aJ;clear hu aJ jW NK qR;obtain⟨HV,YX,Q8⟩:=hh3 (aD.out w6 W c6) (YW.out (.slice W L.length c6) rfl) (Ex.out (.slice W L.length c6));have Sw:Hid (aM (lA n L) (.slice W L.length c6)=(na (lA n L) (.slice W L.length c6)).toArray):=rfl;have Nf:Hid (∀w',bD w' (.slice W L.length c6) gu L->ay [] w w'->vK w n L (.returned (aM (lA n L) (.slice W L.length c6))) w'):=λw' h1 h2=>⟨_,gu,rfl,h1,by have :=aC.out;have :=aG.out;omega,h2⟩
 clear YW Ex aD;generalize aM (lA n L) (.slice W L.length c6)=Z6,na (lA n L) (.slice W L.length c6)=ZL at *;generalize L.length=m at *;go_wp2_with fail;refine⟨tX.out.mono (by simp),?_⟩;unfold gH;go_wp2_with fail;refine Rr HV.out λw7 yl=> ?_;obtain⟨J3,aS⟩:=hh2 (tX.out.trans' yl) (HU.out.keep yl (by simp));obtain⟨w8,q1,q2,q3⟩:=bH (P:= prog) (ty:= 111) (cs:=ZL) (by rw[Q8.out];exact iZ) (oQ.out.keep J3.out (by simp)) (by rw[Q8.out];exact H0.out) YX.out;rw[<-Sw.out] at q1;have HS:=ar q1;have I0:Hid ((loadVar 111 (w.heap.size+1:Nat)).run prog w8= .ok (.agg Z6) w8):=by
  rw[Sw.out];exact b7 _ 0 ZL underlying111 rfl (by rw[Q8.out];exact iZ) λj _=>by rw[q2.cell,bc,aF]
 have Yi:=ar ((J3.out.mono (l':=[w.heap.size+1]) (by simp)).trans' q3);have HF:=ar (Nf.out w8 (aS.out.keep q3 (by have :=aC.out;have :=aG.out;intro _ h;rw[au] at h;omega)) (oI.out.trans Yi.out (by intro z hz;rw[au] at hz;omega)));clear q1 q2 q3 yl HV Nf;go_wp2_with fail;refine⟨J3.out.mono (by simp),?_⟩;unfold gH;refine qh rfl 111 (.tmp 4) (.tmp 19) rfl ⟨w.heap.size+1,0,none⟩ rfl (.agg Z6) rfl w8 HS.out ?_;go_wp2_with fail;refine⟨Yi.out,?_⟩;unfold gH;go_wp2_with fail;exact aI (bA results178 rfl I0.out) rfl HF.out
structure rB (w:World) (b gp:Nat) (B:List Int) (ps:List (Int×Int)) (T:List (bT×Value)) (own:Nat->List Nat) (ex:List Nat) (M:Nat->Nd):Prop where
 sh:eK w b gp B ps
 nd:nM (az B ps) T own ex M
 lt:b<w.heap.size/\gp<w.heap.size
 tab:∀wx,ay [b,gp] w wx->lD wx
section
variable {w w':World} {b gp gI:Nat} {B:List Int} {ps qs:List (Int×Int)} {T T':List (bT×Value)} {own cW:Nat->List Nat} {ex ex':List Nat} {M M':Nat->Nd}
theorem rB.keep0(h:rB w b gp B ps T own ex M)(z:ay [] w w'):rB w' b gp B ps T own ex M:=
 ⟨h.sh.keep z (by simp) (by simp),h.nd,by have :=z.size;have :=h.lt;omega,λG J=>h.tab G ((z.mono (by simp)).trans' J)⟩
theorem rB.shT(h:rB w b gp B ps T own ex M):gU w b gp B ps T own:=⟨h.sh,h.nd.st.w64,h.nd.st.gots,h.lt⟩
theorem rB.shS(h:rB w b gp B ps T own ex M):tM w b gp B ps T own:=⟨h.shT,h.nd.st.sup⟩
theorem rB.go(h:rB w b gp B ps T own ex M)(V:eK w' b gI B (ps++qs))(G:ay [b,gp] w w')(W:gI=gp\/(w.heap.size<=gI/\gI<w'.heap.size))(U:nM (az (az B ps) qs) T' cW ex' M'):rB w' b gI B (ps++qs) T' cW ex' M':=
 ⟨V,by rw[bz];exact U,by have :=G.size;have :=h.lt;omega,λJ z=>h.tab J (G.trans z λx z=>by
  simp only[aL,aK,bC] at z ⊢;omega)⟩
def Tm (w:World) (n:bT) (e:Ending) (w':World):Prop:=
 ∃v g h,e= .returned (.tuple #[aM n v,h,(0:Int)])/\bD w' v g n.E/\w.heap.size<=g/\ay [] w w'
theorem rB.get(h:rB w b gp B ps T own ex M){i:Nat}(J:(M i).K≠0):Calls prog 97 #[b,(i:Int)] w (Tm w (nT T i)):=by
 have G:=h.nd.store J;have hF:(nT T i).F≠0:=by rcases G.right.1 with U|U<;>omega
 refine(h.shT.get (h.nd.rng J)).mono ?_;rintro e w1 ⟨v,g,W,ga,r,rfl,hB,V,hg,-,-,z,hr⟩;have LG:r=0:=by omega
 subst LG;exact⟨v,g,W,rfl,V,hg,z⟩
theorem rB.put(h:rB w b gp B ps T own ex M)(aa:ps.length<=600000)(i:Nat){n:bT}{v:Value}{g:Nat}{R:Int->List (Int×Int)->Prop}(hB:n.B.length=13)(hN:∀k,k<n.E.length->(eX n.E k).size<=9223372036854775807)(V:∀r qs,nV (az B ps) (i:Int) n r qs->R r qs){G:World}(z:ay [] w G)(hE:bD G v g n.E)(hg:w.heap.size<=g):
  Calls prog 49 #[b,(i:Int),aM n v] G (λe w'=>cO w b gp B ps 700 R e w'/\ay [b,gp] G w'):=by
 have ac:=h.lt;refine(sG (h.sh.keep z (by simp) (by simp)) h.nd.st.w64 (λwy hy=>h.tab wy ((z.mono (by simp)).trans' hy)) (by have :=z.size;omega) (by omega) (i:Int) n v g hB hE hN (λ_=>by omega)).mono ?_;rintro e w1 ⟨r,qs,gI,U,h2,W,J,h5,h6⟩;exact⟨⟨r,qs,gI,U,by have :=z.size;omega,W,(z.mono (by simp)).trans' J,h5,V r qs h6⟩,J⟩
theorem OQ {E:List (ByteArray×Int)}(h:Jh E):∀k,k<E.length->(eX E k).size<=9223372036854775807:=λk z=>by
 have J:=(Tj h k z).1;have G:=oO J;rw[mA] at G;omega
end
theorem bh.new2(w:World)(c:Array Value)(T:Nat)(h:Array Value)(z:Nat):bh ((w.alloc (.cells c T)).alloc (.cells h z)) (w.heap.size+1) h z:=by
 have :=bh.new (w.alloc (.cells c T)) h z;rwa[aX] at this
def cA (b:Nat) (o:jB) (h vq vd:Value):Array Value:= #[.pointer (some ⟨b,0,none⟩),.int .i64 o.K,h,vq,.int .i64 o.O,.int .i64 o.N,vd]
def cG (d:Nat) (nm:ByteArray) (th:Bool) (i:Int):Array Value:= #[.int .i64 (d:Int),.string nm,.bool th,.int .i64 i]
theorem ZF:(prog.info? 79).map (·.size)=some 7:=by kernel_rfl
theorem Ks:(prog.info? 165).map (·.size)=some 4:=by kernel_rfl
theorem eD{z x:Nat}(G:b<w.heap.size/\z<w.heap.size)(h:w.heap.size<=x):x∉[b,z]:=by
 simp only[aL,aK,bC];omega
theorem OS{V:Nat}(h:rB w b V B ps T own ex M)(aj:ps.length<=600000)(o:jB)(vp vq vd:Value){d:Nat}(hK:(M d).K=2)(nm:ByteArray)(th:Bool)(i:Int):
  Calls prog 153 #[cA b o vp vq vd,cG d nm th i] w (cO w b V B ps 700 (AL (az B ps) ex M d nm)):=by
 have BX:=h.nd.ed hK;have ae:=h.nd.ents d;obtain⟨A,N,E2,hs⟩:=lL BX.2.2 nm;have aa:=tI hs;have cJ:ay [] w ((w.alloc (.cells (cA b o vp vq vd) 79)).alloc (.cells (cG d nm th i) 165)):=((ay.refl _ _).alloc _).alloc _;have HG:=ar ((h.keep0 cJ).get (i:=d) (by omega));have W:=h.nd.store (i:=d) (by omega);have ax:=W.len;have LU:Hid (∀z v g,ay [] w z->bD z v g (A++E2)->w.heap.size<=g->Calls prog 49 #[b,(d:Int),aM (lA (nT T d) (A++E2)) v] z (λe w'=>cO w b V B ps 700 (AL (az B ps) ex M d nm) e w'/\ay [b,V] z w')):=λz v g hk hE hg=>
  h.put aj d (n:=lA (nT T d) (A++E2)) W.len (by rw[<-aa];exact OQ (Zl BX nm)) (λr qs hp=>h.nd.leave hK (by rw[aa];exact hp)) hk hE hg
 have aD:Hid (∀z v g,bD z v g (nT T d).E->Calls prog 178 #[aM (nT T d) v,.string nm] z (vK z (nT T d) (A++E2))):=λz v g hE=>Rx (nT T d) W.len hE (by rw[ae];exact hs) (by rw[ae];have :=BX.1;omega)
 obtain⟨fI,EX⟩:=hh2 cJ h.lt;have IB:Hid (∀e z,cO w b V B ps 700 (AL (az B ps) ex M d nm) e z->∃r,e=(r:Int)/\cO w b V B ps 700 (AL (az B ps) ex M d nm) e z):=λe z hh=>by
  obtain⟨r,qs,gI,h1,-⟩:=id hh;exact⟨r,h1,hh⟩
 have HJ:Hid (bh ((w.alloc (.cells (cA b o vp vq vd) 79)).alloc (.cells (cG d nm th i) 165)) w.heap.size (cA b o vp vq vd) 79/\bh ((w.alloc (.cells (cA b o vp vq vd) 79)).alloc (.cells (cG d nm th i) 165)) (w.heap.size+1) (cG d nm th i) 165):=⟨(bh.new w _ _).alloc _,bh.new2 w _ _ _ _⟩;have rG:=dz;clear h BX ae aa W hs aj hK cJ;generalize cO w b V B ps 700 (AL (az B ps) ex M d nm)=Q,hn:nT T d=n,aB:aM cg (.slice none 0 0)=Z0 at *;have Fh:Hid (Z0.size=18):=by show _=_;rw[<-aB];rfl
 clear aB hn;generalize A++E2=E' at *;unfold cA cG at *;generalize (d:Int)=di at *;go_in;go_wp2_with fail;refine HG.out.mono ?_;rintro e w1 ⟨v,g,va,rfl,hE,hg,G⟩;obtain⟨J,p1,p2,p3⟩:=cu (n:=n) (v:=v) (bh.new w1 Z0 111) Fh.out ax hE.one;have aA:=G.size;have aG:w.heap.size+2<=w1.heap.size:=by rw[aX,aX] at aA;omega
 have eV:ay [] w1 J:=((ay.refl _ _).alloc _).trans p3 (by intro x hx;rw[au] at hx;omega);have av:ay [] w J:=fI.out.trans' (G.trans' eV);have jz:=ar p1;have Mn:bD J v g n.E:=hE.keep eV (by simp);have WO:=HJ.out.1.keep (G.trans' eV) (by simp);have ac:=HJ.out.2.keep (G.trans' eV) (by simp);have HC:Hid (∀U,ay [b,V] J U->U.cell? w.heap.size=some (.pointer (some ⟨b,0,none⟩))/\U.cell? (w.heap.size+1:Nat)=some (.int .i64 di)/\U.cell? ⟨w.heap.size+1,1,none⟩=some (.string nm)/\(loadVar 111 w1.heap.size).run prog U= .ok (.agg (aM n v)) U):=λU hz=>
  ⟨by rw[(WO.keep hz (eD EX.out (by omega))).cell];rfl,by rw[(ac.keep hz (eD EX.out (by omega))).cell];rfl,by rw[(ac.keep hz (eD EX.out (by omega))).cell];rfl,b9 (p2.keep hz (eD EX.out (by omega))) ax⟩
 obtain⟨af,fx⟩:=hh2 (aD.out J.drew v g (Mn.keep ((ay.refl [] J).drew) (by simp))) av;clear p1 p2 p3 av Mn hE hg G eV HG WO ac HJ fI aA aG aD;go_wp2_with(first|(with_reducible refine gS 111 jz.out ?_));refine kA (S:=λz=>ay [b,V] J z) [0,1,2,3,4,5,6] [7,8,9] (l:=[_,_,_,_,_,_,_]) (tl:=[_,_,_]) (by kernel_rfl) (by kernel_rfl) (by kernel_rfl) (by kernel_rfl) rfl rfl rfl rfl rfl (λd _ _ _ _ h=>by cases d<;>exact h) (ay.refl _ _).drew ?_;simp only[iB,iM,iN];repeat (
  (first
  |(refine cT.cons (.agg (aM n v)) (YieldsIf.load rfl 111 _ rfl _ rfl λU hz=>(HC.out _ hz).2.2.2) ?_)
  |(refine cT.cons ?_ (YieldsIf.val rfl ?h) ?_;(case h=>(intro U hz;obtain⟨q0,q1,q2,-⟩:=HC.out U hz;clear hz;go_simp;rfl))));simp only[Act.put,ag,ah,ai])
 refine cT.done ?_;unfold gH;go_wp2_with fail;refine af.out.mono ?_;rintro e w3 ⟨u,g3,rfl,ZG,aF,ak⟩;have nE:ay [] J w3:=((ay.refl [] J).drew).trans' ak;have Cm:=ar (LU.out w3 u g3 (fx.out.trans' nE) ZG (by have :=fx.out.size;have :=((ay.refl [] J).drew).size;omega));have oI:Hid (ay [b,V] J w3):=nE.mono (by simp);clear nE ak ZG aF af LU;go_wp2_with fail;refine⟨oI.out,?_⟩;unfold gH;go_wp2_with fail;refine Cm.out.mono ?_;rintro e w4 ⟨hq,aC⟩;obtain⟨r,rfl,hq⟩:=IB.out _ _ hq;obtain⟨HF,qb⟩:=hh2 hq (oI.out.trans' aC);clear hq aC;go_wp2_with fail;refine⟨qb.out,?_⟩;unfold gH;go_wp2_with fail;refine⟨qb.out,?_⟩;unfold gH;go_wp2_with fail
 first|exact HF.out|(go_ret;exact HF.out)
theorem Tn{T:Nat}(h:bh w g (aM n v) T)(x:Int):bh (w.setCell ⟨g,2,none⟩ (.int .i64 x)) g (aM { n with L:=x } v) T:=h.set 2 (.int .i64 x)
theorem zq (h:n.B.length=13):(aM n v).size=18:=by rw[aM,bN,gM,h]
theorem Kt (h:rB w b gp B ps T own ex M)(ah:ps.length<=600000)(o:jB)(vp vq vd:Value){i:Nat}(hK:(M i).K≠0)(hL:1<=(M i).L):
  Calls prog 154 #[cA b o vp vq vd,(i:Int)] w (cO w b gp B ps 700 (rY (az B ps) ex M i)):=by
 have cJ:ay [] w (w.alloc (.cells (cA b o vp vq vd) 79)):=(ay.refl _ _).alloc _;have HG:=ar ((h.keep0 cJ).get hK);have J:=h.nd.store hK;have ae:=J.len;have hl:=h.nd.links i;have ai:=J.right.2.1;have LU:Hid (1<(M i).L->∀z v g,ay [] w z->bD z v g (nT T i).E->w.heap.size<=g->Calls prog 49 #[b,(i:Int),.agg (aM { nT T i with L:=(M i).L-1 } v)] z (λe w'=>cO w b gp B ps 700 (rY (az B ps) ex M i) e w'/\ay [b,gp] z w')):=λav z v g hk hE hg=>
  h.put ah i (n:={ nT T i with L:=(M i).L-1 }) J.len (show ∀k,k<(nT T i).E.length->(eX (nT T i).E k).size<=9223372036854775807 from yr J.right) (λr qs hp=>h.nd.unlinkPut hK av hp) hk hE hg
 have ag:Hid ((M i).L=1->∀z,ay [] w z->Calls prog 179 #[b,(i:Int)] z (cO w b gp B ps 700 (rY (az B ps) ex M i))):=λh1 z hk=>by
  have aB:=h.lt;refine(abT (h.sh.keep hk (by simp) (by simp)) h.nd.st.w64 (by have :=hk.size;omega) (by omega) (i:Int)).mono ?_;rintro e V ⟨r,qs,gI,h2,h3,h4,h5,h6,h7⟩;exact⟨r,qs,gI,h2,by have :=hk.size;omega,h4,(hk.mono (by simp)).trans' h5,h6,h.nd.unlinkDrop hK h1 h7⟩
 have fI:=ar cJ;have IB:Hid (∀e z,cO w b gp B ps 700 (rY (az B ps) ex M i) e z->∃r,e=(r:Int)/\cO w b gp B ps 700 (rY (az B ps) ex M i) e z):=λe z hh=>by
  obtain⟨r,qs,gI,h1,-⟩:=id hh;exact⟨r,h1,hh⟩
 have HJ:Hid (bh (w.alloc (.cells (cA b o vp vq vd) 79)) w.heap.size (cA b o vp vq vd) 79):=bh.new w _ _;have rG:=dz;clear h J ah hK cJ;generalize cO w b gp B ps 700 (rY (az B ps) ex M i)=Q,hn:nT T i=n,ax:(M i).L=l0,ak:aM cg (.slice none 0 0)=Z0 at *;have Fh:Hid (Z0.size=18):=by show _=_;rw[<-ak];rfl
 clear ak hn ax;unfold cA at *;generalize (i:Int)=di at *;obtain⟨G,Cr⟩:∃G,l0-1=G:=⟨_,rfl⟩;have aA:IntKind.i64.wrap G=G:=by rw[cz];omega
 rw[Cr] at LU;go_in;go_wp2_with fail;refine HG.out.mono ?_;rintro e V ⟨v,g,va,rfl,hE,hg,U⟩;obtain⟨w2,p1,p2,p3⟩:=cu (n:=n) (v:=v) (bh.new V Z0 111) Fh.out ae hE.one;have af:=U.size;have aj:w.heap.size+1<=V.heap.size:=by rw[aX] at af;omega
 have eV:ay [] V w2:=((ay.refl _ _).alloc _).trans p3 (by intro x hx;rw[au] at hx;omega);have jz:=ar p1;have p5:=Tn p2 G;have nE:ay [] V (w2.setCell ⟨V.heap.size,2,none⟩ (.int .i64 G)):=eV.setCell (.inr (aH _)) _;have aa:ay [] w (w2.setCell ⟨V.heap.size,2,none⟩ (.int .i64 G)):=fI.out.trans' (U.trans' nE);have ZG:bD (w2.setCell ⟨V.heap.size,2,none⟩ (.int .i64 G)) v g n.E:=hE.keep nE (by simp);have c1:w2.cell? ⟨V.heap.size,2,none⟩=some (.int .i64 l0):=by rw[p2.cell,<-hl];exact(gG v ae).f2
 have ac:=b9 p5 ae;have c2:(w2.setCell ⟨V.heap.size,2,none⟩ (.int .i64 G)).cell? w.heap.size=some (.pointer (some ⟨b,0,none⟩)):=by
  rw[((HJ.out.keep U (by simp)).keep nE (by simp)).cell];rfl
 obtain⟨vE,mZ⟩:=hh2 ac p2;by_cases h1:l0=1
 ·have HD:=ar (ag.out h1 _ aa)
  have b1:decide (G<1)=true:=bu (by omega);clear h1 hL hl ai;clear p1 p2 p3 p5 aa nE ZG hE hg U eV HG HJ fI af aj LU ag ac vE;have pq:=mZ.out.frozen;go_wp2_with(first|(with_reducible refine gS 111 jz.out ?_));refine HD.out.mono ?_;intro e w4 W;obtain⟨r,rfl,W⟩:=IB.out _ _ W;have HF:=ar W;clear W;go_wp2_with fail
  first|exact HF.out|(go_ret;exact HF.out)
 ·have Cm:=ar (LU.out (by omega) _ v g aa ZG (by rw[aX] at hg;omega))
  have b1:decide (G<1)=false:=aQ (by omega);clear p1 p2 p3 p5 aa nE ZG hE hg U eV HG HJ fI af aj LU ag ac;have pq:=mZ.out.frozen;generalize aM { n with L:=G } v=Z3 at *;clear h1 hL hl ai;go_wp2_with(with_reducible first|refine gS 111 jz.out ?_|refine gL 111 vE.out ?_);refine Cm.out.mono ?_;rintro e w4 ⟨W,-⟩;obtain⟨r,rfl,W⟩:=IB.out _ _ W;have HF:=ar W;clear W;go_wp2_with fail
  first|exact HF.out|(go_ret;exact HF.out)
theorem H9 (h:rB w b gp B ps T own ex M)(aB:ps.length<=600000)(o:jB)(vp vq vd:Value){d:Nat}(hK:(M d).K=2){nm:ByteArray}(hn:iy (bl nm)=true)(th:Bool)(i0:Int){i:Int}(hi:0<=i/\i<32):
  Calls prog 118 #[cA b o vp vq vd,cG d nm th i0,i] w (cO w b gp B ps 700 (tN (az B ps) ex M d nm i)):=by
 have BX:=h.nd.ed hK;have aj:=h.nd.ents d;obtain⟨A,N,E2,hs⟩:=lL BX.2.2 nm;have ah:=AK hs i;have cJ:ay [] w ((w.alloc (.cells (cA b o vp vq vd) 79)).alloc (.cells (cG d nm th i0) 165)):=((ay.refl _ _).alloc _).alloc _;have HG:=ar ((h.keep0 cJ).get (i:=d) (by omega));have aa:=h.nd.store (i:=d) (by omega);have J:=aa.len;have LU:Hid ((A++([(nm,i)]++E2)).length<=24->∀z v g,ay [] w z->bD z v g (A++([(nm,i)]++E2))->w.heap.size<=g->Calls prog 49 #[b,(d:Int),aM (lA (nT T d) (A++([(nm,i)]++E2))) v] z (λe w'=>cO w b gp B ps 700 (tN (az B ps) ex M d nm i) e w'/\ay [b,gp] z w')):=λG z v g hk hE hg=>by
  rw[<-ah] at G hE ⊢;exact h.put aB d (n:=lA (nT T d) (wZ (M d).E nm i)) aa.len (OQ (Zo BX G hn hi)) (λr qs hp=>h.nd.enter hK hn hi G hp) hk hE hg
 have aD:Hid (∀z v g,bD z v g (nT T d).E->Calls prog 158 #[aM (nT T d) v,.agg #[.string nm,i]] z (vK z (nT T d) (A++([(nm,i)]++E2)))):=λz v g hE=>YV (nT T d) i aa.len hE (by rw[aj];exact hs) (by rw[aj];have :=BX.1;omega)
 obtain⟨fI,EX⟩:=hh2 cJ h.lt;have j6:Hid (∀z,ay [] w z->24<(A++([(nm,i)]++E2)).length->cO w b gp B ps 700 (tN (az B ps) ex M d nm i) (.returned (7:Int)) z):=λz hk aG=>cO.none h.sh hk (.inl ⟨rfl,rfl,.inl (by rw[ah];exact aG)⟩)
 have IB:Hid (∀e z,cO w b gp B ps 700 (tN (az B ps) ex M d nm i) e z->∃r,e=(r:Int)/\cO w b gp B ps 700 (tN (az B ps) ex M d nm i) e z):=λe z hh=>by
  obtain⟨r,qs,gI,h1,-⟩:=id hh;exact⟨r,h1,hh⟩
 have HJ:Hid (bh ((w.alloc (.cells (cA b o vp vq vd) 79)).alloc (.cells (cG d nm th i0) 165)) w.heap.size (cA b o vp vq vd) 79/\bh ((w.alloc (.cells (cA b o vp vq vd) 79)).alloc (.cells (cG d nm th i0) 165)) (w.heap.size+1) (cG d nm th i0) 165):=⟨(bh.new w _ _).alloc _,bh.new2 w _ _ _ _⟩;have rG:=dz;clear h BX aj ah aa hs aB hK cJ hi hn;generalize cO w b gp B ps 700 (tN (az B ps) ex M d nm i)=Q,hn:nT T d=n,aC:aM cg (.slice none 0 0)=Z0 at *;have Fh:Hid (Z0.size=18):=by show _=_;rw[<-aC];rfl
 clear aC hn;generalize A++([(nm,i)]++E2)=W at *;unfold cA cG at *;generalize (d:Int)=di at *;go_in;go_wp2_with fail;refine HG.out.mono ?_;rintro e w1 ⟨v,g,va,rfl,hE,hg,V⟩;obtain⟨w2,p1,p2,p3⟩:=cu (n:=n) (v:=v) (bh.new w1 Z0 111) Fh.out J hE.one;have av:=V.size;have aA:w.heap.size+2<=w1.heap.size:=by rw[aX,aX] at av;omega
 have eV:ay [] w1 w2:=((ay.refl _ _).alloc _).trans p3 (by intro x hx;rw[au] at hx;omega);have ax:ay [] w w2:=fI.out.trans' (V.trans' eV);have jz:=ar p1;have Mn:bD w2 v g n.E:=hE.keep eV (by simp);have WO:=HJ.out.1.keep (V.trans' eV) (by simp);have af:=HJ.out.2.keep (V.trans' eV) (by simp);have c1:w2.cell? ⟨w.heap.size+1,1,none⟩=some (.string nm):=by rw[af.cell];rfl
 obtain⟨rN,ag⟩:=hh2 (b9 p2 J) (aD.out w2 v g Mn);have mZ:Hid (bh w2 w1.heap.size (aM n v) 111/\(aM n v).size=18/\w1.heap.size<w2.heap.size):=⟨p2,zq J,by have :=p3.size;rw[aX] at this;omega⟩;have ae:Hid (bh w2 w.heap.size _ _/\bh w2 (w.heap.size+1) _ _):=⟨WO,af⟩;obtain⟨fx,XM⟩:=hh2 ax aA;clear p1 p2 p3 ax Mn hE hg V eV HG WO af HJ fI av aA aD;go_wp2_with(with_reducible first|refine gS 111 jz.out ?_|refine gL 111 rN.out ?_);refine ag.out.mono ?_;rintro e w3 ⟨u,g3,rfl,ZG,aF,ac⟩;obtain⟨w4,p1,p2,p3⟩:=cu (n:=lA n W) (v:=u) (mZ.out.1.keep ac (by simp)) mZ.out.2.1 J ZG.one;have U:ay [w1.heap.size] w2 w4:=(ac.mono (by simp)).trans' p3;have Jj:ay [] w w4:=fx.out.trans U (by intro x hx;rw[au] at hx;have :=XM.out;omega);have WV:bD w4 u g3 W:=ZG.keep p3 (by rw[au];have :=mZ.out.2.2;omega);have ai:=ae.out.1.keep U (by rw[au];have :=XM.out;omega);have ak:=ae.out.2.keep U (by rw[au];have :=XM.out;omega);have c2:w4.cell? w.heap.size=some (.pointer (some ⟨b,0,none⟩)):=by rw[ai.cell];rfl
 have c3:w4.cell? (w.heap.size+1:Nat)=some (.int .i64 di):=by rw[ak.cell];rfl
 have c4:w4.cell? ⟨w1.heap.size,3,none⟩=some (.int .i64 (W.length:Int)):=by rw[p2.cell];exact(gG (n:=lA n W) u J).f3
 obtain⟨tZ,aH⟩:=hh2 p1 (b9 p2 J);have S5:w.heap.size<=g3:=by have :=fx.out.size;omega
 by_cases G:W.length<=24
 ·have aI:=ar (LU.out G w4 u g3 Jj WV S5)
  have b1:decide ((24:Int)<(W.length:Int))=false:=aQ (by omega);generalize aM (lA n W) u=Z4,(W.length:Int)=el at *;clear p1 p2 p3 ac ZG WV U Jj ai ak aF S5 mZ ae fx XM LU j6 ag rN jz G;go_wp2_with(with_reducible first|refine gS 111 tZ.out ?_|refine gL 111 aH.out ?_);refine aI.out.mono ?_;rintro e w5 ⟨hq,-⟩;obtain⟨r,rfl,hq⟩:=IB.out _ _ hq;have HF:=ar hq;clear hq;go_wp2_with fail
  first|exact HF.out|(go_ret;exact HF.out)
 ·have HF:=ar (j6.out w4 Jj (by omega))
  have b1:decide ((24:Int)<(W.length:Int))=true:=bu (by omega);generalize aM (lA n W) u=Z4,(W.length:Int)=el at *;clear p1 p2 p3 ac ZG WV U Jj ai ak aF S5 mZ ae fx XM LU j6 ag rN jz G;go_wp2_with(first|(with_reducible refine gS 111 tZ.out ?_))
  first|exact HF.out|(go_ret;exact HF.out)
theorem yG{t:Nat}{U h:Addr}(G:fn.results= #[.cell a t,.cell b u,.tmp c])(J:tmps.getD a undef= .pointer (some U))(V:tmps.getD b undef= .pointer (some h))
  (hl:(loadVar t U).run P w= .ok v w) (z:(loadVar u h).run P w= .ok x w) (W:tmps.getD c undef=y):(results fn tmps).run P w= .ok (.tuple #[v,x,y]) w:=by
 rw[fg] at J V W;unfold results;rw[G];simp[J,V,asAddr,hl,z,W]
theorem rf{h:Addr}(G:fn.results= #[.tmp a,.cell b u,.tmp c])(J:tmps.getD a undef=v)(U:tmps.getD b undef= .pointer (some h))
  (z:(loadVar u h).run P w= .ok x w) (V:tmps.getD c undef=y):(results fn tmps).run P w= .ok (.tuple #[v,x,y]) w:=by
 rw[fg] at J U V;unfold results;rw[G];simp[J,U,asAddr,z,V]
theorem pj (w:World):(zeroValue 165).run prog w= .ok (.agg #[(0:Int),.string ⟨#[]⟩,false,(0:Int)]) w:=by kernel_rfl
theorem iU{T:Nat}(J:bh w g h T)(G:h.size=4):
  ∃w',(storeVar 165 g (.agg (cG d nm th i))).run prog w= .ok () w'/\bh w' g (cG d nm th i) T/\ay [g] w w':=
 bH (P:= prog) (ty:= 165) (cs:=[.int .i64 (d:Int),.string nm,.bool th,.int .i64 i]) Ks J (by rw[G];rfl) (by
  intro u z;simp only[aL,aK,bC] at z;rcases z with rfl|rfl|rfl|rfl<;>rfl)
theorem jr{T:Nat}(h:bh w g (cG d nm th i) T):(loadVar 165 g).run prog w= .ok (.agg (cG d nm th i)) w:=
 b7 g 0 [.int .i64 (d:Int),.string nm,.bool th,.int .i64 i] underlying165 rfl Ks λj _=>by
  rw[h.cell,bc,cG,aF]
theorem jJ{T:Nat}{o:jB}{h vq vd:Value}(z:bh w g (cA b o h vq vd) T):(loadVar 79 g).run prog w= .ok (.agg (cA b o h vq vd)) w:=
 b7 g 0 [.pointer (some ⟨b,0,none⟩),.int .i64 o.K,h,vq,.int .i64 o.O,.int .i64 o.N,vd] underlying79 rfl ZF λj _=>by
  rw[z.cell,bc,cA,aF]
def Em (w:World) (M:Nat->Nd) (P:List ByteArray) (e:Ending) (w':World):Prop:=
 ay [] w w'/\(((bq M P).2≠0/\e= .returned (.tuple #[cG 0 ⟨#[]⟩ false 0,.int .i64 (bq M P).2]))\/
  ((bq M P).2=0/\∃th i,e= .returned (.tuple #[cG (bq M P).1 (aS P) th i,(0:Int)])/\
   ((th=false/\bg (M (bq M P).1).E (aS P)<0/\i=0)\/(th=true/\0<=bg (M (bq M P).1).E (aS P)/\i=bg (M (bq M P).1).E (aS P)))))
theorem Di (h:rB w b gp B ps T own ex M)(hT:dw M)(o:jB)(vp vq vd:Value){v:Value}{g:Nat}{P:List ByteArray}(hP:gN w v g P)(hs:∀s∈P,s.size<=9223372036854775807):
  Calls prog 113 #[cA b o vp vq vd,v] w (Em w M P):=by
 have cJ:ay [] w ((w.alloc (.cells (cA b o vp vq vd) 79)).alloc (.cells (cG 0 ⟨#[]⟩ false 0) 165)):=((ay.refl _ _).alloc _).alloc _;have hA:=(h.nd.snd hT).agree;obtain⟨Mf,fI⟩:=hh2 (Rv (h.keep0 cJ).shT hA (hP.keep cJ (by simp)) hs) cJ;have HJ:Hid (bh ((w.alloc (.cells (cA b o vp vq vd) 79)).alloc (.cells (cG 0 ⟨#[]⟩ false 0) 165)) w.heap.size (cA b o vp vq vd) 79/\bh ((w.alloc (.cells (cA b o vp vq vd) 79)).alloc (.cells (cG 0 ⟨#[]⟩ false 0) 165)) (w.heap.size+1) (cG 0 ⟨#[]⟩ false 0) 165):=⟨(bh.new w _ _).alloc _,bh.new2 w _ _ _ _⟩;have af:=ar (λhe=>pV (M:=M) (p:=P) he);have HG:Hid (∀x,(M x).K=2->∀W,ay [] w W->Calls prog 97 #[b,(x:Int)] W (Tm W (nT T x))):=λx hx W V=>(h.keep0 V).get (by omega)
 have qT:Hid (∀x,(M x).K=2->∀W v g s,bD W v g (nT T x).E->Calls prog 156 #[aM (nT T x) v,.string s] W λe w'=>
   ∃(r:Int) (ok:Bool),e= .returned (.tuple #[(r:Int),.bool ok])/\ay [] W w'/\((ok=false/\bg (M x).E s<0/\r=0)\/(ok=true/\0<=bg (M x).E s/\r=bg (M x).E s))):=λx hx W v g s hE=>by
  obtain⟨A,X,B',hs⟩:=lL (hA.tree.rises x) s;have h1:=lM hs λq hq=>(hA.tree.lead x q hq).1.1
  rw[hA.ents x] at hs;have hl:=h.nd.st.gots.elen x;refine(SZ (nT T x) (h.nd.store (i:=x) (by omega)).len hE hs (by omega)).mono ?_;rintro e w' ⟨rfl,V⟩;refine⟨_,_,rfl,V,?_⟩;rcases Int.lt_or_le (bg (M x).E s) 0 with h2|h2
  ·exact .inl ⟨by rw[h1.1.1 h2];rfl,h2,by rw[h1.1.1 h2];rfl⟩
  ·exact .inr ⟨by rw[h1.2 h2];rfl,h2,by rw[h1.2 h2];rfl⟩
 have ou:Hid (∀x,(M x).K=2->(nT T x).B.length=13):=λx hx=>(h.nd.store (i:=x) (by omega)).len
 have ry:Hid (∀w',ay [] w w'->(bq M P).2≠0->Em w M P (.returned (.tuple #[cG 0 ⟨#[]⟩ false 0,.int .i64 (bq M P).2])) w'):=λw' V hr=>⟨V,.inl ⟨hr,rfl⟩⟩
 have qZ:Hid (∀w' r ok,ay [] w w'->(bq M P).2=0->((ok=false/\bg (M (bq M P).1).E (aS P)<0/\r=0)\/(ok=true/\0<=bg (M (bq M P).1).E (aS P)/\r=bg (M (bq M P).1).E (aS P)))->Em w M P (.returned (.tuple #[cG (bq M P).1 (aS P) ok r,(0:Int)])) w'):=λw' r ok V hr hh=>⟨V,.inr ⟨hr,ok,r,rfl,hh⟩⟩
 have rG:=dz;have az:=pj;clear h hT hA hP hs cJ;generalize Em w M P=Q,bq M P=R,aS P=nm,aj:aM cg (.slice none 0 0)=Z0 at *;have Fh:Hid (Z0.size=18):=by show _=_;rw[<-aj];rfl
 clear aj;have e0:cG 0 ⟨#[]⟩ false 0= #[.int .i64 0,.string ⟨#[]⟩,.bool false,.int .i64 0]:=rfl;have ej:cA b o vp vq vd= #[.pointer (some ⟨b,0,none⟩),.int .i64 o.K,vp,vq,.int .i64 o.O,.int .i64 o.N,vd]:=rfl;rw[ej,e0] at *;clear e0 ej;obtain⟨x,ee⟩:=R
 dsimp only at *
 go_in;go_wp2_with fail;refine Mf.out.mono ?_;rintro e w1 ⟨z,⟨rfl,rfl⟩|⟨ac,rfl⟩⟩
 ·have U:=(af.out rfl).1
  have ak:=HG.out x U w1 (fI.out.trans' z);obtain⟨YZ,ag⟩:=hh2 ak (qT.out x U);have ah:=ou.out x U;have c1:w1.cell? w.heap.size=some (.pointer (some ⟨b,0,none⟩)):=by rw[(HJ.out.1.keep z (by simp)).cell];rfl
  have EI:Hid (bh w1 (w.heap.size+1) _ _):=HJ.out.2.keep z (by simp);have jK:=ar (fI.out.trans' z);have aA:Hid (w.heap.size+2<=w1.heap.size):=by show _<=_;have :=z.size;rw[aX,aX] at this;omega
  clear z Mf HJ fI af HG qT ou ry ak U;generalize hn:nT T x=n at *;clear hn;have JK:=ar (λw' r ok V hh=>qZ.out w' r ok V rfl hh);clear qZ;have ai:Hid (∀w' r ok g ae T',bh w' g ae T'->ae.size=4->∃G,(storeVar 165 (g:Nat) (.agg #[(x:Int),.string nm,.bool ok,(r:Int)])).run prog w'= .ok () G/\(loadVar 165 (g:Nat)).run prog G= .ok (.agg (cG x nm ok r)) G/\ay [g] w' G):=λw' r ok g ae T' hb hc=>by
   obtain⟨G,a1,a2,a3⟩:=iU (d:=x) (nm:=nm) (th:=ok) (i:=r) hb hc;exact⟨G,a1,jr a2,a3⟩
  generalize (x:Int)=xi at *;go_wp2_with fail;refine YZ.out.mono ?_;rintro e w2 ⟨v,g,va,rfl,hE,hg,J⟩;obtain⟨w3,p1,p2,p3⟩:=cu (n:=n) (v:=v) (bh.new w2 Z0 111) Fh.out ah hE.one;have ax:=J.size;have nE:ay [] w2 w3:=((ay.refl _ _).alloc _).trans p3 (by intro x hx;rw[au] at hx;omega);obtain⟨py,vE,av⟩:=hh3 p1 (b9 p2 ah) (ag.out w3 v g nm (hE.keep nE (by simp)));have qI:Hid (bh w3 (w.heap.size+1) _ _):=(EI.out.keep J (by simp)).keep nE (by simp);have oI:=ar (jK.out.trans' (J.trans' nE));clear p1 p2 p3 J nE hE hg ax YZ ag EI jK c1;generalize aM n v=Zn at *;go_wp2_with(with_reducible first|refine gS 111 py.out ?_|refine gL 111 vE.out ?_);refine av.out.mono ?_;rintro e w4 ⟨r,ok,rfl,aa,hh⟩;obtain⟨w5,q1,q2,q3⟩:=ai.out w4 r ok (w.heap.size+1) _ _ (qI.out.keep aa (by simp)) rfl;obtain⟨rz,Iz,HF⟩:=hh3 q1 q2 (JK.out w5 r ok ((oI.out.trans' aa).trans q3 (by intro y hy;rw[au] at hy;omega)) hh);clear q1 q2 q3 aa hh JK oI qI av vE py ai;go_wp2_with(with_reducible refine gS 165 rz.out ?_);exact aI (eG results113 rfl Iz.out rfl) rfl HF.out
 ·obtain⟨w3,p1,p2,p3⟩:=iU (d:=0) (nm:=⟨#[]⟩) (th:=false) (i:=0) (HJ.out.2.keep z (by simp)) rfl
  obtain⟨py,vE,HF⟩:=hh3 p1 (jr p2) (ry.out w3 ((fI.out.trans' z).trans p3 (by intro y hy;rw[au] at hy;omega)) ac);have b1:(ee != 0)=true:=by simpa using ac
  clear p1 p2 p3 z ac Mf HJ fI af HG qT ou ry qZ Fh rG;unfold cG at py vE;go_wp2_with(with_reducible refine gS 165 py.out ?_);exact aI (eG results113 rfl vE.out rfl) rfl HF.out
end
end Go.Proofs.YtepbpdipenedhaaGreatDoor
