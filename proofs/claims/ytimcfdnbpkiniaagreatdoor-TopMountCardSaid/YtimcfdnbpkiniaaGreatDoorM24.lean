/- Lemmas. -/
import Derived.Test.YtimcfdnbpkiniaaGreatDoorM23
import Derived.Laws.BytesString
set_option maxHeartbeats 4000000
set_option maxRecDepth 100000
namespace Go.Proofs.YtimcfdnbpkiniaaGreatDoor
open Go.Proofs.Tryz
open Go.RowKit
section
variable{w:World}{a b c d g gp u:Nat}{B:List Int}{ps:List (Int×Int)}{T:List (bT×Value)}{own:Nat->List Nat}{r:mM}{Z h tmps:Array Value}{ex:List Nat}{M:Nat->Nd}{n:bT}{v x y:Value}{P:Program}{fn:Func}{nm:ByteArray}{th:Bool}{i:Int}
theorem V2{P:List ByteArray}{k:Nat}(h:P.length=k+1):aS P=lF P k:=by
 unfold aS lF;rw[List.getLastD_eq_getLast?,List.getLast?_eq_getElem?,h,ib,aj]
theorem Rt (M:Nat->Nd)(P:List ByteArray):(P=[]/\bq M P=(0,1))\/(P≠[]/\ml P=false/\bq M P=(0,1))\/
  (P≠[]/\ml P=true/\(((iP M 0 P.dropLast).2≠0/\bq M P=iP M 0 P.dropLast)\/((iP M 0 P.dropLast).2=0/\(M (iP M 0 P.dropLast).1).K≠2/\bq M P=(0,4))\/((iP M 0 P.dropLast).2=0/\(M (iP M 0 P.dropLast).1).K=2/\bq M P=iP M 0 P.dropLast))):=by
 unfold bq;by_cases z:P=[]
 ·exact .inl ⟨z,by rw[aB (.inl z)]⟩
 ·cases h2:ml P with
  |false=>exact .inr (.inl ⟨z,rfl,by rw[aB (.inr rfl)]⟩)
  |true=>
   refine .inr (.inr ⟨z,rfl,?_⟩);rw[aA (by simp[z])];by_cases G:(iP M 0 P.dropLast).2=0
   ·by_cases J:(M (iP M 0 P.dropLast).1).K=2
    ·exact .inr (.inr ⟨G,J,by rw[aA (λh=>h.2 J)]⟩)
    ·exact .inr (.inl ⟨G,J,by rw[aB ⟨G,J⟩]⟩)
   ·exact .inl ⟨G,by rw[aA (λh=>G h.1)]⟩
theorem Ru (h:gU w b gp B ps T own){M:Nat->Nd}(hA:LL M T){v:Value}{g:Nat}{P:List ByteArray}(hP:gN w v g P)(hs:∀s∈P,s.size<=9223372036854775807):
  Calls prog 161 #[b,v] w (rW w (bq M P) (aS P)):=by
 have HG:=ar (Hn hP hs);obtain⟨a,cap,rfl,af,aC,zB⟩:=hP.open;have U:=ar (Rt M P);have BI:Hid (∀e w',rW w (bq M P) (aS P) e w'->rW w (bq M P) (aS P) e w'):=λ_ _ h=>h
 rcases dZ P.length with h0|h0
 ·have W:P=[]:=List.length_eq_zero_iff.1 h0
  have G:bq M P=(0,1):=by
   rcases U.out with z|z|z
   ·exact z.2
   ·exact absurd W z.1
   ·exact absurd W z.1
  have HF:Hid (rW w (bq M P) (aS P) (.returned (.tuple #[(0:Int),.string ⟨#[]⟩,(1:Int)])) w):=⟨ay.refl _ _,.inr ⟨by rw[G];decide,by rw[G]⟩⟩;clear U BI h hA hP hs G HG;generalize rW w (bq M P) (aS P)=Q at *;rw[h0] at af ⊢;clear W h0 zB;go_in;go_wp2_with fail
  go_ret3
  exact HF.out
 ·obtain⟨k,hk⟩:∃k,P.length=k+1:=⟨P.length-1,by omega⟩
  have aB:P≠[]:=λe=>by rw[e] at h0;simp at h0
  have hl:=V2 hk;have aj:=hP.init;rw[hk,ib] at aj;have HW:=ar (Ov h hA aj);have HD:Hid (∀x:Nat,(M x).K≠0->∀wx,ay [] w wx->Calls prog 196 #[b,(x:Int)] wx (wO wx (nT T x))):=λx hx wx hk=>
   BP (h.keep0 hk) (hA.tree.rng hx) (hA.form x hx)
  have PH:Hid ((iP M 0 P.dropLast).2=0->(M (iP M 0 P.dropLast).1).K≠0):=λhe=>(De hA.tree P.dropLast 0 (by rw[hA.tree.root];omega) he).1
  have aa:Hid (∀x,(nT T x).K=(M x).K):=λx=>(hA.kind x).symm
  have PG:Hid ((iP M 0 P.dropLast).2≠0->(iP M 0 P.dropLast).1=0):=Ou _ _;obtain⟨aF,off,rfl,c0⟩:=zB.out k (by omega);have Mm:Hid (∀wx,ay [] w wx->wx.cell? ⟨g,off+k,none⟩=some (.string (aS P))):=λwx Cj=>by
   rw[hl];exact(aO (w:=w) (a:=⟨g,off+k,none⟩) (Cj.block g aF (by simp))).trans c0
  have ax:Hid (∀w',ay [] w w'->bq M P=(0,1)->rW w (bq M P) (aS P) (.returned (.tuple #[(0:Int),.string ⟨#[]⟩,(1:Int)])) w'):=λw' vS G=>⟨vS,.inr ⟨by rw[G];decide,by rw[G]⟩⟩
  have V:Hid (∀w' r,ay [] w w'->(bq M P).2=r->r≠0->rW w (bq M P) (aS P) (.returned (.tuple #[(0:Int),.string ⟨#[]⟩,(r:Int)])) w'):=λw' r vS G hn=>⟨vS,.inr ⟨by rw[G];exact hn,by rw[G]⟩⟩
  have Rv:Hid (∀w' (x:Nat) nm,ay [] w w'->bq M P=(x,0)->nm=aS P->rW w (bq M P) (aS P) (.returned (.tuple #[(x:Int),.string nm,(0:Int)])) w'):=λw' x nm vS G hn=>⟨vS,.inl ⟨by rw[G],by rw[G,hn]⟩⟩
  have W4:=ar aB;rw[hk] at af HG ⊢;unfold maxLen at aC;have aG:(((k+1:Nat):Int)==0)=false:=by simp;omega
  have rH:=dA;clear h hA hP hs aj hl c0 h0 aB zB;generalize rW w (bq M P) (aS P)=Q at *;generalize bq M P=R,iP M 0 P.dropLast=S,aS P=ln,ak:aM ck (.slice none 0 0)=Z0 at *;have jy:=ar ak;have Fq:Hid (Z0.size=18):=by show _=_;rw[<-ak];rfl
  clear ak;cases hgd:ml P with
  |false=>
   rw[hgd] at HG;have G:R=(0,1):=by
    rcases U.out with z|z|z
    ·exact z.2
    ·exact z.2.2
    ·rw[hgd] at z;cases z.2.1
   have HF:=ar (ax.out w (ay.refl _ _) G);clear hgd G U ax V Rv HW HD PH aa PG Mm BI W4;go_in;go_wp2_with fail;refine C' HG.out ?_;go_wp2_with fail
   go_ret3
   exact HF.out
  |true=>
   rw[hgd] at HG;have HC:Hid ((S.2≠0/\R=S)\/(S.2=0/\(M S.1).K≠2/\R=(0,4))\/(S.2=0/\(M S.1).K=2/\R=S)):=by
    rcases U.out with z|z|z
    ·exact absurd z.1 W4.out
    ·rw[hgd] at z;cases z.2.1
    ·exact z.2.2
   obtain⟨x,ee⟩:=S;have aN:IntKind.i64.wrap (k:Int)=(k:Int):=by rw[cy];omega
   have aK:(0:Int)<=(k:Int):=by omega
   have aI:(k:Int)<=(cap:Int):=by omega
   have aH:(k:Int)<((k+1:Nat):Int):=by omega
   have aJ:(k:Int)<(k:Int)+1:=by omega
   clear hgd U ax BI W4;go_in;go_wp2_with fail;refine C' HG.out ?_;go_wp2_with fail;refine Rr HW.out λw1 az=> ?_;have jH:=ar az;clear az HW HG;by_cases he:ee=0
   ·subst he
    have av:=ar (HD.out x (PH.out rfl) w1 jH.out);have ac:=aa.out x;clear HD PH aa PG;generalize nT T x=n at *;go_wp2_with fail;refine av.out.mono ?_;rintro e w2 ⟨ae,⟨hK,v,g1,rfl,hB,hE,aD⟩|⟨hK,rfl⟩⟩
    ·obtain⟨w3,p1,p2,p3⟩:=cz (n:=n) (v:=v) (bh.new w2 Z0 75) Fq.out hB hE.one
     have pq:=ar p1;have V3:ay [] w w3:=(jH.out.trans' ae).trans (((ay.refl [] w2).alloc _).trans p3 (by intro x hx;rw[au] at hx;omega)) (by simp);have aA:Hid (∀J,ay [] w3 J->J.cell? ⟨g,off+k,none⟩=some (.string ln)):=λJ hz=>Mm.out J (V3.trans' hz)
     have G:R=(x,0):=by
      rcases HC.out with z|z|z
      ·exact absurd rfl z.1
      ·exact absurd (ac.symm.trans hK) z.2.1
      ·exact z.2.2
     have HF:Hid (∀J,ay [] w3 J->Q (.returned (.tuple #[(x:Int),.string ln,(0:Int)])) J):=λJ hz=>Rv.out J x ln (V3.trans' hz) G rfl
     clear p1 p2 p3 V3 ae hE hB aD G HC Rv V Mm ac hK av;generalize aM n v=ZN at *;go_wp2_with(first|(with_reducible refine gS 75 pq.out ?_));refine ju (S:=λJ=>ay [] w3 J) ((ay.refl _ _).drew) ?_;repeat (first
      |(refine aU.cons ?_ (bR.val rfl ?h) ?_;(case h=>(intro J hz;have q0:=aA.out J hz;clear hz;go_simp;rfl));simp only[Act.put,ag,ah,ai]))
     refine aU.done λJ hz=> ?_
     have Qy:=ar (HF.out J hz);clear hz aA HF;go_wp2_with fail
     go_ret3
     exact Qy.out
    ·obtain⟨w3,p1,p2,p3⟩:=cz (n:=ck) (v:= .slice none 0 0) (bh.new w2 Z0 75) Fq.out rfl rfl
     have pq:=ar p1;have V3:ay [] w w3:=(jH.out.trans' ae).trans (((ay.refl [] w2).alloc _).trans p3 (by intro x hx;rw[au] at hx;omega)) (by simp);have G:R=(0,4):=by
      rcases HC.out with z|z|z
      ·exact absurd rfl z.1
      ·exact z.2.2
      ·exact absurd (ac.trans z.2.1) hK
     have HF:=ar (V.out w3 4 V3 (by rw[G]) (by omega));clear p1 p2 p3 V3 ae G HC Rv V Mm ac hK av;go_wp2_with(first|(with_reducible refine gS 75 pq.out ?_))
     go_ret3
     exact HF.out
   ·have G:R.2=ee:=by
     rcases HC.out with z|z|z
     ·rw[z.2]
     ·exact absurd z.1 he
     ·exact absurd z.1 he
    have HF:=ar (V.out w1 ee jH.out G he);have aL:(ee==0)=false:=by simpa using he
    clear G HC Rv V Mm HD PH aa PG he;go_wp2_with fail
    go_ret3
    exact HF.out
end
section
variable{w:World}{a b c d g gp u:Nat}{B:List Int}{ps:List (Int×Int)}{T:List (bT×Value)}{own:Nat->List Nat}{r:mM}{Z h tmps:Array Value}{ex:List Nat}{M:Nat->Nd}{n:bT}{v x y:Value}{P:Program}{fn:Func}{nm:ByteArray}{th:Bool}{i:Int}
end
section
variable{w:World}{a b c d g gp u:Nat}{B:List Int}{ps:List (Int×Int)}{T:List (bT×Value)}{own:Nat->List Nat}{r:mM}{Z h tmps:Array Value}{ex:List Nat}{M:Nat->Nd}{n:bT}{v x y:Value}{P:Program}{fn:Func}{nm:ByteArray}{th:Bool}{i:Int}
def zo (r:mM) (vd h:Value):Array Value:= #[.int .i64 r.E,.int .i64 r.N,.int .i64 r.K,.int .i64 r.L,.int .i64 r.I,vd,h]
def Jf (w:World) (r:mM) (Z:Array Value):Prop:=∃vd h,Z=zo r vd h/\(∃g,Reads w vd g (kS r.D))/\∃g,bD w h g r.S
theorem Jf.size(h:Jf w r Z):Z.size=7:=by
 obtain⟨vd,z,rfl,-⟩:=h;rfl
theorem Jf.one(h:Jf w r Z):∀u∈Z.toList,u.oneCell'=true:=by
 obtain⟨vd,J,rfl,⟨V,G⟩,W,U⟩:=h;intro u z;have z:u∈[Value.int .i64 r.E,.int .i64 r.N,.int .i64 r.K,.int .i64 r.L,.int .i64 r.I,vd,J]:=z;simp only[aL,aK,bC] at z;rcases z with rfl|rfl|rfl|rfl|rfl|rfl|rfl
 ·rfl
 ·rfl
 ·rfl
 ·rfl
 ·rfl
 ·exact Rs G
 ·exact U.one
abbrev vL (g:Nat) (Z:Array Value) (Q:Ending->World->Prop) (w:World):Prop:=
 ∃h,(storeVar 38 g (.agg Z)).run prog w= .ok () h/\(loadVar 38 g).run prog h= .ok (.agg Z) h/\Q (.returned Z) h
theorem Fu:(prog.info? 38).map (·.size)=some 7:=by kernel_rfl
theorem zq{z:World}{T:Nat}(J:bh w g Z T)(G:Jf z r Z):(loadVar 38 g).run prog w= .ok (.agg Z) w:=by
 have h:=G.size;obtain⟨l⟩:=Z;simp only[bN] at h;exact bZ g 0 l underlying38 rfl (by rw[h];exact Fu) λj _=>by
  rw[J.cell,bc,aF]
theorem BZ{U:World}(W:bh w g h 38)(V:h.size=7)(G:Jf U r Z):
  ∃w',(storeVar 38 g (.agg Z)).run prog w= .ok () w'/\bh w' g Z 38/\ay [g] w w':=by
 have J:=G.one;have z:=G.size;obtain⟨l⟩:=Z;simp only[bN] at z;exact bG (P:= prog) (ty:= 38) (cs:=l) (by rw[z];exact Fu) W (by rw[V,z]) J
theorem l6 (w:World):(zeroValue 38).run prog w= .ok (.agg (zo fy (.slice none 0 0) (.slice none 0 0))) w:=by kernel_rfl
theorem qF (w:World)(g:Nat):Reads w (.slice none 0 0) g (kS []):=⟨none,0,rfl,by simp[kS],by simp[maxLen],λh=>absurd rfl h⟩
theorem ZK (w:World){r:mM}(h:r.D=[])(z:r.S=[]):Jf w r (zo r (.slice none 0 0) (.slice none 0 0)):=⟨_,_,rfl,⟨0,by rw[h];exact qF w 0⟩,0,by rw[z];exact bD.nil w 0⟩
def B0 (o:jz) (h vq vd:Value):Array Value:= #[.int .i64 o.K,h,vq,.int .i64 o.O,.int .i64 o.N,vd]
theorem Rw (n:bT){v:Value}{g:Nat}{A M B:List (ByteArray×Int)}{nm:ByteArray}(hB:n.B.length=13)(hE:bD w v g n.E)(hs:iO n.E A M B nm)(YU:n.E.length<=500):
  Calls prog 192 #[aM n v,.string nm] w (vD w n (A++B)):=by
 have K5:=hs.newLen 0;obtain⟨L,hL⟩:∃L,A++B=L:=⟨_,rfl⟩;rw[hL] at K5 ⊢;have HL:=ar hL;have aH:(aM ck (.slice none 0 0)).size=18:=rfl;have aV:=dA;have ae:=(bh.new w (aM n v) 75).alloc (.cells (aM ck (.slice none 0 0)) 75);have ac:=bh.new (w.alloc (.cells (aM n v) 75)) (aM ck (.slice none 0 0)) 75;rw[show(w.alloc (.cells (aM n v) 75)).heap.size=w.heap.size+1 by simp] at ac;have af:ay [] w ((w.alloc (.cells (aM n v) 75)).alloc (.cells (aM ck (.slice none 0 0)) 75)):=((ay.refl [] w).alloc _).alloc _;have aA:=J7 (hE.keep af (by simp)) hs (by omega);have Ed:Hid (L.length<=1000):=by show _<=_;omega
 have aC:=gG v hB;have aa:∀u:Value,u.oneCell'=true->∀x∈mZ (lA n L) u,x.oneCell'=true:=λu hu=>kY hu
 have YZ:=ar aa;have aL:Hid (∀J a c,Calls prog 200 #[aM n v,.slice a L.length c] J λe w'=>e=aM (lA n L) (.slice a L.length c)/\ay [] J w'):=λJ a c=>Ka n v hB L _ rfl
 have aB:∀u,(mZ (lA n L) u).length=18:=λu=>by rw[gM];show n.B.length+5=18;omega
 have EC:=ar aB;obtain⟨a,cap,rfl,aD,aO,-⟩:=hE.open;have aN:=aC.f5;have aQ:Hid (∀J,bh J w.heap.size (aM n (.slice a n.E.length cap)) 75->(loadVar 75 w.heap.size).run prog J= .ok (.agg (aM n (.slice a n.E.length cap))) J):=λJ hb=>cg hb hB
 generalize aM ck (.slice none 0 0)=Z0,aM n (.slice a n.E.length cap)=Z at *;have aR:((w.alloc (.cells Z 75)).alloc (.cells Z0 75)).cell? ⟨w.heap.size,17,none⟩=some (.slice a n.E.length cap):=by rw[ae.cell];exact aN
 obtain⟨aK,p9,oP,fo,H0⟩:=hh5 aA ae ac af aH;clear aA ae ac af aC aa aB aH hE hs K5 YU aN hB aD aO hL;go_in;go_wp2_with fail;refine aK.out.mono ?_;rintro e V ⟨x,y,rfl,W,hy,G⟩;obtain⟨a1,c1,aP,-,-,-⟩:=W.open;obtain⟨a2,c2,aS,-,-,-⟩:=hy.open;subst aP aS;have ax:w.heap.size+2<=V.heap.size:=by have :=G.size;simp at this;omega
 obtain⟨az,p9,oP,oI,HX,HY⟩:=hh6 ax (p9.out.keep G (by simp)) (oP.out.keep G (by simp)) (fo.out.trans' G) (W.keep G (by simp)) (hy.keep G (by simp));clear W hy G aK ax aR;go_wp2_with fail;refine ky (S:=λJ=>ay [w.heap.size+1] V J) [0,1,2] [3,4,5,6] (l:=[_,_,_]) (tl:=[_,_,_,_]) (by kernel_rfl) (by kernel_rfl) (by kernel_rfl) (by kernel_rfl) rfl rfl rfl rfl rfl (λd _ _ _ _ h=>by cases d<;>exact h) (ay.refl _ _).drew ?_;refine cU.cons _ (YieldsIf.load rfl 75 (.tmp 2) rfl _ rfl λJ W=>aQ.out J (p9.out.keep W (by simp))) ?_;simp only[Act.put,ag];refine cU.cons ?_ (YieldsIf.val rfl ?h) ?_;(case h=>(intro J W;clear W;go_simp;rfl));simp only[Act.put];refine cU.cons ?_ (YieldsIf.val rfl ?h) ?_;(case h=>(intro J W;clear W;go_simp;rfl));simp only[Act.put];refine cU.done ?_;unfold gH;go_wp2_with fail;refine⟨((ay.refl _ _).drew).alloc _,?_⟩;unfold gH;have lh:ay [] V ((V.alloc (.cells #[.slice a1 A.length c1,.slice a2 B.length c2] 30)).drew):=((ay.refl _ _).alloc _).drew;have tS:bh ((V.alloc (.cells #[.slice a1 A.length c1,.slice a2 B.length c2] 30)).drew) V.heap.size ([.slice a1 A.length c1,.slice a2 B.length c2]:List Value).toArray 30 :=(bh.new V #[.slice a1 A.length c1,.slice a2 B.length c2] 30).drew;have aj:[A,B].flatten=L:=by rw[<-HL.out];simp
 have aJ:=HX.out.keep lh (by simp);have av:=HY.out.keep lh (by simp);have U:=Hd (Ls:=[A,B]) tS rfl (by simp)
  (ag7 (P:=λj=>∃g,bD ((V.alloc (.cells #[.slice a1 A.length c1,.slice a2 B.length c2] 30)).drew) (([.slice a1 A.length c1,.slice a2 B.length c2]:List Value).getD j (.slice none 0 0)) g ([A,B].getD j [])) ⟨g,aJ⟩ ⟨g,av⟩)
  (by rw[aj];exact Ed.out)
 rw[aj] at U;obtain⟨NK,qU⟩:=hh2 U lh;clear U lh tS aj aJ av;go_wp2_with fail;refine NK.out.mono ?_;rintro e w6 ⟨u,gu,rfl,hu,aG,jv⟩;obtain⟨a6,c6,aU,-,-,-⟩:=hu.open;subst aU;obtain⟨uB,HU⟩:=hh2 (qU.out.trans' jv) hu;have ak:Hid (V.heap.size<=gu):=cG qU.out.size aG;clear hu aG jv NK qU;obtain⟨HV,Y0,Q8⟩:=hh3 (aL.out w6 a6 c6) (YZ.out (.slice a6 L.length c6) rfl) (EC.out (.slice a6 L.length c6));have Sy:Hid (aM (lA n L) (.slice a6 L.length c6)=(mZ (lA n L) (.slice a6 L.length c6)).toArray):=rfl;have Nf:Hid (∀w',bD w' (.slice a6 L.length c6) gu L->ay [] w w'->vD w n L (.returned (aM (lA n L) (.slice a6 L.length c6))) w'):=λw' h1 h2=>⟨_,gu,rfl,h1,by have :=ak.out;have :=az.out;omega,h2⟩
 clear YZ EC aL;generalize aM (lA n L) (.slice a6 L.length c6)=Z6,mZ (lA n L) (.slice a6 L.length c6)=ZL at *;generalize L.length=m at *;go_wp2_with fail;refine⟨uB.out.mono (by simp),?_⟩;unfold gH;go_wp2_with fail;refine Rr HV.out λw7 xw=> ?_;obtain⟨J0,aT⟩:=hh2 (uB.out.trans' xw) (HU.out.keep xw (by simp));obtain⟨w8,q1,q2,q3⟩:=bG (P:= prog) (ty:= 75) (cs:=ZL) (by rw[Q8.out];exact iX) (oP.out.keep J0.out (by simp)) (by rw[Q8.out];exact H0.out) Y0.out;rw[<-Sy.out] at q1;have HS:=ar q1;have IY:Hid ((loadVar 75 (w.heap.size+1:Nat)).run prog w8= .ok (.agg Z6) w8):=by
  rw[Sy.out];exact bZ _ 0 ZL underlying75 rfl (by rw[Q8.out];exact iX) λj _=>by rw[q2.cell,bc,aF]
 have Yl:=ar ((J0.out.mono (l':=[w.heap.size+1]) (by simp)).trans' q3);have HF:=ar (Nf.out w8 (aT.out.keep q3 (by have :=ak.out;have :=az.out;intro _ h;rw[au] at h;omega)) (oI.out.trans Yl.out (by intro z hz;rw[au] at hz;omega)));clear q1 q2 q3 xw HV Nf;go_wp2_with fail;refine⟨J0.out.mono (by simp),?_⟩;unfold gH;refine qh rfl 75 (.tmp 4) (.tmp 19) rfl ⟨w.heap.size+1,0,none⟩ rfl (.agg Z6) rfl w8 HS.out ?_;go_wp2_with fail;refine⟨Yl.out,?_⟩;unfold gH;go_wp2_with fail;exact aI (bA results192 rfl IY.out) rfl HF.out
structure rC (w:World) (b gp:Nat) (B:List Int) (ps:List (Int×Int)) (T:List (bT×Value)) (own:Nat->List Nat) (ex:List Nat) (M:Nat->Nd):Prop where
 sh:eK w b gp B ps
 nd:nL (az B ps) T own ex M
 lt:b<w.heap.size/\gp<w.heap.size
 tab:∀wx,ay [b,gp] w wx->kN wx
section
variable {w w':World} {b gp gI:Nat} {B:List Int} {ps qs:List (Int×Int)} {T T':List (bT×Value)} {own cX:Nat->List Nat} {ex ex':List Nat} {M M':Nat->Nd}
theorem rC.keep0(h:rC w b gp B ps T own ex M)(z:ay [] w w'):rC w' b gp B ps T own ex M:=
 ⟨h.sh.keep z (by simp) (by simp),h.nd,by have :=z.size;have :=h.lt;omega,λG J=>h.tab G ((z.mono (by simp)).trans' J)⟩
theorem rC.shT(h:rC w b gp B ps T own ex M):gU w b gp B ps T own:=⟨h.sh,h.nd.st.w64,h.nd.st.gots,h.lt⟩
theorem rC.shS(h:rC w b gp B ps T own ex M):tJ w b gp B ps T own:=⟨h.shT,h.nd.st.sup⟩
theorem rC.go(h:rC w b gp B ps T own ex M)(J:eK w' b gI B (ps++qs))(G:ay [b,gp] w w')(W:gI=gp\/(w.heap.size<=gI/\gI<w'.heap.size))(U:nL (az (az B ps) qs) T' cX ex' M'):rC w' b gI B (ps++qs) T' cX ex' M':=
 ⟨J,by rw[bz];exact U,by have :=G.size;have :=h.lt;omega,λV z=>h.tab V (G.trans z λx z=>by
  simp only[aL,aK,bC] at z ⊢;omega)⟩
def Tp (w:World) (n:bT) (e:Ending) (w':World):Prop:=
 ∃v g h,e= .returned (.tuple #[aM n v,h,(0:Int)])/\bD w' v g n.E/\w.heap.size<=g/\ay [] w w'
theorem rC.get(h:rC w b gp B ps T own ex M){i:Nat}(J:(M i).K≠0):Calls prog 30 #[b,(i:Int)] w (Tp w (nT T i)):=by
 have G:=h.nd.store J;have hF:(nT T i).F≠0:=by rcases G.right.1 with V|V<;>omega
 refine(h.shT.get (h.nd.rng J)).mono ?_;rintro e w1 ⟨v,g,W,ga,r,rfl,hB,hE,hg,-,-,z,hr⟩;have U:r=0:=by omega
 subst U;exact⟨v,g,W,rfl,hE,hg,z⟩
theorem rC.put(h:rC w b gp B ps T own ex M)(aa:ps.length<=600000)(i:Nat){n:bT}{v:Value}{g:Nat}{R:Int->List (Int×Int)->Prop}(hB:n.B.length=13)(V:∀k,k<n.E.length->(eX n.E k).size<=9223372036854775807)(hR:∀r qs,nU (az B ps) (i:Int) n r qs->R r qs){G:World}(z:ay [] w G)(hE:bD G v g n.E)(hg:w.heap.size<=g):
  Calls prog 48 #[b,(i:Int),aM n v] G (λe w'=>cQ w b gp B ps 700 R e w'/\ay [b,gp] G w'):=by
 have ac:=h.lt;refine(sB (h.sh.keep z (by simp) (by simp)) h.nd.st.w64 (λwy hy=>h.tab wy ((z.mono (by simp)).trans' hy)) (by have :=z.size;omega) (by omega) (i:Int) n v g hB hE V (λ_=>by omega)).mono ?_;rintro e w1 ⟨r,qs,gI,U,h2,W,J,h5,h6⟩;exact⟨⟨r,qs,gI,U,by have :=z.size;omega,W,(z.mono (by simp)).trans' J,h5,hR r qs h6⟩,J⟩
theorem OO {E:List (ByteArray×Int)}(h:Je E):∀k,k<E.length->(eX E k).size<=9223372036854775807:=λk G=>by
 have z:=(Tm h k G).1;have J:=oN z;rw[mB] at J;omega
end
theorem bh.new2(w:World)(c:Array Value)(T:Nat)(h:Array Value)(z:Nat):bh ((w.alloc (.cells c T)).alloc (.cells h z)) (w.heap.size+1) h z:=by
 have :=bh.new (w.alloc (.cells c T)) h z;rwa[aX] at this
def cB (b:Nat) (o:jz) (h vq vd:Value):Array Value:= #[.pointer (some ⟨b,0,none⟩),.int .i64 o.K,h,vq,.int .i64 o.O,.int .i64 o.N,vd]
def cH (d:Nat) (nm:ByteArray) (th:Bool) (i:Int):Array Value:= #[.int .i64 (d:Int),.string nm,.bool th,.int .i64 i]
theorem ZV:(prog.info? 91).map (·.size)=some 7:=by kernel_rfl
theorem Kp:(prog.info? 174).map (·.size)=some 4:=by kernel_rfl
theorem eD{z x:Nat}(G:b<w.heap.size/\z<w.heap.size)(h:w.heap.size<=x):x∉[b,z]:=by
 simp only[aL,aK,bC];omega
theorem OP{V:Nat}(h:rC w b V B ps T own ex M)(aB:ps.length<=600000)(o:jz)(vp vq vd:Value){d:Nat}(hK:(M d).K=2)(nm:ByteArray)(th:Bool)(i:Int):
  Calls prog 159 #[cB b o vp vq vd,cH d nm th i] w (cQ w b V B ps 700 (AR (az B ps) ex M d nm)):=by
 have Ca:=h.nd.ed hK;have ac:=h.nd.ents d;obtain⟨A,N,E2,hs⟩:=lJ Ca.2.2 nm;have af:=tF hs;have cM:ay [] w ((w.alloc (.cells (cB b o vp vq vd) 91)).alloc (.cells (cH d nm th i) 174)):=((ay.refl _ _).alloc _).alloc _;have HG:=ar ((h.keep0 cM).get (i:=d) (by omega));have aa:=h.nd.store (i:=d) (by omega);have aD:=aa.len;have LS:Hid (∀z v g,ay [] w z->bD z v g (A++E2)->w.heap.size<=g->Calls prog 48 #[b,(d:Int),aM (lA (nT T d) (A++E2)) v] z (λe w'=>cQ w b V B ps 700 (AR (az B ps) ex M d nm) e w'/\ay [b,V] z w')):=λz v g hk hE hg=>
  h.put aB d (n:=lA (nT T d) (A++E2)) aa.len (by rw[<-af];exact OO (Zu Ca nm)) (λr qs hp=>h.nd.leave hK (by rw[af];exact hp)) hk hE hg
 have aA:Hid (∀z v g,bD z v g (nT T d).E->Calls prog 192 #[aM (nT T d) v,.string nm] z (vD z (nT T d) (A++E2))):=λz v g hE=>Rw (nT T d) aa.len hE (by rw[ac];exact hs) (by rw[ac];have :=Ca.1;omega)
 obtain⟨fJ,Fe⟩:=hh2 cM h.lt;have IA:Hid (∀e z,cQ w b V B ps 700 (AR (az B ps) ex M d nm) e z->∃r,e=(r:Int)/\cQ w b V B ps 700 (AR (az B ps) ex M d nm) e z):=λe z hh=>by
  obtain⟨r,qs,gI,h1,-⟩:=id hh;exact⟨r,h1,hh⟩
 have HJ:Hid (bh ((w.alloc (.cells (cB b o vp vq vd) 91)).alloc (.cells (cH d nm th i) 174)) w.heap.size (cB b o vp vq vd) 91/\bh ((w.alloc (.cells (cB b o vp vq vd) 91)).alloc (.cells (cH d nm th i) 174)) (w.heap.size+1) (cH d nm th i) 174):=⟨(bh.new w _ _).alloc _,bh.new2 w _ _ _ _⟩;have rH:=dA;clear h Ca ac af aa hs aB hK cM;generalize cQ w b V B ps 700 (AR (az B ps) ex M d nm)=Q,hn:nT T d=n,ax:aM ck (.slice none 0 0)=Z0 at *;have Fq:Hid (Z0.size=18):=by show _=_;rw[<-ax];rfl
 clear ax hn;generalize A++E2=E' at *;unfold cB cH at *;generalize (d:Int)=di at *;go_in;go_wp2_with fail;refine HG.out.mono ?_;rintro e w1 ⟨v,g,va,rfl,hE,hg,G⟩;obtain⟨J,p1,p2,p3⟩:=cz (n:=n) (v:=v) (bh.new w1 Z0 75) Fq.out aD hE.one;have aC:=G.size;have aH:w.heap.size+2<=w1.heap.size:=by rw[aX,aX] at aC;omega
 have eV:ay [] w1 J:=((ay.refl _ _).alloc _).trans p3 (by intro x hx;rw[au] at hx;omega);have ak:ay [] w J:=fJ.out.trans' (G.trans' eV);have jw:=ar p1;have Ml:bD J v g n.E:=hE.keep eV (by simp);have WT:=HJ.out.1.keep (G.trans' eV) (by simp);have ae:=HJ.out.2.keep (G.trans' eV) (by simp);have HC:Hid (∀U,ay [b,V] J U->U.cell? w.heap.size=some (.pointer (some ⟨b,0,none⟩))/\U.cell? (w.heap.size+1:Nat)=some (.int .i64 di)/\U.cell? ⟨w.heap.size+1,1,none⟩=some (.string nm)/\(loadVar 75 w1.heap.size).run prog U= .ok (.agg (aM n v)) U):=λU W=>
  ⟨by rw[(WT.keep W (eD Fe.out (by omega))).cell];rfl,by rw[(ae.keep W (eD Fe.out (by omega))).cell];rfl,by rw[(ae.keep W (eD Fe.out (by omega))).cell];rfl,cg (p2.keep W (eD Fe.out (by omega))) aD⟩
 obtain⟨aF,fo⟩:=hh2 (aA.out J.drew v g (Ml.keep ((ay.refl [] J).drew) (by simp))) ak;clear p1 p2 p3 ak Ml hE hg G eV HG WT ae HJ fJ aC aH aA;go_wp2_with(first|(with_reducible refine gS 75 jw.out ?_));refine ky (S:=λz=>ay [b,V] J z) [0,1,2,3,4,5,6] [7,8,9] (l:=[_,_,_,_,_,_,_]) (tl:=[_,_,_]) (by kernel_rfl) (by kernel_rfl) (by kernel_rfl) (by kernel_rfl) rfl rfl rfl rfl rfl (λd _ _ _ _ h=>by cases d<;>exact h) (ay.refl _ _).drew ?_;simp only[iz,iL,iM];repeat (
  (first
  |(refine cU.cons (.agg (aM n v)) (YieldsIf.load rfl 75 _ rfl _ rfl λU W=>(HC.out _ W).2.2.2) ?_)
  |(refine cU.cons ?_ (YieldsIf.val rfl ?h) ?_;(case h=>(intro U W;obtain⟨q0,q1,q2,-⟩:=HC.out U W;clear W;go_simp;rfl))));simp only[Act.put,ag,ah,ai])
 refine cU.done ?_;unfold gH;go_wp2_with fail;refine aF.out.mono ?_;rintro e w3 ⟨u,g3,rfl,ZX,aG,aj⟩;have nD:ay [] J w3:=((ay.refl [] J).drew).trans' aj;have Ct:=ar (LS.out w3 u g3 (fo.out.trans' nD) ZX (by have :=fo.out.size;have :=((ay.refl [] J).drew).size;omega));have oI:Hid (ay [b,V] J w3):=nD.mono (by simp);clear nD aj ZX aG aF LS;go_wp2_with fail;refine⟨oI.out,?_⟩;unfold gH;go_wp2_with fail;refine Ct.out.mono ?_;rintro e w4 ⟨hq,av⟩;obtain⟨r,rfl,hq⟩:=IA.out _ _ hq;obtain⟨HF,qb⟩:=hh2 hq (oI.out.trans' av);clear hq av;go_wp2_with fail;refine⟨qb.out,?_⟩;unfold gH;go_wp2_with fail;refine⟨qb.out,?_⟩;unfold gH;go_wp2_with fail
 first|exact HF.out|(go_ret;exact HF.out)
theorem Tq{T:Nat}(h:bh w g (aM n v) T)(x:Int):bh (w.setCell ⟨g,2,none⟩ (.int .i64 x)) g (aM { n with L:=x } v) T:=h.set 2 (.int .i64 x)
theorem zr (h:n.B.length=13):(aM n v).size=18:=by rw[aM,bN,gM,h]
theorem Kq (h:rC w b gp B ps T own ex M)(ai:ps.length<=600000)(o:jz)(vp vq vd:Value){i:Nat}(hK:(M i).K≠0)(hL:1<=(M i).L):
  Calls prog 160 #[cB b o vp vq vd,(i:Int)] w (cQ w b gp B ps 700 (rX (az B ps) ex M i)):=by
 have cM:ay [] w (w.alloc (.cells (cB b o vp vq vd) 91)):=(ay.refl _ _).alloc _;have HG:=ar ((h.keep0 cM).get hK);have U:=h.nd.store hK;have ae:=U.len;have hl:=h.nd.links i;have ag:=U.right.2.1;have LS:Hid (1<(M i).L->∀z v g,ay [] w z->bD z v g (nT T i).E->w.heap.size<=g->Calls prog 48 #[b,(i:Int),.agg (aM { nT T i with L:=(M i).L-1 } v)] z (λe w'=>cQ w b gp B ps 700 (rX (az B ps) ex M i) e w'/\ay [b,gp] z w')):=λak z v g hk hE hg=>
  h.put ai i (n:={ nT T i with L:=(M i).L-1 }) U.len (show ∀k,k<(nT T i).E.length->(eX (nT T i).E k).size<=9223372036854775807 from yo U.right) (λr qs hp=>h.nd.unlinkPut hK ak hp) hk hE hg
 have af:Hid ((M i).L=1->∀z,ay [] w z->Calls prog 193 #[b,(i:Int)] z (cQ w b gp B ps 700 (rX (az B ps) ex M i))):=λh1 z hk=>by
  have aA:=h.lt;refine(abZ (h.sh.keep hk (by simp) (by simp)) h.nd.st.w64 (by have :=hk.size;omega) (by omega) (i:Int)).mono ?_;rintro e V ⟨r,qs,gI,h2,h3,h4,h5,h6,h7⟩;exact⟨r,qs,gI,h2,by have :=hk.size;omega,h4,(hk.mono (by simp)).trans' h5,h6,h.nd.unlinkDrop hK h1 h7⟩
 have fJ:=ar cM;have IA:Hid (∀e z,cQ w b gp B ps 700 (rX (az B ps) ex M i) e z->∃r,e=(r:Int)/\cQ w b gp B ps 700 (rX (az B ps) ex M i) e z):=λe z hh=>by
  obtain⟨r,qs,gI,h1,-⟩:=id hh;exact⟨r,h1,hh⟩
 have HJ:Hid (bh (w.alloc (.cells (cB b o vp vq vd) 91)) w.heap.size (cB b o vp vq vd) 91):=bh.new w _ _;have rH:=dA;clear h U ai hK cM;generalize cQ w b gp B ps 700 (rX (az B ps) ex M i)=Q,hn:nT T i=n,av:(M i).L=l0,ah:aM ck (.slice none 0 0)=Z0 at *;have Fq:Hid (Z0.size=18):=by show _=_;rw[<-ah];rfl
 clear ah hn av;unfold cB at *;generalize (i:Int)=di at *;obtain⟨G,Cx⟩:∃G,l0-1=G:=⟨_,rfl⟩;have ax:IntKind.i64.wrap G=G:=by rw[cy];omega
 rw[Cx] at LS;go_in;go_wp2_with fail;refine HG.out.mono ?_;rintro e V ⟨v,g,va,rfl,hE,hg,J⟩;obtain⟨w2,p1,p2,p3⟩:=cz (n:=n) (v:=v) (bh.new V Z0 75) Fq.out ae hE.one;have ac:=J.size;have aj:w.heap.size+1<=V.heap.size:=by rw[aX] at ac;omega
 have eV:ay [] V w2:=((ay.refl _ _).alloc _).trans p3 (by intro x hx;rw[au] at hx;omega);have jw:=ar p1;have p5:=Tq p2 G;have nD:ay [] V (w2.setCell ⟨V.heap.size,2,none⟩ (.int .i64 G)):=eV.setCell (.inr (aH _)) _;have W:ay [] w (w2.setCell ⟨V.heap.size,2,none⟩ (.int .i64 G)):=fJ.out.trans' (J.trans' nD);have ZX:bD (w2.setCell ⟨V.heap.size,2,none⟩ (.int .i64 G)) v g n.E:=hE.keep nD (by simp);have c1:w2.cell? ⟨V.heap.size,2,none⟩=some (.int .i64 l0):=by rw[p2.cell,<-hl];exact(gG v ae).f2
 have aa:=cg p5 ae;have c2:(w2.setCell ⟨V.heap.size,2,none⟩ (.int .i64 G)).cell? w.heap.size=some (.pointer (some ⟨b,0,none⟩)):=by
  rw[((HJ.out.keep J (by simp)).keep nD (by simp)).cell];rfl
 obtain⟨uJ,mA⟩:=hh2 aa p2;by_cases h1:l0=1
 ·have HD:=ar (af.out h1 _ W)
  have b1:decide (G<1)=true:=bu (by omega);clear h1 hL hl ag;clear p1 p2 p3 p5 W nD ZX hE hg J eV HG HJ fJ ac aj LS af aa uJ;have po:=mA.out.frozen;go_wp2_with(first|(with_reducible refine gS 75 jw.out ?_));refine HD.out.mono ?_;intro e w4 hq;obtain⟨r,rfl,hq⟩:=IA.out _ _ hq;have HF:=ar hq;clear hq;go_wp2_with fail
  first|exact HF.out|(go_ret;exact HF.out)
 ·have Ct:=ar (LS.out (by omega) _ v g W ZX (by rw[aX] at hg;omega))
  have b1:decide (G<1)=false:=aQ (by omega);clear p1 p2 p3 p5 W nD ZX hE hg J eV HG HJ fJ ac aj LS af aa;have po:=mA.out.frozen;generalize aM { n with L:=G } v=Z3 at *;clear h1 hL hl ag;go_wp2_with(with_reducible first|refine gS 75 jw.out ?_|refine gL 75 uJ.out ?_);refine Ct.out.mono ?_;rintro e w4 ⟨hq,-⟩;obtain⟨r,rfl,hq⟩:=IA.out _ _ hq;have HF:=ar hq;clear hq;go_wp2_with fail
  first|exact HF.out|(go_ret;exact HF.out)
theorem H9 (h:rC w b gp B ps T own ex M)(av:ps.length<=600000)(o:jz)(vp vq vd:Value){d:Nat}(hK:(M d).K=2){nm:ByteArray}(hn:iu (bl nm)=true)(th:Bool)(i0:Int){i:Int}(hi:0<=i/\i<32):
  Calls prog 128 #[cB b o vp vq vd,cH d nm th i0,i] w (cQ w b gp B ps 700 (tK (az B ps) ex M d nm i)):=by
 have Ca:=h.nd.ed hK;have ai:=h.nd.ents d;obtain⟨A,N,E2,hs⟩:=lJ Ca.2.2 nm;have ak:=AQ hs i;have cM:ay [] w ((w.alloc (.cells (cB b o vp vq vd) 91)).alloc (.cells (cH d nm th i0) 174)):=((ay.refl _ _).alloc _).alloc _;have HG:=ar ((h.keep0 cM).get (i:=d) (by omega));have ae:=h.nd.store (i:=d) (by omega);have J:=ae.len;have LS:Hid ((A++([(nm,i)]++E2)).length<=24->∀z v g,ay [] w z->bD z v g (A++([(nm,i)]++E2))->w.heap.size<=g->Calls prog 48 #[b,(d:Int),aM (lA (nT T d) (A++([(nm,i)]++E2))) v] z (λe w'=>cQ w b gp B ps 700 (tK (az B ps) ex M d nm i) e w'/\ay [b,gp] z w')):=λG z v g hk hE hg=>by
  rw[<-ak] at G hE ⊢;exact h.put av d (n:=lA (nT T d) (wT (M d).E nm i)) ae.len (OO (Zv Ca G hn hi)) (λr qs hp=>h.nd.enter hK hn hi G hp) hk hE hg
 have aD:Hid (∀z v g,bD z v g (nT T d).E->Calls prog 164 #[aM (nT T d) v,.agg #[.string nm,i]] z (vD z (nT T d) (A++([(nm,i)]++E2)))):=λz v g hE=>YY (nT T d) i ae.len hE (by rw[ai];exact hs) (by rw[ai];have :=Ca.1;omega)
 obtain⟨fJ,Fe⟩:=hh2 cM h.lt;have jY:Hid (∀z,ay [] w z->24<(A++([(nm,i)]++E2)).length->cQ w b gp B ps 700 (tK (az B ps) ex M d nm i) (.returned (7:Int)) z):=λz hk aH=>cQ.none h.sh hk (.inl ⟨rfl,rfl,.inl (by rw[ak];exact aH)⟩)
 have IA:Hid (∀e z,cQ w b gp B ps 700 (tK (az B ps) ex M d nm i) e z->∃r,e=(r:Int)/\cQ w b gp B ps 700 (tK (az B ps) ex M d nm i) e z):=λe z hh=>by
  obtain⟨r,qs,gI,h1,-⟩:=id hh;exact⟨r,h1,hh⟩
 have HJ:Hid (bh ((w.alloc (.cells (cB b o vp vq vd) 91)).alloc (.cells (cH d nm th i0) 174)) w.heap.size (cB b o vp vq vd) 91/\bh ((w.alloc (.cells (cB b o vp vq vd) 91)).alloc (.cells (cH d nm th i0) 174)) (w.heap.size+1) (cH d nm th i0) 174):=⟨(bh.new w _ _).alloc _,bh.new2 w _ _ _ _⟩;have rH:=dA;clear h Ca ai ak ae hs av hK cM hi hn;generalize cQ w b gp B ps 700 (tK (az B ps) ex M d nm i)=Q,hn:nT T d=n,aF:aM ck (.slice none 0 0)=Z0 at *;have Fq:Hid (Z0.size=18):=by show _=_;rw[<-aF];rfl
 clear aF hn;generalize A++([(nm,i)]++E2)=V at *;unfold cB cH at *;generalize (d:Int)=di at *;go_in;go_wp2_with fail;refine HG.out.mono ?_;rintro e w1 ⟨v,g,va,rfl,hE,hg,U⟩;obtain⟨w2,p1,p2,p3⟩:=cz (n:=n) (v:=v) (bh.new w1 Z0 75) Fq.out J hE.one;have ax:=U.size;have aB:w.heap.size+2<=w1.heap.size:=by rw[aX,aX] at ax;omega
 have eV:ay [] w1 w2:=((ay.refl _ _).alloc _).trans p3 (by intro x hx;rw[au] at hx;omega);have aA:ay [] w w2:=fJ.out.trans' (U.trans' eV);have jw:=ar p1;have Ml:bD w2 v g n.E:=hE.keep eV (by simp);have WT:=HJ.out.1.keep (U.trans' eV) (by simp);have aj:=HJ.out.2.keep (U.trans' eV) (by simp);have c1:w2.cell? ⟨w.heap.size+1,1,none⟩=some (.string nm):=by rw[aj.cell];rfl
 obtain⟨rN,ag⟩:=hh2 (cg p2 J) (aD.out w2 v g Ml);have mA:Hid (bh w2 w1.heap.size (aM n v) 75/\(aM n v).size=18/\w1.heap.size<w2.heap.size):=⟨p2,zr J,by have :=p3.size;rw[aX] at this;omega⟩;have ac:Hid (bh w2 w.heap.size _ _/\bh w2 (w.heap.size+1) _ _):=⟨WT,aj⟩;obtain⟨fo,XP⟩:=hh2 aA aB;clear p1 p2 p3 aA Ml hE hg U eV HG WT aj HJ fJ ax aB aD;go_wp2_with(with_reducible first|refine gS 75 jw.out ?_|refine gL 75 rN.out ?_);refine ag.out.mono ?_;rintro e w3 ⟨u,g3,rfl,ZX,aC,aa⟩;obtain⟨w4,p1,p2,p3⟩:=cz (n:=lA n V) (v:=u) (mA.out.1.keep aa (by simp)) mA.out.2.1 J ZX.one;have W:ay [w1.heap.size] w2 w4:=(aa.mono (by simp)).trans' p3;have Jg:ay [] w w4:=fo.out.trans W (by intro x hx;rw[au] at hx;have :=XP.out;omega);have WY:bD w4 u g3 V:=ZX.keep p3 (by rw[au];have :=mA.out.2.2;omega);have af:=ac.out.1.keep W (by rw[au];have :=XP.out;omega);have ah:=ac.out.2.keep W (by rw[au];have :=XP.out;omega);have c2:w4.cell? w.heap.size=some (.pointer (some ⟨b,0,none⟩)):=by rw[af.cell];rfl
 have c3:w4.cell? (w.heap.size+1:Nat)=some (.int .i64 di):=by rw[ah.cell];rfl
 have c4:w4.cell? ⟨w1.heap.size,3,none⟩=some (.int .i64 (V.length:Int)):=by rw[p2.cell];exact(gG (n:=lA n V) u J).f3
 obtain⟨tT,aI⟩:=hh2 p1 (cg p2 J);have S6:w.heap.size<=g3:=by have :=fo.out.size;omega
 by_cases G:V.length<=24
 ·have aG:=ar (LS.out G w4 u g3 Jg WY S6)
  have b1:decide ((24:Int)<(V.length:Int))=false:=aQ (by omega);generalize aM (lA n V) u=Z4,(V.length:Int)=el at *;clear p1 p2 p3 aa ZX WY W Jg af ah aC S6 mA ac fo XP LS jY ag rN jw G;go_wp2_with(with_reducible first|refine gS 75 tT.out ?_|refine gL 75 aI.out ?_);refine aG.out.mono ?_;rintro e w5 ⟨hq,-⟩;obtain⟨r,rfl,hq⟩:=IA.out _ _ hq;have HF:=ar hq;clear hq;go_wp2_with fail
  first|exact HF.out|(go_ret;exact HF.out)
 ·have HF:=ar (jY.out w4 Jg (by omega))
  have b1:decide ((24:Int)<(V.length:Int))=true:=bu (by omega);generalize aM (lA n V) u=Z4,(V.length:Int)=el at *;clear p1 p2 p3 aa ZX WY W Jg af ah aC S6 mA ac fo XP LS jY ag rN jw G;go_wp2_with(first|(with_reducible refine gS 75 tT.out ?_))
  first|exact HF.out|(go_ret;exact HF.out)
theorem yG{t:Nat}{J h:Addr}(G:fn.results= #[.cell a t,.cell b u,.tmp c])(U:tmps.getD a undef= .pointer (some J))(W:tmps.getD b undef= .pointer (some h))
  (hl:(loadVar t J).run P w= .ok v w) (z:(loadVar u h).run P w= .ok x w) (V:tmps.getD c undef=y):(results fn tmps).run P w= .ok (.tuple #[v,x,y]) w:=by
 rw[fg] at U W V;unfold results;rw[G];simp[U,W,asAddr,hl,z,V]
theorem rp{h:Addr}(G:fn.results= #[.tmp a,.cell b u,.tmp c])(U:tmps.getD a undef=v)(V:tmps.getD b undef= .pointer (some h))
  (z:(loadVar u h).run P w= .ok x w) (J:tmps.getD c undef=y):(results fn tmps).run P w= .ok (.tuple #[v,x,y]) w:=by
 rw[fg] at U V J;unfold results;rw[G];simp[U,V,asAddr,z,J]
theorem pg (w:World):(zeroValue 174).run prog w= .ok (.agg #[(0:Int),.string ⟨#[]⟩,false,(0:Int)]) w:=by kernel_rfl
theorem iU{T:Nat}(J:bh w g h T)(G:h.size=4):
  ∃w',(storeVar 174 g (.agg (cH d nm th i))).run prog w= .ok () w'/\bh w' g (cH d nm th i) T/\ay [g] w w':=
 bG (P:= prog) (ty:= 174) (cs:=[.int .i64 (d:Int),.string nm,.bool th,.int .i64 i]) Kp J (by rw[G];rfl) (by
  intro u z;simp only[aL,aK,bC] at z;rcases z with rfl|rfl|rfl|rfl<;>rfl)
theorem jn{T:Nat}(h:bh w g (cH d nm th i) T):(loadVar 174 g).run prog w= .ok (.agg (cH d nm th i)) w:=
 bZ g 0 [.int .i64 (d:Int),.string nm,.bool th,.int .i64 i] underlying174 rfl Kp λj _=>by
  rw[h.cell,bc,cH,aF]
theorem jG{T:Nat}{o:jz}{h vq vd:Value}(z:bh w g (cB b o h vq vd) T):(loadVar 91 g).run prog w= .ok (.agg (cB b o h vq vd)) w:=
 bZ g 0 [.pointer (some ⟨b,0,none⟩),.int .i64 o.K,h,vq,.int .i64 o.O,.int .i64 o.N,vd] underlying91 rfl ZV λj _=>by
  rw[z.cell,bc,cB,aF]
def Ew (w:World) (M:Nat->Nd) (P:List ByteArray) (e:Ending) (w':World):Prop:=
 ay [] w w'/\(((bq M P).2≠0/\e= .returned (.tuple #[cH 0 ⟨#[]⟩ false 0,.int .i64 (bq M P).2]))\/
  ((bq M P).2=0/\∃th i,e= .returned (.tuple #[cH (bq M P).1 (aS P) th i,(0:Int)])/\
   ((th=false/\bg (M (bq M P).1).E (aS P)<0/\i=0)\/(th=true/\0<=bg (M (bq M P).1).E (aS P)/\i=bg (M (bq M P).1).E (aS P)))))
theorem Dn (h:rC w b gp B ps T own ex M)(hT:dw M)(o:jz)(vp vq vd:Value){v:Value}{g:Nat}{P:List ByteArray}(hP:gN w v g P)(hs:∀s∈P,s.size<=9223372036854775807):
  Calls prog 123 #[cB b o vp vq vd,v] w (Ew w M P):=by
 have cM:ay [] w ((w.alloc (.cells (cB b o vp vq vd) 91)).alloc (.cells (cH 0 ⟨#[]⟩ false 0) 174)):=((ay.refl _ _).alloc _).alloc _;have hA:=(h.nd.snd hT).agree;obtain⟨Md,fJ⟩:=hh2 (Ru (h.keep0 cM).shT hA (hP.keep cM (by simp)) hs) cM;have HJ:Hid (bh ((w.alloc (.cells (cB b o vp vq vd) 91)).alloc (.cells (cH 0 ⟨#[]⟩ false 0) 174)) w.heap.size (cB b o vp vq vd) 91/\bh ((w.alloc (.cells (cB b o vp vq vd) 91)).alloc (.cells (cH 0 ⟨#[]⟩ false 0) 174)) (w.heap.size+1) (cH 0 ⟨#[]⟩ false 0) 174):=⟨(bh.new w _ _).alloc _,bh.new2 w _ _ _ _⟩;have aa:=ar (λhe=>pU (M:=M) (p:=P) he);have HG:Hid (∀x,(M x).K=2->∀W,ay [] w W->Calls prog 30 #[b,(x:Int)] W (Tp W (nT T x))):=λx hx W J=>(h.keep0 J).get (by omega)
 have qV:Hid (∀x,(M x).K=2->∀W v g s,bD W v g (nT T x).E->Calls prog 162 #[aM (nT T x) v,.string s] W λe w'=>
   ∃(r:Int) (ok:Bool),e= .returned (.tuple #[(r:Int),.bool ok])/\ay [] W w'/\((ok=false/\bg (M x).E s<0/\r=0)\/(ok=true/\0<=bg (M x).E s/\r=bg (M x).E s))):=λx hx W v g s hE=>by
  obtain⟨A,X,B',hs⟩:=lJ (hA.tree.rises x) s;have h1:=lK hs λq hq=>(hA.tree.lead x q hq).1.1
  rw[hA.ents x] at hs;have hl:=h.nd.st.gots.elen x;refine(S4 (nT T x) (h.nd.store (i:=x) (by omega)).len hE hs (by omega)).mono ?_;rintro e w' ⟨rfl,J⟩;refine⟨_,_,rfl,J,?_⟩;rcases Int.lt_or_le (bg (M x).E s) 0 with h2|h2
  ·exact .inl ⟨by rw[h1.1.1 h2];rfl,h2,by rw[h1.1.1 h2];rfl⟩
  ·exact .inr ⟨by rw[h1.2 h2];rfl,h2,by rw[h1.2 h2];rfl⟩
 have ou:Hid (∀x,(M x).K=2->(nT T x).B.length=13):=λx hx=>(h.nd.store (i:=x) (by omega)).len
 have rz:Hid (∀w',ay [] w w'->(bq M P).2≠0->Ew w M P (.returned (.tuple #[cH 0 ⟨#[]⟩ false 0,.int .i64 (bq M P).2])) w'):=λw' J hr=>⟨J,.inl ⟨hr,rfl⟩⟩
 have rf:Hid (∀w' r ok,ay [] w w'->(bq M P).2=0->((ok=false/\bg (M (bq M P).1).E (aS P)<0/\r=0)\/(ok=true/\0<=bg (M (bq M P).1).E (aS P)/\r=bg (M (bq M P).1).E (aS P)))->Ew w M P (.returned (.tuple #[cH (bq M P).1 (aS P) ok r,(0:Int)])) w'):=λw' r ok J hr hh=>⟨J,.inr ⟨hr,ok,r,rfl,hh⟩⟩
 have rH:=dA;have az:=pg;clear h hT hA hP hs cM;generalize Ew w M P=Q,bq M P=R,aS P=nm,aj:aM ck (.slice none 0 0)=Z0 at *;have Fq:Hid (Z0.size=18):=by show _=_;rw[<-aj];rfl
 clear aj;have e0:cH 0 ⟨#[]⟩ false 0= #[.int .i64 0,.string ⟨#[]⟩,.bool false,.int .i64 0]:=rfl;have ej:cB b o vp vq vd= #[.pointer (some ⟨b,0,none⟩),.int .i64 o.K,vp,vq,.int .i64 o.O,.int .i64 o.N,vd]:=rfl;rw[ej,e0] at *;clear e0 ej;obtain⟨x,ee⟩:=R
 dsimp only at *
 go_in;go_wp2_with fail;refine Md.out.mono ?_;rintro e w1 ⟨z,⟨rfl,rfl⟩|⟨af,rfl⟩⟩
 ·have V:=(aa.out rfl).1
  have ah:=HG.out x V w1 (fJ.out.trans' z);obtain⟨Y2,ai⟩:=hh2 ah (qV.out x V);have ak:=ou.out x V;have c1:w1.cell? w.heap.size=some (.pointer (some ⟨b,0,none⟩)):=by rw[(HJ.out.1.keep z (by simp)).cell];rfl
  have EO:Hid (bh w1 (w.heap.size+1) _ _):=HJ.out.2.keep z (by simp);have jH:=ar (fJ.out.trans' z);have aA:Hid (w.heap.size+2<=w1.heap.size):=by show _<=_;have :=z.size;rw[aX,aX] at this;omega
  clear z Md HJ fJ aa HG qV ou rz ah V;generalize hn:nT T x=n at *;clear hn;have JH:=ar (λw' r ok J hh=>rf.out w' r ok J rfl hh);clear rf;have av:Hid (∀w' r ok g ac T',bh w' g ac T'->ac.size=4->∃G,(storeVar 174 (g:Nat) (.agg #[(x:Int),.string nm,.bool ok,(r:Int)])).run prog w'= .ok () G/\(loadVar 174 (g:Nat)).run prog G= .ok (.agg (cH x nm ok r)) G/\ay [g] w' G):=λw' r ok g ac T' hb hc=>by
   obtain⟨G,a1,a2,a3⟩:=iU (d:=x) (nm:=nm) (th:=ok) (i:=r) hb hc;exact⟨G,a1,jn a2,a3⟩
  generalize (x:Int)=xi at *;go_wp2_with fail;refine Y2.out.mono ?_;rintro e w2 ⟨v,g,va,rfl,hE,hg,U⟩;obtain⟨w3,p1,p2,p3⟩:=cz (n:=n) (v:=v) (bh.new w2 Z0 75) Fq.out ak hE.one;have ax:=U.size;have nD:ay [] w2 w3:=((ay.refl _ _).alloc _).trans p3 (by intro x hx;rw[au] at hx;omega);obtain⟨pq,uJ,ag⟩:=hh3 p1 (cg p2 ak) (ai.out w3 v g nm (hE.keep nD (by simp)));have qK:Hid (bh w3 (w.heap.size+1) _ _):=(EO.out.keep U (by simp)).keep nD (by simp);have oI:=ar (jH.out.trans' (U.trans' nD));clear p1 p2 p3 U nD hE hg ax Y2 ai EO jH c1;generalize aM n v=Zn at *;go_wp2_with(with_reducible first|refine gS 75 pq.out ?_|refine gL 75 uJ.out ?_);refine ag.out.mono ?_;rintro e w4 ⟨r,ok,rfl,ae,hh⟩;obtain⟨w5,q1,q2,q3⟩:=av.out w4 r ok (w.heap.size+1) _ _ (qK.out.keep ae (by simp)) rfl;obtain⟨rA,Iz,HF⟩:=hh3 q1 q2 (JH.out w5 r ok ((oI.out.trans' ae).trans q3 (by intro y hy;rw[au] at hy;omega)) hh);clear q1 q2 q3 ae hh JH oI qK ag uJ pq av;go_wp2_with(with_reducible refine gS 174 rA.out ?_);exact aI (eG results123 rfl Iz.out rfl) rfl HF.out
 ·obtain⟨w3,p1,p2,p3⟩:=iU (d:=0) (nm:=⟨#[]⟩) (th:=false) (i:=0) (HJ.out.2.keep z (by simp)) rfl
  obtain⟨pq,uJ,HF⟩:=hh3 p1 (jn p2) (rz.out w3 ((fJ.out.trans' z).trans p3 (by intro y hy;rw[au] at hy;omega)) af);have b1:(ee != 0)=true:=by simpa using af
  clear p1 p2 p3 z af Md HJ fJ aa HG qV ou rz rf Fq rH;unfold cH at pq uJ;go_wp2_with(with_reducible refine gS 174 pq.out ?_);exact aI (eG results123 rfl uJ.out rfl) rfl HF.out
def Dp (K:Int):Bool:=K==0||K==1||K==2||K==7||K==8||K==12
theorem Tt (hF:ni M)(i:Nat):∀k,lC M k i<=24*k:=by
 intro k;induction k with
 |zero=>exact aH _
 |succ k ih=>
  show lC M k i+tE (M k).E i<=_;have h:tE (M k).E i<=(M k).E.length:=List.countP_le_length;have z:=hF.len k;omega
theorem OQ (G:dw M)(hF:ni M){j:Nat}(h:(M j).K≠0):1<=(M j).L/\(M j).L<=100000:=by
 have U:=G.rng h;have J:=G.links j U;have V:=Tt hF j 32;rcases G.kind j with z|z|z
 ·rw[z] at h;exact absurd rfl h
 ·have :=J.1 z.1;omega
 ·have :=J.2 z.1;omega
end
end Go.Proofs.YtimcfdnbpkiniaaGreatDoor
