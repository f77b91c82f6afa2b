/- Lemmas. -/
import Derived.Test.YtimcfdnbpkiniaaGreatDoorM23
import Derived.Laws.BytesString
set_option maxHeartbeats 4000000
set_option maxRecDepth 100000
namespace Go.Proofs.YtimcfdnbpkiniaaGreatDoor
open Go.Proofs.Tryz
open Go.RowKit
variable{P:List ByteArray}{fn:Func}{tmps:Array Value}{a b c d g gp n u:Nat}{h:Addr}{v x y:Value}{w:World}{T:List (bS×Value)}{nm:ByteArray}{th:Bool}{i:Int}{o:iP}{B X:List Int}{ps:List (Int×Int)}{own:Nat->List Nat}{ex:List Nat}{M:Nat->Nd}
theorem yw{P:Program}{t:Nat}{V:Addr}(z:fn.results= #[.cell a t,.cell b u,.tmp c])(W:tmps.getD a undef= .pointer (some V))(U:tmps.getD b undef= .pointer (some h))
  (hl:(loadVar t V).run P w= .ok v w) (G:(loadVar u h).run P w= .ok x w) (J:tmps.getD c undef=y):(results fn tmps).run P w= .ok (.tuple #[v,x,y]) w:=by
 rw[fg] at W U J;unfold results;rw[z];simp[W,U,asAddr,hl,G,J]
theorem qY{P:Program}(z:fn.results= #[.tmp a,.cell b u,.tmp c])(V:tmps.getD a undef=v)(U:tmps.getD b undef= .pointer (some h))
  (G:(loadVar u h).run P w= .ok x w) (J:tmps.getD c undef=y):(results fn tmps).run P w= .ok (.tuple #[v,x,y]) w:=by
 rw[fg] at V U J;unfold results;rw[z];simp[V,U,asAddr,G,J]
theorem oV (w:World):(zeroValue 174).run prog w= .ok (.agg #[(0:Int),.string ⟨#[]⟩,false,(0:Int)]) w:=by kernel_rfl
theorem iQ{T:Nat}{h:Array Value}(G:bc w g h T)(J:h.size=4):
  ∃w',(storeVar 174 g (.agg (cH d nm th i))).run prog w= .ok () w'/\bc w' g (cH d nm th i) T/\ay [g] w w':=
 bE (P:= prog) (ty:= 174) (cs:=[.int .i64 (d:Int),.string nm,.bool th,.int .i64 i]) Kj G (by rw[J];rfl) (by
  intro u z;simp only[aM,aK,bC] at z;rcases z with rfl|rfl|rfl|rfl<;>rfl)
theorem jk{T:Nat}(h:bc w g (cH d nm th i) T):(loadVar 174 g).run prog w= .ok (.agg (cH d nm th i)) w:=
 bX g 0 [.int .i64 (d:Int),.string nm,.bool th,.int .i64 i] underlying174 rfl Kj λj _=>by
  rw[h.cell,bp,cH,aG]
theorem jC{T:Nat}{h vq vd:Value}(z:bc w g (cC b o h vq vd) T):(loadVar 91 g).run prog w= .ok (.agg (cC b o h vq vd)) w:=
 bX g 0 [.pointer (some ⟨b,0,none⟩),.int .i64 o.K,h,vq,.int .i64 o.O,.int .i64 o.N,vd] underlying91 rfl aac λj _=>by
  rw[z.cell,bp,cC,aG]
def Em (w:World) (M:Nat->Nd) (P:List ByteArray) (e:Ending) (w':World):Prop:=
 ay [] w w'/\(((bo M P).2≠0/\e= .returned (.tuple #[cH 0 ⟨#[]⟩ false 0,.int .i64 (bo M P).2]))\/
  ((bo M P).2=0/\∃th i,e= .returned (.tuple #[cH (bo M P).1 (aQ P) th i,(0:Int)])/\
   ((th=false/\ba (M (bo M P).1).E (aQ P)<0/\i=0)\/(th=true/\0<=ba (M (bo M P).1).E (aQ P)/\i=ba (M (bo M P).1).E (aQ P)))))
theorem Dc (h:rz w b gp B ps T own ex M)(hT:dB M)(o:iP)(vp vq vd:Value){v:Value}{g:Nat}{P:List ByteArray}(hP:fU w v g P)(hs:∀s∈P,s.size<=9223372036854775807):
  Calls prog 123 #[cC b o vp vq vd,v] w (Em w M P):=by
 have cM:ay [] w ((w.alloc (.cells (cC b o vp vq vd) 91)).alloc (.cells (cH 0 ⟨#[]⟩ false 0) 174)):=((ay.refl _ _).alloc _).alloc _;have hA:=(h.nd.snd hT).agree;obtain⟨Xn,fG⟩:=hh2 (Rt (h.keep0 cM).shT hA (hP.keep cM) hs) cM;have HJ:Hid (bc ((w.alloc (.cells (cC b o vp vq vd) 91)).alloc (.cells (cH 0 ⟨#[]⟩ false 0) 174)) w.heap.size (cC b o vp vq vd) 91/\bc ((w.alloc (.cells (cC b o vp vq vd) 91)).alloc (.cells (cH 0 ⟨#[]⟩ false 0) 174)) (w.heap.size+1) (cH 0 ⟨#[]⟩ false 0) 174):=⟨(bc.new w _ _).alloc _,bc.new2 w _ _ _ _⟩;have ac:=ar (λhe=>pG (M:=M) (p:=P) he);have HG:Hid (∀x,(M x).K=2->∀U,ay [] w U->Calls prog 30 #[b,(x:Int)] U (Tk U (nT T x))):=λx hx U W=>(h.keep0 W).get (by omega)
 have qN:Hid (∀x,(M x).K=2->∀U v g s,bD U v g (nT T x).E->Calls prog 162 #[aL (nT T x) v,.string s] U λe w'=>
   ∃(r:Int) (ok:Bool),e= .returned (.tuple #[(r:Int),.bool ok])/\ay [] U w'/\((ok=false/\ba (M x).E s<0/\r=0)\/(ok=true/\0<=ba (M x).E s/\r=ba (M x).E s))):=λx hx U v g s hE=>by
  obtain⟨A,X,B',hs⟩:=lA (hA.tree.rises x) s;have h1:=lC hs λq hq=>(hA.tree.lead x q hq).1.1
  rw[hA.ents x] at hs;have hl:=h.nd.st.gots.elen x;refine(SZ (nT T x) (h.nd.store (i:=x) (by omega)).len hE hs (by omega)).mono ?_;rintro e w' ⟨rfl,W⟩;refine⟨_,_,rfl,W,?_⟩;rcases Int.lt_or_le (ba (M x).E s) 0 with h2|h2
  ·exact .inl ⟨by rw[h1.1.1 h2];rfl,h2,by rw[h1.1.1 h2];rfl⟩
  ·exact .inr ⟨by rw[h1.2 h2];rfl,h2,by rw[h1.2 h2];rfl⟩
 have nP:Hid (∀x,(M x).K=2->(nT T x).B.length=13):=λx hx=>(h.nd.store (i:=x) (by omega)).len
 have rh:Hid (∀w',ay [] w w'->(bo M P).2≠0->Em w M P (.returned (.tuple #[cH 0 ⟨#[]⟩ false 0,.int .i64 (bo M P).2])) w'):=λw' W hr=>⟨W,.inl ⟨hr,rfl⟩⟩
 have qU:Hid (∀w' r ok,ay [] w w'->(bo M P).2=0->((ok=false/\ba (M (bo M P).1).E (aQ P)<0/\r=0)\/(ok=true/\0<=ba (M (bo M P).1).E (aQ P)/\r=ba (M (bo M P).1).E (aQ P)))->Em w M P (.returned (.tuple #[cH (bo M P).1 (aQ P) ok r,(0:Int)])) w'):=λw' r ok W hr hh=>⟨W,.inr ⟨hr,ok,r,rfl,hh⟩⟩
 have rq:=dC;have aA:=oV;clear h hT hA hP hs cM;generalize Em w M P=Q,bo M P=R,aQ P=nm,ai:aL bY (.slice none 0 0)=Z0 at *;have Fb:Hid (Z0.size=18):=by show _=_;rw[<-ai];rfl
 clear ai;have e0:cH 0 ⟨#[]⟩ false 0= #[.int .i64 0,.string ⟨#[]⟩,.bool false,.int .i64 0]:=rfl;have ej:cC b o vp vq vd= #[.pointer (some ⟨b,0,none⟩),.int .i64 o.K,vp,vq,.int .i64 o.O,.int .i64 o.N,vd]:=rfl;rw[ej,e0] at *;clear e0 ej;obtain⟨x,ee⟩:=R
 dsimp only at *
 go_in;go_wp2_with fail;refine Xn.out.mono ?_;rintro e w1 ⟨z,⟨rfl,rfl⟩|⟨ae,rfl⟩⟩
 ·have J:=(ac.out rfl).1
  have ag:=HG.out x J w1 (fG.out.trans' z);obtain⟨PD,av⟩:=hh2 ag (qN.out x J);have ak:=nP.out x J;have c1:w1.cell? w.heap.size=some (.pointer (some ⟨b,0,none⟩)):=by rw[(HJ.out.1.keep z).cell];rfl
  have EF:Hid (bc w1 (w.heap.size+1) _ _):=HJ.out.2.keep z;have jv:=ar (fG.out.trans' z);have az:Hid (w.heap.size+2<=w1.heap.size):=by show _<=_;have :=z.size;rw[aU,aU] at this;omega
  clear z Xn HJ fG ac HG qN nP rh ag J;generalize hn:nT T x=n at *;clear hn;have JB:=ar (λw' r ok W hh=>qU.out w' r ok W rfl hh);clear qU;have aj:Hid (∀w' r ok g aa T',bc w' g aa T'->aa.size=4->∃G,(storeVar 174 (g:Nat) (.agg #[(x:Int),.string nm,.bool ok,(r:Int)])).run prog w'= .ok () G/\(loadVar 174 (g:Nat)).run prog G= .ok (.agg (cH x nm ok r)) G/\ay [g] w' G):=λw' r ok g aa T' hb hc=>by
   obtain⟨G,a1,a2,a3⟩:=iQ (d:=x) (nm:=nm) (th:=ok) (i:=r) hb hc;exact⟨G,a1,jk a2,a3⟩
  generalize (x:Int)=xi at *;go_wp2_with fail;refine PD.out.mono ?_;rintro e w2 ⟨v,g,va,rfl,hE,hg,V⟩;obtain⟨w3,p1,p2,p3⟩:=cr (n:=n) (v:=v) (bc.new w2 Z0 75) Fb.out ak hE.one;have ax:=V.size;have ny:ay [] w2 w3:=((ay.refl _ _).alloc _).trans p3 (by intro x hx;rw[au] at hx;omega);obtain⟨o5,uk,ah⟩:=hh3 p1 (bZ p2 ak) (av.out w3 v g nm (hE.keep ny));have qC:Hid (bc w3 (w.heap.size+1) _ _):=(EF.out.keep V).keep ny;have og:=ar (jv.out.trans' (V.trans' ny));clear p1 p2 p3 V ny hE hg ax PD av EF jv c1;generalize aL n v=Zn at *;go_wp2_with(with_reducible first|refine gS 75 o5.out ?_|refine gL 75 uk.out ?_);refine ah.out.mono ?_;rintro e w4 ⟨r,ok,rfl,af,hh⟩;obtain⟨w5,q1,q2,q3⟩:=aj.out w4 r ok (w.heap.size+1) _ _ (qC.out.keep af) rfl;obtain⟨rp,JL,HF⟩:=hh3 q1 q2 (JB.out w5 r ok ((og.out.trans' af).trans q3 (by intro y hy;rw[au] at hy;omega)) hh);clear q1 q2 q3 af hh JB og qC ah uk o5 aj;go_wp2_with(with_reducible refine gS 174 rp.out ?_);exact aH (eI results123 rfl JL.out rfl) rfl HF.out
 ·obtain⟨w3,p1,p2,p3⟩:=iQ (d:=0) (nm:=⟨#[]⟩) (th:=false) (i:=0) (HJ.out.2.keep z) rfl
  obtain⟨o5,uk,HF⟩:=hh3 p1 (jk p2) (rh.out w3 ((fG.out.trans' z).trans p3 (by intro y hy;rw[au] at hy;omega)) ae);have b1:(ee != 0)=true:=by simpa using ae
  clear p1 p2 p3 z ae Xn HJ fG ac HG qN nP rh qU Fb rq;unfold cH at o5 uk;go_wp2_with(with_reducible refine gS 174 o5.out ?_);exact aH (eI results123 rfl uk.out rfl) rfl HF.out
def Dd (K:Int):Bool:=K==0||K==1||K==2||K==7||K==8||K==12
theorem Tn (hF:mW M)(i:Nat):∀k,lf M k i<=24*k:=by
 intro k;induction k with
 |zero=>exact aI _
 |succ k ih=>
  show lf M k i+tD (M k).E i<=_;have h:tD (M k).E i<=(M k).E.length:=List.countP_le_length;have z:=hF.len k;omega
theorem OL (G:dB M)(hF:mW M){j:Nat}(h:(M j).K≠0):1<=(M j).L/\(M j).L<=100000:=by
 have U:=G.rng h;have J:=G.links j U;have V:=Tn hF j 32;rcases G.kind j with z|z|z
 ·rw[z] at h;exact absurd rfl h
 ·have :=J.1 z.1;omega
 ·have :=J.2 z.1;omega
def qx (M:Nat->Nd) (P:List ByteArray):Int:=
 if P=[] then 3 else if (bo M P).2≠0 then (bo M P).2 else if 0<=ba (M (bo M P).1).E (aQ P) then 3 else 0
def kA (M:Nat->Nd) (P:List ByteArray):Int:=
 if (bo M P).2≠0 then (bo M P).2 else if ba (M (bo M P).1).E (aQ P)<0 then 2 else 0
theorem zh (h:qx M P=0):P≠[]/\(bo M P).2=0/\ba (M (bo M P).1).E (aQ P)<0:=by
 unfold qx at h;split at h
 ·omega
 ·split at h
  ·omega
  ·split at h
   ·omega
   ·refine⟨by assumption,by omega,by omega⟩
theorem qG (h:kA M P=0):(bo M P).2=0/\0<=ba (M (bo M P).1).E (aQ P):=by
 unfold kA at h;split at h
 ·omega
 ·split at h
  ·omega
  ·exact⟨by omega,by omega⟩
def dc (M:Nat->Nd) (P:List ByteArray):Nat×Int:=if (cO M P).2=0/\(M (cO M P).1).K=2 then (0,5) else cO M P
theorem pK (h:(dc M P).2=0):(cO M P).2=0/\(M (cO M P).1).K≠2/\dc M P=cO M P:=by
 unfold dc at h ⊢;split at h
 ·simp at h
 ·next hn=>rw[aA hn];exact⟨h,λz=>hn ⟨h,z⟩,rfl⟩
def zQ (X:List Int) (qs:List (Int×Int)) (M':Nat->Nd):Prop:=
 ∃h z,nC (az X qs) h z [] M'/\(∀k,8<=k->k<816->(az X qs).getD k 0=X.getD k 0)/\nS X (az X qs) 400
theorem Goes.lands{qs:List (Int×Int)}{M':Nat->Nd}(h:Goes X qs [] M' n)(hn:n<=400):zQ X qs M':=by
 obtain⟨U,G,z,W,V⟩:=h;exact⟨U,G,z,λk _ J=>W k J,V.mono hn⟩
theorem Goes.trans{p q:List (Int×Int)}{ex':List Nat}{M1 G:Nat->Nd}{m:Nat}(h:Goes X p ex M1 n)(k:Goes (az X p) q ex' G m):Goes X (p++q) ex' G (n+m):=by
 obtain⟨-,-,-,h2,h3⟩:=h;obtain⟨W,U,V,k2,J⟩:=k;rw[Goes,br];exact⟨W,U,V,λj z=>by rw[k2 j z,h2 j z],h3.trans J⟩
theorem nC.stay(h:nC X T own [] M):zQ X [] M:=⟨T,own,h,λ_ _ _=>rfl,nS.refl _ _⟩
def aeY (o:iP) (r h:lX):Prop:=r=h\/(o.K=12/\∃n:Int,(n=0\/n=1)/\r={ h with N:=n })
def kY (X:List Int) (M:Nat->Nd) (o:iP) (r:lX) (qs:List (Int×Int)):Prop:=
 (r.E=7/\Dd o.K=true/\((iJ M o).2.E=0\/(iJ M o).2.E=7)/\((aY X).length<40\/(iJ M o).2.E=7))\/
 (r.E≠0/\(iJ M o).2=cW r.E)\/
 (r.E=0/\(iJ M o).2.E=0/\aeY o r (iJ M o).2/\zQ X qs (iJ M o).1)
theorem LL (h:o.K=0\/o.K=1):iJ M o=BB M o:=aB h
theorem Fg (h:o.K=2\/o.K=3\/o.K=4):iJ M o=yo M o:=by unfold iJ;rw[aA,aB h]
theorem De (h:o.K=5\/o.K=6):iJ M o=qE M o:=by unfold iJ;rw[aA,aA,aB h]
theorem Df (h:o.K=7):iJ M o=qF M o:=by unfold iJ;rw[aA,aA,aA,aB h]
theorem LM (h:o.K=8):iJ M o=zM M o:=by unfold iJ;rw[aA,aA,aA,aA,aB h]
theorem BL (h:o.K=9\/o.K=10):iJ M o=(M,zN M o):=by unfold iJ;rw[aA,aA,aA,aA,aA,aB h]
theorem aeZ (h:o.K=11):iJ M o=(M,if o.N=1\/o.N=2 then fh else cW 1):=by unfold iJ;rw[aA,aA,aA,aA,aA,aA,aB h]
theorem acz (h:o.K=12):iJ M o=(M,fh):=by unfold iJ;rw[aA,aA,aA,aA,aA,aA,aA,aB h]
theorem acA (h:¬(0<=o.K/\o.K<=12)):iJ M o=(M,cW 1):=by unfold iJ;rw[aA,aA,aA,aA,aA,aA,aA,aA]
theorem Hp (h:dB M){d:Nat}{nm:ByteArray}(z:ba (M d).E nm<0)(i:Int):wP (M d).E nm i=xw (M d).E (nm,i):=by
 obtain⟨A,B,G,J⟩:=BC h z;rw[Aw G,J]
theorem V2 (z:o.K=0\/o.K=1)(h:qx M o.P≠0):(iJ M o).2=cW (qx M o.P):=by
 rw[LL z];unfold BB qx at *;split
 ·rfl
 ·next h1=>
  rw[aA h1] at h;split
  ·rfl
  ·next h2=>
   rw[aA h2] at h;split
   ·rfl
   ·next h3=>rw[aA h3] at h;exact absurd rfl h
theorem Tp (G:o.K=0\/o.K=1)(z:qx M o.P=0):iJ M o=match vB M with
  |none=>(M,cW 7)
  |some i=>if (M (bo M o.P).1).E.length<24 then (Rc M (bo M o.P).1 i (1+o.K) (xw (M (bo M o.P).1).E (aQ o.P,(i:Int))),{ fh with N:=(i:Int) }) else (M,cW 7):=by
 obtain⟨h,U,J⟩:=zh z;rw[LL G];unfold BB;rw[aA h,aA,aA];rfl
def Xa (F K:Int):bS:=⟨F,K,1,0,List.replicate 13 0,[]⟩
theorem aad (k:Nat):(List.replicate 13 (0:Int)).getD k 0=0:=by
 rw[aj,bB];split<;>rfl
theorem aae{F K:Int}(hF:F=1\/F=2)(G:K=1\/K=2):cm (Xa F K):=by
 refine⟨hF,⟨by show(0:Int)<=1;omega,by show(1:Int)<=65535;omega⟩,?_⟩;rcases G with rfl|rfl
 ·refine .inl ⟨rfl,⟨by show(0:Int)<=0;omega,by show(0:Int)<=832;omega⟩,rfl,by show List.replicate 13 (0:Int)=jn (List.replicate 13 0) (bF 0);decide,λk z=> ?_⟩
  show(0<=(List.replicate 13 (0:Int)).getD k 0/\(List.replicate 13 (0:Int)).getD k 0<256)/\((List.replicate 13 (0:Int)).getD k 0≠0->_);rw[aad];exact⟨by omega,λh=>absurd rfl h⟩
 ·exact .inr ⟨rfl,by show(0:Nat)<=24;omega,rfl,rfl,λk z=>by simp[Xa] at z⟩
theorem OM:(fu (List.replicate 13 (0:Int))).length=0:=by decide
theorem acB (F K:Int):dA (Xa F K)=0:=by
 unfold dA;split
 ·rw[nB]
  show(if 6<(fu (List.replicate 13 (0:Int))).length then 1 else 0)+(0+2)/3+(0+2)/3+(0+2)/3+(0+2)/3=0;rw[OM];rfl
 ·simp[eV,bj,Xa]
theorem aaf (F K:Int):dv (Xa F K)=[]:=rfl
theorem acC (X:List Int)(F K:Int):jS X (Xa F K):=λ_ k z h=>by
 exact absurd (aad k) h
theorem acD (X:List Int)(F K:Int):sA X (Xa F K)=⟨K,1,[],[]⟩:=by
 unfold sA;split
 ·rfl
 ·rfl
section
variable {X:List Int} {T:List (bS×Value)} {own:Nat->List Nat} {M:Nat->Nd}
theorem nC.made(h:nC X T own [] M){F K:Int}(hF:F=1\/F=2)(V:K=1\/K=2){i r:Int}{qs:List (Int×Int)}(J:ace X (Xa F K) i r qs):
  (r=7/\qs=[]/\vB M=Option.none)\/(r=0/\∃j:Nat,i=(j:Int)/\vB M=some j/\j<32/\(M j).K=0/\Goes X qs [] (na M j ⟨K,1,[],[]⟩) 12/\(aY (az X qs)).length=(aY X).length):=by
 rcases h.new rfl (aae hF V) (acB F K) (aaf F K) (acC X F K) J with z|⟨z,j,h2,h3,W,h5,U,G,h7,h8,h9⟩
 ·exact .inl z
 ·rw[acD] at G
  exact .inr ⟨z,j,h2,h3,W,h5,⟨_,U,G,h8,h9⟩,h7⟩
theorem V3 (hT:dB M){o:iP}(hK:o.K=0\/o.K=1)(hv:qx M o.P=0){j:Nat}(hj:vB M=some j)(Co:(M j).K=0){q1 q2:List (Int×Int)}{r:Int}(h1:Goes X q1 [] (na M j ⟨1+o.K,1,[],[]⟩) 12)(oZ:(aY (az X q1)).length=(aY X).length)
  (W:tI (az X q1) [] (na M j ⟨1+o.K,1,[],[]⟩) (bo M o.P).1 (aQ o.P) (j:Int) r q2):kY X M o { fh with N:=(j:Int),E:=r } (q1++q2):=by
 have z:=Tp (M:=M) hK hv;rw[hj] at z
 dsimp only at z
 obtain⟨g1,g2,g3⟩:=zh hv;have V:(bo M o.P).1≠j:=λe=>by
  have :=(pG (M:=M) g2).1;rw[e] at this;omega
 have hE:(na M j ⟨1+o.K,1,[],[]⟩ (bo M o.P).1).E=(M (bo M o.P).1).E:=by rw[dH _ _ V]
 have G:=Hp hT g3 (j:Int);have U:Dd o.K=true:=by unfold Dd;rcases hK with h|h<;>rw[h]<;>rfl
 unfold tI at W;rw[hE,G,vD] at W;rcases W with ⟨rfl,-,J⟩|⟨rfl,J,h4⟩
 ·by_cases hl:(M (bo M o.P).1).E.length<24
  ·rw[aB hl] at z
   refine .inl ⟨rfl,U,.inl (by rw[z];rfl),.inl ?_⟩;rcases J with J|J
   ·omega
   ·rw[oZ] at J;omega
  ·rw[aA hl] at z
   exact .inr (.inl ⟨by show(7:Int)≠0;omega,by rw[z]⟩)
 ·rw[aB] at z
  refine .inr (.inr ⟨rfl,by rw[z];rfl,.inl (by rw[z];rfl),?_⟩);rw[z];refine(h1.trans h4).lands (by omega)
end
def Rw (w:World) (M:Nat->Nd) (P:List ByteArray) (e:Ending) (w':World):Prop:=
 ay [] w w'/\((qx M P≠0/\e= .returned (.tuple #[cH 0 ⟨#[]⟩ false 0,(qx M P:Int)]))\/(qx M P=0/\e= .returned (.tuple #[cH (bo M P).1 (aQ P) false 0,(0:Int)])))
theorem Kl (h:rz w b gp B ps T own ex M)(hT:dB M)(o:iP)(vp vq vd:Value){v:Value}{g:Nat}{P:List ByteArray}(hP:fU w v g P)(hs:∀s∈P,s.size<=9223372036854775807):
  Calls prog 127 #[cC b o vp vq vd,v] w (Rw w M P):=by
 have cM:ay [] w ((w.alloc (.cells (cC b o vp vq vd) 91)).alloc (.cells (cH 0 ⟨#[]⟩ false 0) 174)):=((ay.refl _ _).alloc _).alloc _;have xp:=ar (Dc (h.keep0 cM) hT o vp vq vd (hP.keep cM) hs);obtain⟨a,cap,rfl,ag,af,-⟩:=hP.open;have fG:=ar cM;have jK:bc ((w.alloc (.cells (cC b o vp vq vd) 91)).alloc (.cells (cH 0 ⟨#[]⟩ false 0) 174)) w.heap.size (cC b o vp vq vd) 91 :=(bc.new w _ _).alloc _;have rZ:bc ((w.alloc (.cells (cC b o vp vq vd) 91)).alloc (.cells (cH 0 ⟨#[]⟩ false 0) 174)) (w.heap.size+1) (cH 0 ⟨#[]⟩ false 0) 174 :=bc.new2 w _ _ _ _;have HJ:Hid (bc _ w.heap.size (cC b o vp vq vd) _/\bc _ (w.heap.size+1) (cH 0 ⟨#[]⟩ false 0) _):=⟨jK,rZ⟩;have lN:=ar (jC jK)
 -- how a spot is told
 have z:Hid (∀wx d nm th i,ay [] ((w.alloc (.cells (cC b o vp vq vd) 91)).alloc (.cells (cH 0 ⟨#[]⟩ false 0) 174)) wx->∃wy,(storeVar 174 (w.heap.size+1:Nat) (.agg (cH d nm th i))).run prog wx= .ok () wy/\(loadVar 174 (w.heap.size+1:Nat)).run prog wy= .ok (.agg (cH d nm th i)) wy/\ay [] w wy):=λwx d nm th i hk=>by
  obtain⟨wy,s1,s2,s3⟩:=iQ (d:=d) (nm:=nm) (th:=th) (i:=i) (HJ.out.2.keep hk) rfl;exact⟨wy,s1,jk s2,(fG.out.trans' hk).trans s3 (by intro y hy;rw[au] at hy;omega)⟩
 have rh:Hid (∀w' r,ay [] w w'->qx M P=r->r≠0->Rw w M P (.returned (.tuple #[cH 0 ⟨#[]⟩ false 0,(r:Int)])) w'):=λw' r hk hr h0=>⟨hk,.inl ⟨by rw[hr];exact h0,by rw[hr]⟩⟩
 have qU:Hid (∀w',ay [] w w'->qx M P=0->Rw w M P (.returned (.tuple #[cH (bo M P).1 (aQ P) false 0,(0:Int)])) w'):=λw' hk hr=>⟨hk,.inr ⟨hr,rfl⟩⟩
 have HV:Hid (qx M P=if P=[] then 3 else if (bo M P).2≠0 then (bo M P).2 else if 0<=ba (M (bo M P).1).E (aQ P) then 3 else 0):=rfl;have ai:=oV;clear h hT hP hs cM jK rZ;generalize Rw w M P=Q,qx M P=ve at *;have e0:cH 0 ⟨#[]⟩ false 0= #[.int .i64 0,.string ⟨#[]⟩,.bool false,.int .i64 0]:=rfl;rcases eo P.length with h0|h0
 ·have ac:P=[]:=List.length_eq_zero_iff.1 h0
  obtain⟨w2,s1,s2,s3⟩:=z.out _ 0 ⟨#[]⟩ false 0 (ay.refl _ _);have hv:ve=3:=by rw[HV.out,aB ac]
  have HF:=ar (rh.out w2 3 s3 hv (by omega));rw[h0];clear s3 xp fG HJ lN z rh qU HV hv ac h0 ag af;rw[e0] at *;clear e0;generalize hJ:cC b o vp vq vd=J at *;obtain⟨EF,zn⟩:=hh2 s1 s2;clear s1 s2 hJ;go_in;go_wp2_with(with_reducible refine gS 174 EF.out ?_);exact aH (eI results127 rfl zn.out rfl) rfl HF.out
 ·have U:P≠[]:=λe=>by rw[e] at h0;simp at h0
  have hv:ve=if (bo M P).2≠0 then (bo M P).2 else if 0<=ba (M (bo M P).1).E (aQ P) then 3 else 0:=by rw[HV.out,aA U]
  have W:=ar hv;clear HV hv U;unfold Em at xp;generalize bo M P=R at *;generalize ba (M R.1).E (aQ P)=f at *;generalize aQ P=nm at *;have bl:((P.length:Int)==0)=false:=by rw[cg];omega
  generalize P.length=m at *;clear h0;rw[e0] at *;clear e0;generalize hJ:cC b o vp vq vd=J at *;clear hJ;obtain⟨x,ee⟩:=R
  dsimp only at *
  go_in;go_wp2_with(with_reducible refine gL 91 lN.out ?_);refine xp.out.mono ?_;rintro e w1 ⟨V,⟨U,rfl⟩|⟨rfl,th,i,rfl,hh⟩⟩
  ·obtain⟨w2,p1,p2,p3⟩:=iQ (d:=0) (nm:=⟨#[]⟩) (th:=false) (i:=0) (bc.new w1 #[(0:Int),.string ⟨#[]⟩,false,(0:Int)] 174) rfl
   have G:=V.trans' (((ay.refl [] w1).alloc _).trans p3 (by intro x hx;rw[au] at hx;omega));obtain⟨w3,s1,s2,s3⟩:=z.out w2 0 ⟨#[]⟩ false 0 G;have HF:=ar (rh.out w3 ee s3 (by rw[W.out,aB U]) U);have b1:(ee != 0)=true:=by simpa using U
   obtain⟨jh,o5,uk⟩:=hh3 p1 s1 s2;clear p1 p2 p3 V G s1 s2 s3 U xp fG HJ lN z rh qU W;unfold cH at jh o5 uk;go_wp2_with(with_reducible first|refine gS 174 jh.out ?_|refine gS 174 o5.out ?_);exact aH (eI results127 rfl uk.out rfl) rfl HF.out
  ·obtain⟨w2,p1,p2,p3⟩:=iQ (d:=x) (nm:=nm) (th:=th) (i:=i) (bc.new w1 #[(0:Int),.string ⟨#[]⟩,false,(0:Int)] 174) rfl
   have G:=V.trans' (((ay.refl [] w1).alloc _).trans p3 (by intro x hx;rw[au] at hx;omega));have c1:w2.cell? ⟨w1.heap.size,2,none⟩=some (.bool th):=by rw[p2.cell];rfl
   have aa:=W.out;rw[aA (by simp)] at aa;rcases hh with ⟨rfl,ah,rfl⟩|⟨rfl,ae,rfl⟩
   ·obtain⟨w3,s1,s2,s3⟩:=z.out w2 x nm false 0 G
    obtain⟨HF,jh,rJ,o5,uk⟩:=hh5 (qU.out w3 s3 (by rw[aa,aA])) p1 (jk p2) s1 s2;clear p1 p2 p3 V G s1 s2 s3 xp fG HJ lN z rh qU W aa ah;generalize cH x nm false 0=Zs at *;go_wp2_with(with_reducible first|refine gS 174 jh.out ?_|refine gS 174 o5.out ?_|refine gL 174 rJ.out ?_);exact aH (eI results127 rfl uk.out rfl) rfl HF.out
   ·obtain⟨w3,s1,s2,s3⟩:=z.out w2 0 ⟨#[]⟩ false 0 G
    obtain⟨HF,jh,o5,uk⟩:=hh4 (rh.out w3 3 s3 (by rw[aa,aB ae]) (by omega)) p1 s1 s2;clear p1 p2 p3 V G s1 s2 s3 xp fG HJ lN z rh qU W aa ae;have es:cH 0 ⟨#[]⟩ false 0= #[.int .i64 0,.string ⟨#[]⟩,.bool false,.int .i64 0]:=rfl;rw[es] at o5 uk HF;clear es;generalize cH x nm true _=Zs at *;go_wp2_with(with_reducible first|refine gS 174 jh.out ?_|refine gS 174 o5.out ?_);exact aH (eI results127 rfl uk.out rfl) rfl HF.out
def Rx (w:World) (M:Nat->Nd) (T:List (bS×Value)) (P:List ByteArray) (e:Ending) (w':World):Prop:=
 ay [] w w'/\((kA M P≠0/\e= .returned (.tuple #[cH 0 ⟨#[]⟩ false 0,aL bY (.slice none 0 0),(kA M P:Int)]))\/
  (kA M P=0/\∃v g,e= .returned (.tuple #[cH (bo M P).1 (aQ P) true (ba (M (bo M P).1).E (aQ P)),aL (nT T (ba (M (bo M P).1).E (aQ P)).toNat) v,(0:Int)])/\bD w' v g (nT T (ba (M (bo M P).1).E (aQ P)).toNat).E/\w.heap.size<=g))
theorem Hq (h:rz w b gp B ps T own ex M)(hT:dB M)(o:iP)(vp vq vd:Value){v:Value}{g:Nat}{P:List ByteArray}(hP:fU w v g P)(hs:∀s∈P,s.size<=9223372036854775807):
  Calls prog 121 #[cC b o vp vq vd,v] w (Rx w M T P):=by
 obtain⟨W,hW⟩:∃W,((w.alloc (.cells (cC b o vp vq vd) 91)).alloc (.cells (cH 0 ⟨#[]⟩ false 0) 174)).alloc (.cells (aL bY (.slice none 0 0)) 75)=W:=⟨_,rfl⟩;have cM:ay [] w W:=by rw[<-hW];exact(((ay.refl _ _).alloc _).alloc _).alloc _
 obtain⟨xp,fG⟩:=hh2 (Dc (h.keep0 cM) hT o vp vq vd (hP.keep cM) hs) cM;have jK:bc W w.heap.size (cC b o vp vq vd) 91 :=by rw[<-hW];exact((bc.new w _ _).alloc _).alloc _
 have rZ:bc W (w.heap.size+1) (cH 0 ⟨#[]⟩ false 0) 174 :=by rw[<-hW];exact(bc.new2 w _ _ _ _).alloc _
 have Im:bc W (w.heap.size+1+1) (aL bY (.slice none 0 0)) 75 :=by
  rw[<-hW];have :=bc.new ((w.alloc (.cells (cC b o vp vq vd) 91)).alloc (.cells (cH 0 ⟨#[]⟩ false 0) 174)) (aL bY (.slice none 0 0)) 75;rwa[aU,aU] at this
 have HJ:Hid (bc W w.heap.size (cC b o vp vq vd) _/\bc W (w.heap.size+1) (cH 0 ⟨#[]⟩ false 0) _/\bc W (w.heap.size+1+1) (aL bY (.slice none 0 0)) _):=⟨jK,rZ,Im⟩;have lN:=ar (jC jK);have lJ:Hid (W.heap.size=w.heap.size+3):=by show _=_;rw[<-hW,aU,aU,aU]
 -- what is told
 have aa:Hid (∀U d nm th i n v,ay [] W U->n.B.length=13->v.oneCell'=true->∃wy G,(storeVar 174 (w.heap.size+1:Nat) (.agg (cH d nm th i))).run prog U= .ok () wy/\(storeVar 75 (w.heap.size+1+1:Nat) (.agg (aL n v))).run prog wy= .ok () G/\
   (loadVar 174 (w.heap.size+1:Nat)).run prog G= .ok (.agg (cH d nm th i)) G/\(loadVar 75 (w.heap.size+1+1:Nat)).run prog G= .ok (.agg (aL n v)) G/\ay [w.heap.size+1,w.heap.size+1+1] U G/\ay [w.heap.size+1,w.heap.size+1+1] U wy/\ay [] w G):=λU d nm th i n v hk hB hv=>by
  obtain⟨wy,s1,s2,s3⟩:=iQ (d:=d) (nm:=nm) (th:=th) (i:=i) (HJ.out.2.1.keep hk) rfl;obtain⟨G,t1,t2,t3⟩:=cr (n:=n) (v:=v) ((HJ.out.2.2.keep hk).keep s3) rfl hB hv;refine⟨wy,G,s1,t1,jk (s2.keep t3),bZ t2 hB,(s3.mono).trans' (t3.mono),s3.mono,?_⟩;exact((fG.out.trans' hk).trans s3 (by intro y hy;rw[au] at hy;omega)).trans t3 (by intro y hy;rw[au] at hy;omega)
 have rh:Hid (∀w' r,ay [] w w'->kA M P=r->r≠0->Rx w M T P (.returned (.tuple #[cH 0 ⟨#[]⟩ false 0,aL bY (.slice none 0 0),(r:Int)])) w'):=λw' r hk hr h0=>⟨hk,.inl ⟨by rw[hr];exact h0,by rw[hr]⟩⟩
 have qU:Hid (∀w' v g,ay [] w w'->kA M P=0->bD w' v g (nT T (ba (M (bo M P).1).E (aQ P)).toNat).E->w.heap.size<=g->Rx w M T P (.returned (.tuple #[cH (bo M P).1 (aQ P) true (ba (M (bo M P).1).E (aQ P)),aL (nT T (ba (M (bo M P).1).E (aQ P)).toNat) v,(0:Int)])) w'):=λw' v g hk hr hE hg=>⟨hk,.inr ⟨hr,v,g,rfl,hE,hg⟩⟩
 have HV:Hid (kA M P=if (bo M P).2≠0 then (bo M P).2 else if ba (M (bo M P).1).E (aQ P)<0 then 2 else 0):=rfl;have HG:Hid (0<=ba (M (bo M P).1).E (aQ P)->∀U,ay [] w U->Calls prog 30 #[b,(ba (M (bo M P).1).E (aQ P):Int)] U (λe w'=>Tk U (nT T (ba (M (bo M P).1).E (aQ P)).toNat) e w'/\(nT T (ba (M (bo M P).1).E (aQ P)).toNat).B.length=13)):=λhf U hk=>by
  have hh:=iY hT hf;have h2:=(h.keep0 hk).get hh.2.1;have h3:=(h.nd.store hh.2.1).len;rw[hh.2.2.1] at h2;exact h2.mono λe w' he=>⟨he,h3⟩
 have aN:=oV;have rq:=dC;clear h hT hP hs cM jK rZ Im;unfold Em at xp;generalize Rx w M T P=Q,kA M P=ve,bo M P=R at *;generalize ba (M R.1).E (aQ P)=f at *;generalize aQ P=nm,hn:nT T f.toNat=n,az:aL bY (.slice none 0 0)=Z0 at *;have jt:=ar az;have e0:cH 0 ⟨#[]⟩ false 0= #[.int .i64 0,.string ⟨#[]⟩,.bool false,.int .i64 0]:=rfl;obtain⟨x,ee⟩:=R
 dsimp only at *
 have pX:Hid (∀U,ay [] W U->U.cell? w.heap.size=some (.pointer (some ⟨b,0,none⟩))):=λU hk=>by rw[(HJ.out.1.keep hk).cell];rfl
 generalize hJ:cC b o vp vq vd=J at *;clear hJ hn az;rw[e0] at *;clear e0;go_in;go_wp2_with(with_reducible refine gL 91 lN.out ?_);refine xp.out.mono ?_;rintro e w1 ⟨V,⟨af,rfl⟩|⟨rfl,th,i,rfl,hh⟩⟩
 ·obtain⟨w2,p1,p2,p3⟩:=iQ (d:=0) (nm:=⟨#[]⟩) (th:=false) (i:=0) (bc.new w1 #[(0:Int),.string ⟨#[]⟩,false,(0:Int)] 174) rfl
  have z:=V.trans' (((ay.refl [] w1).alloc _).trans p3 (by intro x hx;rw[au] at hx;omega));obtain⟨w3,w4,s1,s2,s3,s4,-,-,s5⟩:=aa.out w2 0 ⟨#[]⟩ false 0 bY (.slice none 0 0) z rfl rfl;have HF:=ar (rh.out w4 ee s5 (by rw[HV.out,aB af]) af);have b1:(ee != 0)=true:=by simpa using af
  rw[jt.out] at s2 s4;obtain⟨jh,o5,tY,uk,aj⟩:=hh5 p1 s1 s2 s3 s4;clear hW p1 p2 p3 V z s1 s2 s3 s4 s5 af xp fG HJ lN aa rh qU HV HG pX lJ jt;unfold cH at jh o5 uk;go_wp2_with(with_reducible first|refine gS 174 jh.out ?_|refine gS 174 o5.out ?_|refine gS 75 tY.out ?_);exact aH (yw results121 rfl rfl uk.out aj.out rfl) rfl HF.out
 ·obtain⟨w2,p1,p2,p3⟩:=iQ (d:=x) (nm:=nm) (th:=th) (i:=i) (bc.new w1 #[(0:Int),.string ⟨#[]⟩,false,(0:Int)] 174) rfl
  have eP:ay [] w1 w2:=((ay.refl [] w1).alloc _).trans p3 (by intro x hx;rw[au] at hx;omega);have z:=V.trans' eP;have c1:w2.cell? ⟨w1.heap.size,2,none⟩=some (.bool th):=by rw[p2.cell];rfl
  have c2:w2.cell? ⟨w1.heap.size,3,none⟩=some (.int .i64 i):=by rw[p2.cell];rfl
  have ac:=HV.out;rw[aA (by simp)] at ac;rcases hh with ⟨rfl,aF,rfl⟩|⟨rfl,aC,rfl⟩
  ·obtain⟨w3,w4,s1,s2,s3,s4,-,-,s5⟩:=aa.out w2 0 ⟨#[]⟩ false 0 bY (.slice none 0 0) z rfl rfl
   have HF:=ar (rh.out w4 2 s5 (by rw[ac,aB aF]) (by omega));rw[jt.out] at s2 s4;obtain⟨jh,o5,tY,uk,aj⟩:=hh5 p1 s1 s2 s3 s4;clear hW p1 p2 p3 V z eP s1 s2 s3 s4 s5 aF ac xp fG HJ lN aa rh qU HV HG pX lJ jt c2;have es:cH 0 ⟨#[]⟩ false 0= #[.int .i64 0,.string ⟨#[]⟩,.bool false,.int .i64 0]:=rfl;rw[es] at o5 uk HF;clear es;generalize cH x nm false 0=Zs at *;go_wp2_with(with_reducible first|refine gS 174 jh.out ?_|refine gS 174 o5.out ?_|refine gS 75 tY.out ?_);exact aH (yw results121 rfl rfl uk.out aj.out rfl) rfl HF.out
  ·have aD:ve=0:=by rw[ac,aA]
   have c3:=pX.out w2 z;obtain⟨PD,jh⟩:=hh2 (HG.out aC w2 (fG.out.trans' z)) p1;have mP:Hid (bc w2 w1.heap.size (cH x nm true i) 174/\w.heap.size+3<=w1.heap.size):=⟨p2,by have :=V.size;rw[lJ.out] at this;omega⟩;obtain⟨fC,JB⟩:=hh2 z (λw' v g hk hE hg=>qU.out w' v g hk aD hE hg);clear hW p1 p2 p3 V z eP aC ac aD xp lN rh qU HV HG pX lJ HJ;generalize ak:cH x nm true i=Zs at *;go_wp2_with(with_reducible refine gS 174 jh.out ?_);refine PD.out.mono ?_;rintro e w3 ⟨⟨v,g,va,rfl,hE,hg,ae⟩,av⟩;obtain⟨w4,q1,q2,q3⟩:=cr (n:=n) (v:=v) (bc.new w3 Z0 75) (by rw[<-jt.out];rfl) av hE.one;have aJ:=ae.size;have wG:ay [] w3 w4:=((ay.refl _ _).alloc _).trans q3 (by intro x hx;rw[au] at hx;omega);have aG:=fC.out.trans' (ae.trans' wG);have ax:=(mP.out.1.keep ae).keep wG;obtain⟨w5,w6,s1,s2,s3,s4,s6,s7,s5⟩:=aa.out w4.drew x nm true i n v aG.drew av hE.one;rw[ak] at s1 s3;have JC:Hid (∀G,ay [w.heap.size+1,w.heap.size+1+1] w4 G->(loadVar 174 w1.heap.size).run prog G= .ok (.agg Zs) G/\(loadVar 75 w3.heap.size).run prog G= .ok (.agg (aL n v)) G):=λG hz=>by
    have h3:=mP.out.2;have h4:w1.heap.size<w2.heap.size:=by
     have :=mP.out.1.lt;exact this
    refine⟨?_,bZ (q2.keep hz (by simp;omega)) av⟩;have :=jk (d:=x) (nm:=nm) (th:=true) (i:=i) (by rw[ak];exact ax.keep hz (by simp;omega));rwa[ak] at this
   have HF:=ar (JB.out w6 v g s5 ((hE.keep wG).keep (((ay.refl [] w4).drew.mono).trans' s6) (λ_=>by
    have h4:=mP.out.2;have h5:=mP.out.1.lt;simp only[aM,aK,bC];omega)) (by have :=fC.out.size;have :=fG.out.size;omega))
   obtain⟨tY,rp,Gl,JL,Ig⟩:=hh5 q1 s1 s2 s3 s4;have ED:Hid (ay [w.heap.size+1,w.heap.size+1+1] w4 w6):=((ay.refl [] w4).drew.mono).trans' s6;have aI:Hid (ay [w.heap.size+1,w.heap.size+1+1] w4 w5):=((ay.refl [] w4).drew.mono).trans' s7;clear q1 q2 q3 s1 s2 s3 s4 s5 s6 ae wG aG ax s7 hE hg aJ JB aa fG fC mP PD jt c1 c2 c3;generalize aL n v=Zn at *;go_wp2_with(with_reducible refine gS 75 tY.out ?_);refine kg (S:=λU=>ay [w.heap.size+1,w.heap.size+1+1] w4 U) [0,1,2] [3,4,5] (l:=[_,_,_]) (tl:=[_,_,_]) (by kernel_rfl) (by kernel_rfl) (by kernel_rfl) (by kernel_rfl) rfl rfl rfl rfl rfl (λd _ _ _ _ h=>by cases d<;>exact h) (ay.refl _ _).drew ?_;simp only[fZ,gN,gQ];repeat (
    (first
    |(refine cT.cons (.agg Zs) (YieldsIf.load rfl 174 _ rfl _ rfl λG hz=>(JC.out _ hz).1) ?_)
    |(refine cT.cons (.agg Zn) (YieldsIf.load rfl 75 _ rfl _ rfl λG hz=>(JC.out _ hz).2) ?_)
    |(refine cT.cons ?_ (YieldsIf.val rfl ?h) ?_;(case h=>(intro G hz;clear hz;go_simp;rfl))));simp only[Act.put,ag,ah,ai])
   refine cT.done ?_;unfold gF;go_wp2_with(with_reducible refine gS 174 rp.out ?_);refine⟨aI.out,?_⟩;unfold gF;go_wp2_with(with_reducible refine gS 75 Gl.out ?_);refine⟨ED.out,?_⟩;unfold gF;go_wp2_with fail;refine⟨ED.out,?_⟩;unfold gF;go_wp2;exact aH (yw results121 rfl rfl JL.out Ig.out rfl) rfl HF.out
def AE (w:World) (T:List (bS×Value)) (r:Nat×Int) (e:Ending) (w':World):Prop:=
 ay [] w w'/\((r.2≠0/\e= .returned (.tuple #[(0:Int),aL bY (.slice none 0 0),.int .i64 r.2]))\/
  (r.2=0/\∃v g,e= .returned (.tuple #[(r.1:Int),aL (nT T r.1) v,(0:Int)])/\bD w' v g (nT T r.1).E/\w.heap.size<=g))
theorem Dg (h:rz w b gp B ps T own ex M)(hT:dB M){o:iP}{vp vq vd:Value}{g:Nat}(hP:fU w vp g o.P)(hs:∀s∈o.P,s.size<=9223372036854775807):
  Calls prog 129 #[cC b o vp vq vd] w (AE w T (cO M o.P)):=by
 obtain⟨W,hW⟩:∃W,(w.alloc (.cells (cC b o vp vq vd) 91)).alloc (.cells (aL bY (.slice none 0 0)) 75)=W:=⟨_,rfl⟩;have cM:ay [] w W:=by rw[<-hW];exact((ay.refl _ _).alloc _).alloc _
 obtain⟨Ga,fG⟩:=hh2 (Zj (h.keep0 cM).shT (h.nd.snd hT).agree (hP.keep cM) hs) cM;have jK:bc W w.heap.size (cC b o vp vq vd) 91 :=by rw[<-hW];exact(bc.new w _ _).alloc _
 have Im:bc W (w.heap.size+1) (aL bY (.slice none 0 0)) 75 :=by rw[<-hW];exact bc.new2 w _ _ _ _
 have HJ:Hid (bc W w.heap.size (cC b o vp vq vd) _/\bc W (w.heap.size+1) (aL bY (.slice none 0 0)) _):=⟨jK,Im⟩;have lJ:Hid (W.heap.size=w.heap.size+2):=by show _=_;rw[<-hW,aU,aU]
 have c1:W.cell? w.heap.size=some (.pointer (some ⟨b,0,none⟩)):=by rw[jK.cell];rfl
 have c2:W.cell? ⟨w.heap.size,2,none⟩=some vp:=by rw[jK.cell];rfl
 have aa:Hid (∀U n v,ay [] W U->n.B.length=13->v.oneCell'=true->∃z,(storeVar 75 (w.heap.size+1:Nat) (.agg (aL n v))).run prog U= .ok () z/\(loadVar 75 (w.heap.size+1:Nat)).run prog z= .ok (.agg (aL n v)) z/\ay [w.heap.size+1] U z/\ay [] w z):=λU n v V hB hv=>by
  obtain⟨z,t1,t2,t3⟩:=cr (n:=n) (v:=v) (HJ.out.2.keep V) rfl hB hv;exact⟨z,t1,bZ t2 hB,t3,(fG.out.trans' V).trans t3 (by intro y hy;rw[au] at hy;omega)⟩
 have PE:Hid ((cO M o.P).2=0->(M (cO M o.P).1).K≠0):=λhe=>(nL hT he).1
 have HG:Hid (∀x,(M x).K≠0->∀U,ay [] w U->Calls prog 30 #[b,(x:Int)] U (λe w'=>Tk U (nT T x) e w'/\(nT T x).B.length=13)):=λx hx U V=>
  ((h.keep0 V).get hx).mono λe w' he=>⟨he,(h.nd.store hx).len⟩
 have rh:Hid (∀w' r,ay [] w w'->(cO M o.P).2=r->r≠0->AE w T (cO M o.P) (.returned (.tuple #[(0:Int),aL bY (.slice none 0 0),(r:Int)])) w'):=λw' r V hr h0=>⟨V,.inl ⟨by rw[hr];exact h0,by rw[hr]⟩⟩
 have qU:Hid (∀w' (x:Nat) v g,ay [] w w'->cO M o.P=(x,0)->bD w' v g (nT T x).E->w.heap.size<=g->AE w T (cO M o.P) (.returned (.tuple #[(x:Int),aL (nT T x) v,(0:Int)])) w'):=λw' x v g V hr hE hg=>by
  rw[hr];exact⟨V,.inr ⟨rfl,v,g,rfl,hE,hg⟩⟩
 have rq:=dC;clear h hT hP hs cM jK Im;generalize AE w T (cO M o.P)=Q at *;generalize cO M o.P=R,ak:aL bY (.slice none 0 0)=Z0 at *;have jt:=ar ak;generalize hJ:cC b o vp vq vd=J at *;clear hJ ak;obtain⟨x,ee⟩:=R
 dsimp only at *
 go_in;go_wp2_with fail;refine Rr Ga.out λw1 G=> ?_;by_cases he:ee=0
 ·subst he
  have af:=PE.out rfl;obtain⟨PD,JB⟩:=hh2 (HG.out x af w1 (fG.out.trans' G)) (λw' v g V hE hg=>qU.out w' x v g V rfl hE hg);have c3:w1.cell? w.heap.size=some (.pointer (some ⟨b,0,none⟩)):=(aO (G.block _ (by show w.heap.size<_;rw[lJ.out];omega) (by simp))).trans c1;have jv:=ar G;clear hW Ga HG rh qU PE af G c1 c2 HJ;generalize nT T x=n,(x:Int)=xi at *;go_wp2_with fail;refine PD.out.mono ?_;rintro e w3 ⟨⟨v,g,va,rfl,hE,hg,ae⟩,ac⟩;obtain⟨w4,q1,q2,q3⟩:=cr (n:=n) (v:=v) (bc.new w3 Z0 75) (by rw[<-jt.out];rfl) ac hE.one;have av:=ae.size;have aj:=jv.out.size;rw[lJ.out] at aj;have wG:ay [] w3 w4:=((ay.refl _ _).alloc _).trans q3 (by intro x hx;rw[au] at hx;omega);obtain⟨w6,s1,s2,s3,s5⟩:=aa.out w4.drew n v ((jv.out.trans' (ae.trans' wG)).drew) ac hE.one;have uP:Hid (∀z,ay [w.heap.size+1] w4 z->(loadVar 75 w3.heap.size).run prog z= .ok (.agg (aL n v)) z):=λz hz=>bZ (q2.keep hz (by simp;omega)) ac
  have ED:Hid (ay [w.heap.size+1] w4 w6):=((ay.refl [] w4).drew.mono).trans' s3;have PE:Hid (ay [w.heap.size+1] w4 w4.drew):=(ay.refl [] w4).drew.mono;obtain⟨HF,tY,Gl,Ig⟩:=hh4 (JB.out w6 v g s5 ((hE.keep wG).keep ED.out (λ_=>by rw[au];omega)) (by have :=fG.out.size;have :=jv.out.size;omega)) q1 s1 s2;clear q1 q2 q3 s1 s2 s3 s5 ae wG hE hg av aj JB aa fG jv PD jt c3 lJ;generalize aL n v=Zn at *;go_wp2_with(with_reducible refine gS 75 tY.out ?_);refine kg (S:=λU=>ay [w.heap.size+1] w4 U) [0,1,2] [3,4,5] (l:=[_,_,_]) (tl:=[_,_,_]) (by kernel_rfl) (by kernel_rfl) (by kernel_rfl) (by kernel_rfl) rfl rfl rfl rfl rfl (λd _ _ _ _ h=>by cases d<;>exact h) (ay.refl _ _).drew ?_;simp only[fZ,gN,gQ];repeat (
   (first
   |(refine cT.cons (.agg Zn) (YieldsIf.load rfl 75 _ rfl _ rfl λz hz=>uP.out _ hz) ?_)
   |(refine cT.cons ?_ (YieldsIf.val rfl ?h) ?_;(case h=>(intro z hz;clear hz;go_simp;rfl))));simp only[Act.put,ag,ah,ai])
  refine cT.done ?_;unfold gF;go_wp2_with fail;refine⟨PE.out,?_⟩;unfold gF;go_wp2_with(with_reducible refine gS 75 Gl.out ?_);refine⟨ED.out,?_⟩;unfold gF;go_wp2_with fail;refine⟨ED.out,?_⟩;unfold gF;go_wp2;exact aH (qY results129 rfl rfl Ig.out rfl) rfl HF.out
 ·obtain⟨w4,s1,s2,-,s5⟩:=aa.out w1 bY (.slice none 0 0) G rfl rfl
  have HF:=ar (rh.out w4 ee s5 rfl he);have b1:(ee != 0)=true:=by simpa using he
  rw[jt.out] at s1 s2;obtain⟨tY,ax⟩:=hh2 s1 s2;clear hW s1 s2 s5 G he Ga HG rh qU PE aa fG lJ HJ jt c1 c2;go_wp2_with(with_reducible refine gS 75 tY.out ?_);exact aH (qY results129 rfl rfl ax.out rfl) rfl HF.out
theorem zi (h:rz w b gp B ps T own ex M)(hT:dB M){o:iP}{vp vq vd:Value}{g:Nat}(hP:fU w vp g o.P)(hs:∀s∈o.P,s.size<=9223372036854775807):
  Calls prog 115 #[cC b o vp vq vd] w (AE w T (dc M o.P)):=by
 obtain⟨W,hW⟩:∃W,(w.alloc (.cells (cC b o vp vq vd) 91)).alloc (.cells (aL bY (.slice none 0 0)) 75)=W:=⟨_,rfl⟩;have cM:ay [] w W:=by rw[<-hW];exact((ay.refl _ _).alloc _).alloc _
 obtain⟨Ga,fG⟩:=hh2 (Dg (vq:=vq) (vd:=vd) (h.keep0 cM) hT (hP.keep cM) hs) cM;have jK:bc W w.heap.size (cC b o vp vq vd) 91 :=by rw[<-hW];exact(bc.new w _ _).alloc _
 have Im:bc W (w.heap.size+1) (aL bY (.slice none 0 0)) 75 :=by rw[<-hW];exact bc.new2 w _ _ _ _
 have HJ:Hid (bc W (w.heap.size+1) (aL bY (.slice none 0 0)) _):=Im;have lN:=ar (jC jK);have lJ:Hid (W.heap.size=w.heap.size+2):=by show _=_;rw[<-hW,aU,aU]
 have V:Hid (∀wx n v,ay [] W wx->n.B.length=13->v.oneCell'=true->∃z,(storeVar 75 (w.heap.size+1:Nat) (.agg (aL n v))).run prog wx= .ok () z/\(loadVar 75 (w.heap.size+1:Nat)).run prog z= .ok (.agg (aL n v)) z/\ay [w.heap.size+1] wx z/\ay [] w z):=λwx n v hk hB hv=>by
  obtain⟨z,t1,t2,t3⟩:=cr (n:=n) (v:=v) (HJ.out.keep hk) rfl hB hv;exact⟨z,t1,bZ t2 hB,t3,(fG.out.trans' hk).trans t3 (by intro y hy;rw[au] at hy;omega)⟩
 have nP:Hid ((cO M o.P).2=0->(nT T (cO M o.P).1).B.length=13):=λhe=>(h.nd.store (nL hT he).1).len
 have CK:Hid ((nT T (cO M o.P).1).K=(M (cO M o.P).1).K):=h.nd.kind _;have rh:Hid (∀w' r,ay [] w w'->(dc M o.P).2=r->r≠0->AE w T (dc M o.P) (.returned (.tuple #[(0:Int),aL bY (.slice none 0 0),(r:Int)])) w'):=λw' r hk hr h0=>⟨hk,.inl ⟨by rw[hr];exact h0,by rw[hr]⟩⟩
 have qU:Hid (∀w' (x:Nat) v g,ay [] w w'->dc M o.P=(x,0)->bD w' v g (nT T x).E->w.heap.size<=g->AE w T (dc M o.P) (.returned (.tuple #[(x:Int),aL (nT T x) v,(0:Int)])) w'):=λw' x v g hk hr hE hg=>by
  rw[hr];exact⟨hk,.inr ⟨rfl,v,g,rfl,hE,hg⟩⟩
 have HV:Hid (dc M o.P=if (cO M o.P).2=0/\(M (cO M o.P).1).K=2 then (0,5) else cO M o.P):=rfl;have rq:=dC;clear h hT hP hs cM jK Im;unfold AE at Ga;generalize AE w T (dc M o.P)=Q at *;generalize dc M o.P=F,cO M o.P=R,af:aL bY (.slice none 0 0)=Z0 at *;have jt:=ar af;generalize hJ:cC b o vp vq vd=J at *;clear hJ af;obtain⟨x,ee⟩:=R
 dsimp only at *
 generalize hn:nT T x=n at *;go_in;go_wp2_with(with_reducible refine gL 91 lN.out ?_);refine Ga.out.mono ?_;rintro e w1 ⟨U,⟨he,rfl⟩|⟨rfl,v,g,rfl,hE,hg⟩⟩
 ·obtain⟨G,q1,q2,q3⟩:=cr (n:=bY) (v:= .slice none 0 0) (bc.new w1 Z0 75) (by rw[<-jt.out];rfl) rfl rfl
  have aa:=U.size;rw[lJ.out] at aa;have eP:ay [] w1 G:=((ay.refl _ _).alloc _).trans q3 (by intro x hx;rw[au] at hx;omega);obtain⟨w6,s1,s2,s3,s5⟩:=V.out G.drew bY (.slice none 0 0) ((U.trans' eP).drew) rfl rfl;have uP:Hid (∀z,ay [w.heap.size+1] G z->(loadVar 75 w1.heap.size).run prog z= .ok (.agg (aL bY (.slice none 0 0))) z):=λz hz=>bZ (q2.keep hz (by simp;omega)) rfl
  have ED:Hid (ay [w.heap.size+1] G w6):=((ay.refl [] G).drew.mono).trans' s3;have PE:Hid (ay [w.heap.size+1] G G.drew):=(ay.refl [] G).drew.mono;have HF:=ar (rh.out w6 ee s5 (by rw[HV.out,aA (λh=>he h.1)]) he);rw[jt.out] at q1 s1 s2 uP;obtain⟨tY,Gl,Ig⟩:=hh3 q1 s1 s2;have b1:(ee==0)=false:=by simpa using he
  clear hW q1 q2 q3 s1 s2 s3 s5 U eP he aa Ga V fG jt lJ HJ lN nP CK rh qU HV;go_wp2_with(with_reducible refine gS 75 tY.out ?_);refine kg (S:=λwx=>ay [w.heap.size+1] G wx) [0,1,2] [3,4,5] (l:=[_,_,_]) (tl:=[_,_,_]) (by kernel_rfl) (by kernel_rfl) (by kernel_rfl) (by kernel_rfl) rfl rfl rfl rfl rfl (λd _ _ _ _ h=>by cases d<;>exact h) (ay.refl _ _).drew ?_;simp only[fZ,gN,gQ];repeat (
   (first
   |(refine cT.cons (.agg Z0) (YieldsIf.load rfl 75 _ rfl _ rfl λz hz=>uP.out _ hz) ?_)
   |(refine cT.cons ?_ (YieldsIf.val rfl ?h) ?_;(case h=>(intro z hz;clear hz;go_simp;rfl))));simp only[Act.put,ag,ah,ai])
  refine cT.done ?_;unfold gF;go_wp2_with fail;refine⟨PE.out,?_⟩;unfold gF;go_wp2_with(with_reducible refine gS 75 Gl.out ?_);refine⟨ED.out,?_⟩;unfold gF;go_wp2_with fail;refine⟨ED.out,?_⟩;unfold gF;go_wp2;exact aH (qY results115 rfl rfl Ig.out rfl) rfl HF.out
 ·have ac:=nP.out rfl
  obtain⟨G,q1,q2,q3⟩:=cr (n:=n) (v:=v) (bc.new w1 Z0 75) (by rw[<-jt.out];rfl) ac hE.one;have aa:=U.size;rw[lJ.out] at aa;have eP:ay [] w1 G:=((ay.refl _ _).alloc _).trans q3 (by intro x hx;rw[au] at hx;omega);have c1:G.cell? ⟨w1.heap.size,1,none⟩=some (.int .i64 n.K):=by rw[q2.cell];exact(fT v ac).f1
  have tY:=ar q1;by_cases h2:n.K=2
  ·obtain⟨w6,s1,s2,-,s5⟩:=V.out G bY (.slice none 0 0) (U.trans' eP) rfl rfl
   have HF:=ar (rh.out w6 5 s5 (by rw[HV.out,aB ⟨rfl,by rw[<-CK.out];exact h2⟩]) (by omega));rw[jt.out] at s1 s2;obtain⟨Gl,Ig⟩:=hh2 s1 s2;rw[h2] at c1;clear hW q1 q2 q3 s1 s2 s5 U eP aa Ga V fG jt lJ HJ lN nP CK rh qU HV hE hg h2 ac;generalize aL n v=Zn at *;go_wp2_with(with_reducible first|refine gS 75 tY.out ?_|refine gS 75 Gl.out ?_);exact aH (qY results115 rfl rfl Ig.out rfl) rfl HF.out
  ·obtain⟨w6,s1,s2,s3,s5⟩:=V.out G.drew n v ((U.trans' eP).drew) ac hE.one
   have uP:Hid (∀z,ay [w.heap.size+1] G z->(loadVar 75 w1.heap.size).run prog z= .ok (.agg (aL n v)) z):=λz hz=>bZ (q2.keep hz (by simp;omega)) ac
   have ED:Hid (ay [w.heap.size+1] G w6):=((ay.refl [] G).drew.mono).trans' s3;have PE:Hid (ay [w.heap.size+1] G G.drew):=(ay.refl [] G).drew.mono;have ae:=qU.out w6 x v g s5 (by rw[HV.out,aA (λh=>h2 (by rw[CK.out];exact h.2))]);rw[hn] at ae;obtain⟨HF,Gl,Ig⟩:=hh3 (ae ((hE.keep eP).keep ED.out (λ_=>by rw[au];rw[lJ.out] at hg;omega)) (by have :=fG.out.size;omega)) s1 s2;have b2:(n.K==2)=false:=by simpa using h2
   clear hW q1 q2 q3 s1 s2 s3 s5 U eP aa Ga V fG jt lJ HJ lN nP CK rh qU HV hE hg h2 ac ae hn;generalize aL n v=Zn,n.K=nk,(x:Int)=xi at *;go_wp2_with(first|(with_reducible refine gS 75 tY.out ?_));refine kg (S:=λwx=>ay [w.heap.size+1] G wx) [0,1,2] [3,4,5] (l:=[_,_,_]) (tl:=[_,_,_]) (by kernel_rfl) (by kernel_rfl) (by kernel_rfl) (by kernel_rfl) rfl rfl rfl rfl rfl (λd _ _ _ _ h=>by cases d<;>exact h) (ay.refl _ _).drew ?_;simp only[fZ,gN,gQ];repeat (
    (first
    |(refine cT.cons (.agg Zn) (YieldsIf.load rfl 75 _ rfl _ rfl λz hz=>uP.out _ hz) ?_)
    |(refine cT.cons ?_ (YieldsIf.val rfl ?h) ?_;(case h=>(intro z hz;clear hz;go_simp;rfl))));simp only[Act.put,ag,ah,ai])
   refine cT.done ?_;unfold gF;go_wp2_with fail;refine⟨PE.out,?_⟩;unfold gF;go_wp2_with(with_reducible refine gS 75 Gl.out ?_);refine⟨ED.out,?_⟩;unfold gF;go_wp2_with fail;refine⟨ED.out,?_⟩;unfold gF;go_wp2;exact aH (qY results115 rfl rfl Ig.out rfl) rfl HF.out
theorem aag (h:o.K=5)(z:o.P=[]):(iJ M o).2=cW 5:=by
 rw[De (.inl h)];unfold qE;rw[aB ⟨z,h⟩]
theorem OO (z:o.K=5\/o.K=6)(G:¬(o.P=[]/\o.K=5))(h:kA M o.P≠0):(iJ M o).2=cW (kA M o.P):=by
 rw[De z];unfold qE kA at *;rw[aA G];split
 ·rfl
 ·next h1=>
  rw[aA h1] at h;split
  ·rfl
  ·next h2=>rw[aA h2] at h;exact absurd rfl h
theorem BM (h:o.K=5\/o.K=6)(z:¬(o.P=[]/\o.K=5))(G:kA M o.P=0):iJ M o=
  if o.K=5/\(M (ba (M (bo M o.P).1).E (aQ o.P)).toNat).K=2 then (M,cW 5) else
  if o.K=6/\(M (ba (M (bo M o.P).1).E (aQ o.P)).toNat).K≠2 then (M,cW 4) else
  if o.K=6/\(M (ba (M (bo M o.P).1).E (aQ o.P)).toNat).E≠[] then (M,cW 6) else
  (BX M (bo M o.P).1 (aQ o.P),fh):=by
 obtain⟨J,U⟩:=qG G;rw[De h];unfold qE;rw[aA z,aA,aA]
theorem pL (M:Nat->Nd)(d:Nat)(E:List (ByteArray×Int))(x:Nat):ou M d E x=if x=d then { M d with E:=E } else M x:=rfl
theorem yx (M:Nat->Nd)(i:Nat)(n:Nd)(x:Nat):na M i n x=if x=i then n else M x:=rfl
theorem ae0{j:Nat}(h:j≠d)(E:List (ByteArray×Int)):na (ou M d E) j (Hh (ou M d E j))=EM M d j E:=by
 funext x
 unfold EM Hh;by_cases e:x=j
 ·subst e
  simp only[pL,yx,if_true,aA h]
 ·simp only[pL,yx,aA e,aA (cV h)]
section
variable {X:List Int} {T:List (bS×Value)} {own:Nat->List Nat} {M:Nat->Nd}
theorem LN {d j:Nat}{nm:ByteArray}(J:(ba (M d).E nm).toNat=j)(h:j≠d){q1 q2:List (Int×Int)}{r:Int}(G:Goes X q1 [] (ou M d (iX (M d).E nm)) 100)(V:rU (az X q1) [] (ou M d (iX (M d).E nm)) j r q2):r=0/\zQ X (q1++q2) (BX M d nm):=by
 obtain⟨U,z,-⟩:=V;rw[ae0 h] at z;refine⟨U,?_⟩;unfold BX;rw[J];exact(G.trans z).lands (by omega)
theorem V4 {o:iP}(V:o.K=8)(U:(dc M o.P).2≠0):(iJ M o).2=cW (dc M o.P).2:=by
 rw[LM V];have z:dc M o.P=if (cO M o.P).2=0/\(M (cO M o.P).1).K=2 then (0,5) else cO M o.P:=rfl
 unfold zM;by_cases G:(cO M o.P).2=0
 ·by_cases J:(M (cO M o.P).1).K=2
  ·rw[aB ⟨G,J⟩] at z
   rw[z,aA,aB J]
  ·rw[aA (λh=>J h.2)] at z
   rw[z] at U;exact absurd G U
 ·rw[aA (λh=>G h.1)] at z
  rw[z,aB G]
theorem Ry {o:iP}(z:o.K=8)(G:(dc M o.P).2=0)(h:qx M o.Q≠0):(iJ M o).2=cW (qx M o.Q):=by
 obtain⟨U,J,-⟩:=pK G;rw[LM z];unfold zM qx at *;rw[aA,aA J];split
 ·rfl
 ·next h3=>
  rw[aA h3] at h;split
  ·rfl
  ·next h4=>
   rw[aA h4] at h;split
   ·rfl
   ·next h5=>rw[aA h5] at h;exact absurd rfl h
theorem V5 {o:iP}(G:o.K=8)(J:(dc M o.P).2=0)(z:qx M o.Q=0):iJ M o=
  if 24<=(M (bo M o.Q).1).E.length then (M,cW 7) else (S8 M (bo M o.Q).1 (cO M o.P).1 (xw (M (bo M o.Q).1).E (aQ o.Q,((cO M o.P).1:Int))),fh):=by
 obtain⟨V,U,-⟩:=pK J;obtain⟨h,g2,W⟩:=zh z;rw[LM G];unfold zM;rw[aA,aA U,aA h,aA,aA]
theorem V6 (hT:dB M){o:iP}(W:o.K=8)(hf:(dc M o.P).2=0)(V:qx M o.Q=0){i:Nat}(hi:(cO M o.P).1=i){q1 q2:List (Int×Int)}{r:Int}(h1:Goes X q1 [] (na M i { M i with L:=(M i).L+1 }) 100)(oZ:(aY (az X q1)).length=(aY X).length)
  (U:tI (az X q1) [] (na M i { M i with L:=(M i).L+1 }) (bo M o.Q).1 (aQ o.Q) (i:Int) r q2):kY X M o { fh with E:=r } (q1++q2):=by
 have h:=V5 (M:=M) W hf V;obtain⟨f1,f2,-⟩:=pK hf;obtain⟨g1,g2,g3⟩:=zh V;rw[hi] at f2 h;have J:(bo M o.Q).1≠i:=λe=>by
  have :=(pG (M:=M) g2).1;rw[e] at this;omega
 have hE:(na M i { M i with L:=(M i).L+1 } (bo M o.Q).1).E=(M (bo M o.Q).1).E:=by rw[dH _ _ J]
 have G:Dd o.K=true:=by rw[W];rfl
 unfold tI at U;rw[hE,Hp hT g3,vD] at U;rcases U with ⟨rfl,-,z⟩|⟨rfl,z,h4⟩
 ·by_cases hl:24<=(M (bo M o.Q).1).E.length
  ·rw[aB hl] at h
   exact .inr (.inl ⟨by show(7:Int)≠0;omega,by rw[h]⟩)
  ·rw[aA hl] at h
   refine .inl ⟨rfl,G,.inl (by rw[h];rfl),.inl ?_⟩;rcases z with z|z<;>omega
 ·rw[aA] at h
  refine .inr (.inr ⟨rfl,by rw[h];rfl,.inl (by rw[h];rfl),?_⟩);rw[h];exact(h1.trans h4).lands (by omega)
theorem acE {o:iP}(h:o.K=7)(z:o.Q=[]):(iJ M o).2=cW 1:=by
 rw[Df h];unfold qF;rw[aB (.inr z)]
theorem aah {o:iP}(G:o.K=7)(J:o.Q≠[])(h:kA M o.P≠0):(iJ M o).2=cW (kA M o.P):=by
 rw[Df G];unfold qF;by_cases z:o.P=[]
 ·rw[aB (.inl z)]
  have e:bo M o.P=(0,1):=by unfold bo;rw[aB (.inl z)]
  unfold kA;rw[e,aB (by simp)]
 ·rw[aA (by simp[z,J])]
  unfold kA at *;split
  ·rfl
  ·next h1=>
   rw[aA h1] at h;split
   ·rfl
   ·next h2=>rw[aA h2] at h;exact absurd rfl h
open Classical in
theorem vJ {o:iP}(z:o.K=7)(J:o.Q≠[])(U:kA M o.P=0):iJ M o=
 if (bo M o.Q).2≠0 then (M,cW (bo M o.Q).2) else
 if ba (M (bo M o.Q).1).E (aQ o.Q)=ba (M (bo M o.P).1).E (aQ o.P) then (M,fh) else
 if kI M (ba (M (bo M o.P).1).E (aQ o.P)).toNat (bo M o.Q).1 then (M,cW 11) else
 if 0<=ba (M (bo M o.Q).1).E (aQ o.Q) then
  if uu M (ba (M (bo M o.P).1).E (aQ o.P)).toNat (ba (M (bo M o.Q).1).E (aQ o.Q)).toNat≠0 then
   (M,cW (uu M (ba (M (bo M o.P).1).E (aQ o.P)).toNat (ba (M (bo M o.Q).1).E (aQ o.Q)).toNat)) else
   (Oc (BX M (bo M o.Q).1 (aQ o.Q)) (bo M o.P).1 (bo M o.Q).1 (ba (M (bo M o.P).1).E (aQ o.P)).toNat (aQ o.P) (aQ o.Q),fh)
 else
  if (bo M o.P).1≠(bo M o.Q).1/\24<=(M (bo M o.Q).1).E.length then (M,cW 7) else
   (Oc M (bo M o.P).1 (bo M o.Q).1 (ba (M (bo M o.P).1).E (aQ o.P)).toNat (aQ o.P) (aQ o.Q),fh):=by
 obtain⟨h,V⟩:=qG U;have G:o.P≠[]:=λe=>by
  have :bo M o.P=(0,1):=by unfold bo;rw[aB (.inl e)]
  rw[this] at h;simp at h
 rw[Df z];unfold qF;rw[aA (by simp[G,J]),aA,aA]
theorem Km (E:List (ByteArray×Int))(a b:ByteArray):iX (iX E a) b=iX (iX E b) a:=by
 unfold iX;rw[List.filter_filter,List.filter_filter]
 congr 1
 funext p
 rw[Bool.and_comm]
theorem V7 {E:List (ByteArray×Int)}{nm:ByteArray}(h:∀p∈E,p.1≠nm):iX E nm=E:=List.filter_eq_self.2 λp z=>by simpa using h p z
theorem Tq (U:dB M){d:Nat}{nm:ByteArray}(J:ba (M d).E nm<0):∀p∈(M d).E,p.1≠nm:=λp G=>by
 obtain⟨A,B,z,-⟩:=BC U J;rw[z.eq] at G;rcases aR.1 G with h|h
 ·exact tz (z.ahead p h)
 ·exact λe=>tz (z.behind p (by simpa using h)) e.symm
theorem ae1 (G:dB M){d t i:Nat}{nm nm':ByteArray}(z:ba (M t).E nm'<0):
  ou (ou M d (iX (M d).E nm)) t (wP (ou M d (iX (M d).E nm) t).E nm' (i:Int))=Oc M d t i nm nm':=by
 have J:iX (ou M d (iX (M d).E nm) t).E nm'=(ou M d (iX (M d).E nm) t).E:=V7 λp h=>by
  rw[oQ] at h;split at h
  ·next e=>exact Tq G z p (by rw[e];exact pH h)
  ·exact Tq G z p h
 unfold wP;rw[J];rfl
theorem acF {d t i j:Nat}{nm nm':ByteArray}(hj:(ba (M t).E nm').toNat=j)(h:j≠t)(G:j≠d):
  na (ou (ou M d (iX (M d).E nm)) t (wP (ou M d (iX (M d).E nm) t).E nm' (i:Int))) j (Hh (ou (ou M d (iX (M d).E nm)) t (wP (ou M d (iX (M d).E nm) t).E nm' (i:Int)) j))=Oc (BX M t nm') d t i nm nm':=by
 have e0:∀(E:List (ByteArray×Int)),ou (ou M d (iX (M d).E nm)) t E j=M j:=λE=>by rw[pL,aA h,pL,aA G]
 have W:Hh (M j)=(if (M j).L=1 then vQ else { M j with L:=(M j).L-1 }):=rfl
 funext x
 rw[e0,yx,W];unfold Oc Ka BX;rw[hj];unfold EM;generalize hN:(if (M j).L=1 then vQ else { M j with L:=(M j).L-1 })=N;by_cases V:x=j
 ·subst V
  rw[aB rfl,pL,aA h,pL,aA G,pL,aA h,yx,aB rfl]
 ·rw[aA V]
  unfold wP;by_cases z:x=t
  ·subst z
   by_cases J:x=d
   ·subst J
    simp only[pL,yx,if_true,aA (cV h)];rw[Km]
   ·simp only[pL,yx,if_true,aA (cV h),aA J,aA (cV J)]
  ·by_cases U:x=d
   ·subst U
    simp only[pL,yx,if_true,aA z,aA (cV G)]
   ·simp only[pL,yx,aA z,aA U,aA V]
end
theorem yz:∀(l:List Nat) (X:List Int),ct X l=ct X (l.filter λc=>c != 0)
 | [],_=>rfl
 |c::l,X=>by
  have e:ct X (c::l)=eK X c false++ct (az X (eK X c false)) l:=rfl;rw[e,fE];by_cases h:c=0
  ·subst h
   have z:eK X 0 false=[]:=rfl;rw[z,aA (by simp),bN];exact yz l X
  ·rw[aB (by simpa using h),yz l]
   rfl
theorem OP (W:B.length=13)(c:Nat)(V:∀k,0<=B.getD k 0):eA B 13=eA B c++((B.drop c).map Int.toNat).filter λc=>c != 0:=by
 unfold eA;rw[aW (by omega:B.length<=13)];have e:B=B.take c++B.drop c:=(dx c B).symm
 conv=>lhs;rw[e]
 rw[dZ,ez]
 congr 1
 have G:∀l:List Int,(∀x∈l,0<=x)->(l.filter λx=>x != 0).map Int.toNat=(l.map Int.toNat).filter λc=>c != 0:=by
  intro l;induction l with
  |nil=>intro _;rfl
  |cons x l ih=>
   intro h;rw[List.map_cons,fE,fE];have h0:=h x (by simp);by_cases z:x=0
   ·subst z
    rw[aA (by simp),aA (by simp)];exact ih λy J=>h y (by simp[J])
   ·rw[aB (by simpa using z),aB (by simp;omega),List.map_cons,ih λy J=>h y (by simp[J])]
 refine G _ λx z=> ?_
 obtain⟨k,U,rfl⟩:=b9 (gj z);have :=V k;rwa[aj,aD U] at this
theorem Rz (z:B.length=13){c:Nat}(h:c<=13):eA (jn B c) 13=eA B c:=by
 unfold eA;rw[aW (by rw[nI z h];omega)];unfold jn;rw[dZ];have :(List.replicate (13-c) (0:Int)).filter (λx=>x != 0)=[]:=by simp
 rw[this,bz]
section
variable {X:List Int} {T:List (bS×Value)} {own:Nat->List Nat} {M:Nat->Nd}
def qy (n:bS) (c:Nat):bS:={ n with B:=jn n.B c }
def OQ (c:List Int) (s:Nat):List Int:=c.take s++List.replicate (832-s) 0
theorem zj {c:List Int}(h:Az c){s:Nat}(J:s<=832):Az (OQ c s):=by
 refine⟨by unfold OQ;simp[h.1];omega,λx G=> ?_⟩;unfold OQ at G;rcases aR.1 G with z|z
 ·exact h.2 x (bL z)
 ·rw[ib z];omega
theorem acG {c:List Int}(h:c.length=832){s:Nat}(G:s<=832)(k:Nat):(OQ c s).getD k 0=if k<s then c.getD k 0 else 0:=by
 unfold OQ;rw[aj];by_cases z:k<s
 ·rw[bh (by simp;omega),bU,aB z,aB z,aj]
 ·rw[aT (by simp;omega),aA z,bB]
  split<;>rfl
theorem nC.cut(h:nC X T own [] M){i:Nat}(hK:(M i).K=1){s:Nat}(hs:(s:Int)<(nT T i).S){r:Int}{qs:List (Int×Int)}
  (hp:nK (az (az X (ct X (((nT T i).B.drop (bF s)).map Int.toNat))) (ft (qy (nT T i) (bF s)).B (OQ (iL (az X (ct X (((nT T i).B.drop (bF s)).map Int.toNat))) (qy (nT T i) (bF s))) s) 13)) (i:Int) { qy (nT T i) (bF s) with S:=(s:Int) } r qs):
  r=0/\Goes X (ct X (((nT T i).B.drop (bF s)).map Int.toNat)++(ft (qy (nT T i) (bF s)).B (OQ (iL (az X (ct X (((nT T i).B.drop (bF s)).map Int.toNat))) (qy (nT T i) (bF s))) s) 13++qs)) [] (na M i { M i with D:=ym (M i).D s }) 300:=by
 obtain⟨aC,hk,hf,ht,hi,hd,hB⟩:=h.fileAt hK;have hS:=hf.1;have W:=h.opened hi;have ac:∀Y l' (hY:xh Y T own i l' M),eJ Y (i:Int) (nT T i) (own i):=λY l' hY=>by
  rcases hY.st.each hi with ⟨-,h1⟩|⟨-,h1,-⟩
  ·exact h1
  ·rw[h1] at hk;simp[bY] at hk
 generalize hn:nT T i=n at *;have Gq:bF s<=13:=by unfold bF;omega
 have Tt:s<=832:=by omega
 have ax:∀k,0<=n.B.getD k 0:=λk=>by
  by_cases lZ:k<13
  ·exact(mG hf.2.2.2 lZ).1
  ·rw[aj,aZ (by omega)];decide
 have V:=OP hB (bF s) ax;have aJ:=yz ((n.B.drop (bF s)).map Int.toNat) X;generalize hl:((n.B.drop (bF s)).map Int.toNat).filter (λc=>c != 0)=l at *;have ai:∀c∈dv n,c≠0/\c<256:=λc hc=>by
  have :=W.st.exr c hc;exact this
 have ae:dv n=eA n.B (bF s)++l:=V;obtain⟨g1,g2,g3,g4⟩:=W.st.give (l:=l) (ex':=eA n.B (bF s)) (λb _=>by rw[ae,fL];omega) (λc hc=>ai c (by rw[ae];exact bW _ hc)) (λc hc=>ai c (by rw[ae];exact bT _ hc));have ZV:=W.step g1 g2 (by simp);rw[<-aJ] at g1 g2 g3 g4 ZV;have aM:nS X (az X (ct X ((n.B.drop (bF s)).map Int.toNat))) 4:=nS.puts (L:=uy) (by simp[uy]) λp hp=>sD (tF _ _ _ hp)
 generalize ct X ((n.B.drop (bF s)).map Int.toNat)=U at *;have BN:=qf hB Gq;have G:(jn n.B (bF s)).length=13:=nI hB Gq;have J:lh (jn n.B (bF s)):=λk lZ=>by
  rw[BN];split
  ·next au=>
   refine⟨mG hf.2.2.2 lZ,λaG j hj=> ?_⟩;rw[BN,aB];exact(hf.2.2.2 k lZ).2 aG j hj
  ·exact⟨by omega,λh=>absurd rfl h⟩
 have ag:dv (qy n (bF s))=eA n.B (bF s):=Rz hB Gq;have hR:cm { qy n (bF s) with S:=(s:Int) }:=by
  refine AB aC.right hk rfl rfl rfl rfl G ⟨by show(0:Int)<=(s:Int);omega,by show(s:Int)<=832;omega⟩ (λk z=> ?_) J;show(jn n.B (bF s)).getD k 0=0;rw[BN,aA ?_];have z:bF (s:Int).toNat<=k:=z;rw[aF] at z;omega
 have ZX:=g1.len;have ay:=g1.w64;have aK:∀k,k<s->ma (az X U) (qy n (bF s)) k=ma X n k:=λk ak=>by
  have au:k/64<bF s:=by unfold bF;omega
  unfold ma;show(if (jn n.B (bF s)).getD (k/64) 0=0 then _ else ((rG ((az X U).getD (1080+8*((jn n.B (bF s)).getD (k/64) 0).toNat+k%64/8) 0).toNat (k%8):Nat):Int))=_;rw[BN,aB au];split
  ·rfl
  ·rw[g4 _ (.inr (by omega))]
 have ar:=kH (az X U) (qy n (bF s));have aa:=zj ar Tt;have ah:=acG ar.1 Tt;have aH:∀k,k<s->(iL (az X U) (qy n (bF s))).getD k 0=ma X n k:=λk ak=>by rw[za _ _ (by omega),aK k ak]
 generalize iL (az X U) (qy n (bF s))=c0 at *;generalize OQ c0 s=c at *;have zH:=OD (n:=qy n (bF s)) (c:=c) G J;obtain⟨ZY,Z5,Jv⟩:=ZV.words hi (qs:=ft (qy n (bF s)).B c 13) (λp hp=>⟨(zH p hp).1,by rw[<-ag];exact(zH p hp).2⟩) (y9 (n:=qy n (bF s)) ay aa);have UM:=ac _ _ ZY;have Qi:=λk (z:k<832)=>Hl (X:=az X U) (n:={ qy n (bF s) with S:=(s:Int) }) ZX J aa z
 have aI:=Kh (X:=az X U) (n:={ qy n (bF s) with S:=(s:Int) }) ZX J aa (λk rM af=>by
  have af:(s:Int)<=(k:Int):=af;rw[ah,aA])
 have aD:=OG (X:=az X U) (n:=qy n (bF s)) (c:=c) G J;have aL:sA (az (az X U) (ft (qy n (bF s)).B c 13)) { qy n (bF s) with S:=(s:Int) }={ M i with D:=ym (M i).D s }:=by
  refine Hn (n:=n) (X:=X) (by rw[h.abs i,hn]) hk rfl rfl rfl ?_;rw[hd];have Cj:(pW (az (az X U) (ft (qy n (bF s)).B c 13)) { qy n (bF s) with S:=(s:Int) }).length=s:=by rw[mM];exact aF s
  apply Da
  ·rw[Cj,yq]
  ·intro k z
   rw[Cj] at z;have av:=sB (az (az X U) (ft (qy n (bF s)).B c 13)) { qy n (bF s) with S:=(s:Int) } (k:=k) (by show k<(s:Int).toNat;omega);rw[av,OH _ _ z,sB X n (by omega)];have :=Qi k (by omega);refine Eq.trans this ?_;show(if (jn n.B (bF s)).getD (k/64) 0=0 then 0 else c.getD k 0)=_;have e1:(jn n.B (bF s)).getD (k/64) 0=n.B.getD (k/64) 0:=by rw[BN,aB (by unfold bF;omega)]
   have e2:c.getD k 0=ma X n k:=by rw[ah,aB z,aH k z]
   rw[e1,e2];split
   ·next h0=>unfold ma;rw[aB h0]
   ·rfl
 have aN:dA { qy n (bF s) with S:=(s:Int) }<=dA n:=VP (c:=bF s) rfl rfl G BN;rcases ZY.close hi G hR (by rw[hn];exact UM) hp (λb _=>by rw[show dv { qy n (bF s) with S:=(s:Int) }=dv (qy n (bF s)) from rfl,ag]) aI with ⟨-,-,h3⟩|⟨h1,T',cY,k1,k2,k3⟩
 ·rw[hn] at h3;omega
 ·refine⟨h1,T',cY,?_,λk z=> ?_,?_⟩
  ·rw[br,br,<-aL];exact k1
  ·rw[br,br,k2 k z,Jv k (by omega),g4 k (.inl z)]
  ·rw[br,br]
   exact((aM.trans aD).trans k3).mono (by omega)
theorem Hr {o:iP}(V:o.K=2\/o.K=3\/o.K=4)(U:(dc M o.P).2≠0):(iJ M o).2=cW (dc M o.P).2:=by
 rw[Fg V];have z:dc M o.P=if (cO M o.P).2=0/\(M (cO M o.P).1).K=2 then (0,5) else cO M o.P:=rfl
 unfold yo;by_cases G:(cO M o.P).2=0
 ·by_cases J:(M (cO M o.P).1).K=2
  ·rw[aB ⟨G,J⟩] at z
   rw[z,aA,aB J]
  ·rw[aA (λh=>J h.2)] at z
   rw[z] at U;exact absurd G U
 ·rw[aA (λh=>G h.1)] at z
  rw[z,aB G]
theorem tN {o:iP}(z:o.K=2)(G:(dc M o.P).2=0):iJ M o=
  if o.O<0 then (M,cW 1) else if 832<o.O\/(832:Int)-o.O<o.D.length then (M,cW 8) else if o.D=[] then (M,fh) else
   (na M (cO M o.P).1 { M (cO M o.P).1 with D:=xg (M (cO M o.P).1).D o.O.toNat o.D },{ fh with N:=(o.D.length:Int) }):=by
 obtain⟨U,J,-⟩:=pK G;rw[Fg (.inl z)];unfold yo;rw[aA,aA J,aA (c:=o.K=3) (by omega),aA (c:=o.K=4) (by omega)];by_cases h:o.O<0
 ·rw[aB h,aB (.inl ⟨by omega,h⟩)]
 ·rw[aA h,aA]
theorem Kn {o:iP}(z:o.K=3)(G:(dc M o.P).2=0):iJ M o=
  if o.O<0\/o.N<0 then (M,cW 1) else (M,{ fh with D:=((M (cO M o.P).1).D.drop o.O.toNat).take o.N.toNat }):=by
 obtain⟨U,J,-⟩:=pK G;rw[Fg (.inr (.inl z))];unfold yo;rw[aA,aA J,aB (c:=o.K=3) z];by_cases h:o.O<0\/o.N<0
 ·rw[aB h,aB]
 ·rw[aA h,aA]
theorem Dh {o:iP}(z:o.K=4)(G:(dc M o.P).2=0):iJ M o=
  if o.N<0 then (M,cW 1) else if 832<o.N then (M,cW 8) else (na M (cO M o.P).1 { M (cO M o.P).1 with D:=ym (M (cO M o.P).1).D o.N.toNat },fh):=by
 obtain⟨U,J,-⟩:=pK G;rw[Fg (.inr (.inr z))];unfold yo;rw[aA,aA J,aA (c:=o.K=3) (by omega),aB (c:=o.K=4) z];by_cases h:o.N<0
 ·rw[aB h,aB]
 ·rw[aA h,aA]
theorem Ko {o:iP}(h:o.K=9\/o.K=10)(z:(cO M o.P).2≠0):(iJ M o).2=cW (cO M o.P).2:=by
 rw[BL h];show zN M o=_;unfold zN;rw[aB z]
end
end Go.Proofs.YtimcfdnbpkiniaaGreatDoor
