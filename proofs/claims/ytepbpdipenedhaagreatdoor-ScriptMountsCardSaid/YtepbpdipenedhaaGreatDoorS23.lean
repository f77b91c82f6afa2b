/- Lemmas. -/
import Derived.Test.YtepbpdipenedhaaGreatDoorS22
set_option maxHeartbeats 4000000
set_option maxRecDepth 100000
namespace Go.Proofs.YtepbpdipenedhaaGreatDoor
open Go.Proofs.Tryz
open Go.RowKit
variable{X Y:List Int}{n:bN}{k m:Nat}{T:List (bN×Value)}{own:Nat->List Nat}{y:List Nat}{M:Nat->Nd}{w:World}
def wI (X Y:List Int) (n:Nat):Prop:=∃L:List Nat,L.length<=n/\∀k,k<3128->Y.getD k 0≠X.getD k 0->k∈L
theorem wI.trans{Z:List Int}{n:Nat}(h:wI X Y n)(k:wI Y Z m):wI X Z (n+m):=by
 obtain⟨L,V,G⟩:=h;obtain⟨K,U,J⟩:=k;refine⟨L++K,by rw[aD];omega,λi z y=> ?_⟩;rw[aR];by_cases e:Y.getD i 0=X.getD i 0
 ·exact .inr (J i z (by rw[e];exact y))
 ·exact .inl (G i z e)
theorem wI.mono{n:Nat}(h:wI X Y n)(G:n<=m):wI X Y m:=by
 obtain⟨L,z,y⟩:=h;exact⟨L,by omega,y⟩
theorem wI.puts{qs:List (Int×Int)}{L:List Nat}{n:Nat}(J:L.length<=n)(h:∀p∈qs,p.1.toNat∈L):wI X (az X qs) n:=by
 refine⟨L,J,λk _ y=> ?_⟩;by_cases G:∃p∈qs,p.1.toNat=k
 ·obtain⟨p,z,e⟩:=G
  rw[<-e];exact h p z
 ·exact absurd (iy _ _ _ λp z e=>G ⟨p,z,e⟩) y
def Ni:List Nat:=[816,817,818,819]
def JT (l:List Nat):List Nat:=l.flatMap (λb=>(List.range 8).map (1080+8*b+·))
theorem Fq:∀l:List Nat,(JT l).length=8*l.length
 | []=>rfl
 |b::l=>by
  have :=Fq l;unfold JT at this ⊢;rw[List.flatMap_cons,aD,this];simp;omega
theorem PW (h:816<=k/\k<820):k∈Ni:=by
 unfold Ni;simp;omega
theorem PX{l:List Nat}(y:1080<=k)(h:(k-1080)/8∈l):k∈JT l:=by
 unfold JT;rw[List.mem_flatMap];refine⟨_,h,?_⟩;rw[bL];exact⟨(k-1080)%8,by simp;omega,by omega⟩
theorem Tz{i:Nat}(h:824+8*i<=k/\k<824+8*i+8):k∈(List.range 8).map (824+8*i+·):=by
 rw[bL];exact⟨k-(824+8*i),by simp;omega,by omega⟩
structure pY (X:List Int) (T:List (bN×Value)) (own:Nat->List Nat) (ex:List Nat) (M:Nat->Nd):Prop where
 st:StX X T own ex
 abs:∀i,M i=xV X (nT T i)
theorem nS.nd(h:nS X T own y M):pY X T own y M:=⟨h.st,h.abs⟩
theorem pY.snd(h:pY X T own y M)(t:dY M):nS X T own y M:=⟨h.st,h.abs,t⟩
section
variable {X:List Int} {T:List (bN×Value)} {own:Nat->List Nat} {ex:List Nat} {M:Nat->Nd}
theorem pY.free(h:pY X T own ex M){i:Nat}(J:i<32):dO X (i:Int)↔(M i).K=0:=by
 rw[h.abs];show _↔(nT T i).K=0;rcases h.st.each J with ⟨G,y⟩|⟨G,y,-⟩
 ·refine⟨λz=>absurd z y.notFree,λz=> ?_⟩
  rcases y.right.2.2 with U|U<;>omega
 ·exact⟨λ_=>by rw[y];rfl,λ_=>G⟩
theorem pY.out(h:pY X T own ex M){i:Nat}(y:32<=i):M i=sU:=by rw[h.abs,h.st.gots.zero y];rfl
theorem pY.rng(h:pY X T own ex M){i:Nat}(z:(M i).K≠0):i<32:=by
 rcases dg i 32 with y|y
 ·exact y
 ·exact absurd (by rw[h.out y];rfl) z
theorem pY.store(h:pY X T own ex M){i:Nat}(y:(M i).K≠0):eP X (i:Int) (nT T i) (own i):=by
 rcases h.st.each (h.rng y) with ⟨-,z⟩|⟨z,-,-⟩
 ·exact z
 ·exact absurd ((h.free (h.rng y)).1 z) y
theorem pY.none(h:pY X T own ex M){i:Nat}(z:i<32)(G:(M i).K=0):nT T i=cX/\own i=[]:=by
 rcases h.st.each z with ⟨-,y⟩|⟨-,y⟩
 ·exact absurd ((h.free z).2 G) y.notFree
 ·exact y
theorem pY.kind(h:pY X T own ex M)(i:Nat):(nT T i).K=(M i).K:=by rw[h.abs];rfl
theorem pY.links(h:pY X T own ex M)(i:Nat):(nT T i).L=(M i).L:=by rw[h.abs];rfl
theorem pY.ents(h:pY X T own ex M)(i:Nat):(nT T i).E=(M i).E:=by rw[h.abs];rfl
theorem pY.putAt(h:pY X T own ex M){i:Nat}(z:i<32){n:bN}(hB:n.B.length=13)(W:bR n)(h2:dK n<=(bp (az X (cB X (own i)))).length){ex':List Nat}
  (hc:∀b,b<256->(eU n).count b+ex'.count b=(eU (nT T i)).count b+ex.count b) (hx:∀c∈ex',c≠0/\c<256) (ht:jO X n):
  ∃cH,pY (az X (j0 X i n (own i))) (xR T i n) cH ex' (oI M i (xV X n))/\xS X (az X (j0 X i n (own i))) (own i)/\(bp (az X (j0 X i n (own i)))).length+dK n=(bp X).length+(own i).length/\(∀k,k<816->(az X (j0 X i n (own i))).getD k 0=X.getD k 0)/\
   wI X (az X (j0 X i n (own i))) (12+8*dK n)/\(cH i).length=dK n/\∀j,j≠i->cH j=own j:=by
 obtain⟨p1,p2,p3,p4⟩:=h.st.put z hB W h2 hc hx ht;have J:((bp (az X (cB X (own i)))).take (dK n)).length=dK n:=by rw[aI];omega
 refine⟨_,⟨p1,λj=> ?_⟩,p2,p3,p4,?_,by rw[QN,aB rfl];exact J,λj hj=>by rw[QN,aA hj]⟩
 ·have hn:xV (az X (j0 X i n (own i))) n=xV X n:=by
   have aa:∀c∈eU n,c≠0/\c<256/\dx X c=true/\c∉own i:=λc y=>by
    have U:=uF hB W c y;have h5:=hc c U.2;have G:0<(eU n).count c:=List.count_pos_iff.2 y;rcases eK (ex.count c) with h7|h7
    ·have V:c∈eU (nT T i):=List.count_pos_iff.1 (by omega)
     exact⟨U.1,U.2,h.st.used z (dA _ V),λZ=>h.st.inner z Z V⟩
    ·have V:c∈ex:=List.count_pos_iff.1 h7
     exact⟨U.1,U.2,h.st.usedEx V,λZ=>h.st.apartEx z (dm _ Z) V⟩
   exact JK hB (λhK=>(wH W hK).2) λc y k hk=>by
    have :=aa c y;exact p2 c this.2.1 this.1 this.2.2.1 this.2.2.2 k hk
  have :=h.st.nodesUp h.abs p2 z (λj _=>h.st.filesOwn z j) n j;rw[hn] at this;exact this
 ·refine wI.puts (L:=Ni++((List.range 8).map (824+8*i+·)++JT ((bp (az X (cB X (own i)))).take (dK n)))) ?_ λp hp=> ?_
  ·rw[aD,aD,Fq,J]
   simp[Ni];omega
  ·rw[aR,aR]
   rcases Fl z W (own:=own i) rfl h2 hp with G|G|G
   ·exact .inl (PW G)
   ·exact .inr (.inl (Tz G))
   ·exact .inr (.inr (PX G.1 G.2))
theorem pY.freeGive(h:pY X T own ex M){i:Nat}(J:i<32):(bp (az X (cB X (own i)))).length=(bp X).length+(own i).length:=by
 rcases h.st.each J with ⟨-,y⟩|⟨-,-,e⟩
 ·exact ES y.mem y.nodup (λc z=>h.st.used J (dm _ z)) λc z G=>(ko (own i) X h.st.w64 h.st.len).2.1 c z G
 ·rw[e];rfl
theorem pY.put(h:pY X T own ex M){i:Nat}(V:(M i).K≠0){n:bN}(hB:n.B.length=13)(hR:bR n){r:Int}{qs:List (Int×Int)}(hp:uQ X (i:Int) n r qs){ex':List Nat}
  (hc:∀b,b<256->(eU n).count b+ex'.count b=(eU (nT T i)).count b+ex.count b) (hx:∀c∈ex',c≠0/\c<256) (ht:jO X n):
  (r=7/\qs=[]/\(bp X).length+dK (nT T i)<dK n)\/(r=0/\∃J,pY (az X qs) (xR T i n) J ex' (oI M i (xV X n))/\xS X (az X qs) (own i)/\(bp (az X qs)).length+dK n=(bp X).length+dK (nT T i)/\(∀k,k<816->(az X qs).getD k 0=X.getD k 0)/\
   wI X (az X qs) (12+8*dK n)):=by
 have W:=h.rng V;have y:=h.store V;have U:=h.freeGive W;rw[y.ownLen] at U;rcases hp.over y with ⟨-,z,-⟩|⟨z,-,h2,G⟩|⟨z,-,h2,G⟩
 ·exact absurd hR z
 ·exact .inl ⟨z,G,by omega⟩
 ·right
  rw[aJ] at G;subst G;obtain⟨J,p1,p2,Z,p4,p5,-,-⟩:=h.putAt W hB hR h2 hc hx ht;rw[y.ownLen] at Z;exact⟨z,J,p1,p2,Z,p4,p5⟩
theorem pY.new(h:pY X T own ex M){n:bN}(hB:n.B.length=13)(hR:bR n)(hn:dK n=0)(hf:eU n=[])(ht:jO X n){i r:Int}{qs:List (Int×Int)}(hp:Wd X n i r qs):
  (r=7/\qs=[]/\qV M=Option.none)\/(r=0/\∃j:Nat,i=(j:Int)/\qV M=some j/\j<32/\(M j).K=0/\∃U,pY (az X qs) (xR T j n) U ex (oI M j (xV X n))/\(bp (az X qs)).length=(bp X).length/\(∀k,k<816->(az X qs).getD k 0=X.getD k 0)/\wI X (az X qs) 12):=by
 rcases hp with ⟨h1,-,y,Z⟩|⟨j,z,V,ac,h1⟩
 ·refine .inl ⟨h1,Z,?_⟩
  unfold qV;rw[List.find?_eq_none];intro k G;rw[bP] at G;have :=(h.free G).2;simp;exact λe=>y k G (this e)
 ·have J:=(h.free z).1 V
  have aa:qV M=some j:=by
   unfold qV;rw[List.find?_range_eq_some];refine⟨by simpa using J,by simpa using z,λk G=> ?_⟩;have :=(h.free (i:=k) (by omega)).2;simp;exact λe=>ac k G (this e)
  obtain⟨e1,e2⟩:=h.none z J;rcases h1 with ⟨-,-,y,-⟩|⟨-,-,-,y,-⟩|⟨y,Z,-,h4,h5⟩
  ·exact absurd hR y
  ·omega
  ·right
   subst h5;have W:dK n<=(bp (az X (cB X (own j)))).length:=by omega
   obtain⟨U,p1,-,p3,p4,p5,-,-⟩:=h.putAt z hB hR W (ex':=ex) (λb _=>by rw[hf,e1];rfl) h.st.exr ht;rw[e2] at p1 p3 p4 p5;rw[hn] at p3 p5;exact⟨y,j,Z,aa,z,J,U,p1,by simpa using p3,p4,p5⟩
end
theorem Nj:∀E:List (ByteArray×Int),(dF E 0).length+(dF E 1).length+(dF E 2).length+(dF E 3).length=E.length
 | []=>rfl
 |p::E=>by
  have G:=Nj E;have z:=KT p;have y:∀b,(dF (p::E) b).length=(dF E b).length+(if F5 p=b then 1 else 0):=λb=>by
   unfold dF;rw[List.filter_cons];by_cases h:F5 p=b
   ·simp[h]
   ·simp[h]
  rw[y,y,y,y,bF];rcases (show F5 p=0\/F5 p=1\/F5 p=2\/F5 p=3 by omega) with h|h|h|h<;>rw[h]<;>simp<;>omega
theorem C2 (n:bN):dS n=(if 6<(eO n.B).length then 1 else 0)+((dF n.E 0).length+2)/3+((dF n.E 1).length+2)/3+((dF n.E 2).length+2)/3+((dF n.E 3).length+2)/3:=rfl
theorem L6 (y:bR n):n.E.length<=24:=by
 rcases y.2.2 with ⟨-,h⟩|⟨-,h⟩
 ·have :=h.2.1;omega
 ·exact h.1
theorem Fs (h:bR n):dK n<=11:=by
 have J:=Jd h;have z:=L6 h;have G:=Nj n.E;have y:=C2 n;unfold dK;split
 ·rw[y];split<;>omega
 ·omega
theorem PY{a b:ByteArray}(h:EW a b):leB b a=false:=by
 have z:¬EW b a:=λy=>kp _ (qU h y)
 have y:b≠a:=λe=>by subst e;exact kp _ h
 unfold leB;rw[Bool.or_eq_false_iff];refine⟨?_,?_⟩
 ·cases h3:Op.bytesLess b.toList a.toList
  ·rfl
  ·exact absurd h3 z
 ·cases h3:(b.toList==a.toList)
  ·rfl
  ·exact absurd (EX (by simpa using h3)) y
def JU (E:List (ByteArray×Int)):Prop:=E.length<=24/\(∀e∈E,gA (bl e.1)=true/\0<=e.2/\e.2<32)/\tU E
theorem Nk{E:List (ByteArray×Int)}(h:JU E):∀k,k<E.length->Ah E k:=λk y=>by
 have z:dZ E k=E[k].1:=by simp[dZ,y]
 have U:iC E k=E[k].2:=by simp[iC,y]
 obtain⟨J,V,W⟩:=h.2.1 E[k] (bA y);refine⟨by rw[z];exact J,by rw[U];omega,λZ=> ?_⟩;have G:dZ E (k-1)=(E[k-1]'(by omega)).1:=by simp[dZ,show k-1<E.length by omega]
 rw[z,G];exact PY (cU.1 h.2.2 (k-1) k (by omega) y (by omega))
theorem aae (J:bR n)(W:n.K=2):JU n.E:=by
 rcases J.2.2 with ⟨h,-⟩|⟨-,h⟩
 ·omega
 ·refine⟨h.1,λe G=> ?_,EY h⟩
  obtain⟨k,y,rfl⟩:=bU G;have z:=h.2.2.2 k y;have V:dZ n.E k=n.E[k].1:=by simp[dZ,y]
  have U:iC n.E k=n.E[k].2:=by simp[iC,y]
  rw[Ah,V,U] at z;exact⟨z.1,by omega,by omega⟩
theorem Fu (y:bR n)(J:n.K=2){E:List (ByteArray×Int)}(h:JU E):bR (lK n E):=by
 rcases y.2.2 with ⟨z,-⟩|⟨z,G⟩
 ·omega
 ·exact⟨y.1,y.2.1,.inr ⟨z,h.1,rfl,G.2.2.1,Nk h⟩⟩
section
variable {X:List Int} {T:List (bN×Value)} {own:Nat->List Nat} {ex:List Nat} {M:Nat->Nd}
theorem pY.node(h:pY X T own ex M){i:Nat}(y:(M i).K=2):(M i).D=[]:=by
 have e:=h.abs i;have z:=h.kind i;rw[e];show(if (nT T i).K=1 then _ else [])=[];rw[aA (by omega)]
theorem pY.ed(h:pY X T own ex M){d:Nat}(y:(M d).K=2):JU (M d).E:=by
 rw[<-h.ents];exact aae (h.store (by omega)).right (by rw[h.kind];exact y)
def Goes (X:List Int) (qs:List (Int×Int)) (ex:List Nat) (M':Nat->Nd) (n:Nat):Prop:=
 ∃y h,pY (az X qs) y h ex M'/\(∀k,k<816->(az X qs).getD k 0=X.getD k 0)/\wI X (az X qs) n
theorem pY.edit(h:pY X T own ex M){d:Nat}(U:(M d).K=2){E:List (ByteArray×Int)}(W:JU E){r:Int}{qs:List (Int×Int)}(hp:uQ X (d:Int) (lK (nT T d) E) r qs):
  (r=7/\qs=[]/\(bp X).length+dK (nT T d)<dK (lK (nT T d) E))\/(r=0/\Goes X qs ex (sK M d E) 100/\(bp (az X qs)).length+dK (lK (nT T d) E)=(bp X).length+dK (nT T d)):=by
 have y:=h.store (i:=d) (by omega);have G:(nT T d).K=2:=by rw[h.kind];exact U
 have J:=Fu y.right G W;have Z:xV X (lK (nT T d) E)={ M d with E:=E }:=by
  unfold xV;have V:(lK (nT T d) E).K=(M d).K:=h.kind d;have e2:(lK (nT T d) E).L=(M d).L:=h.links d;rw[V,e2,aA (by omega)];show({ K:=(M d).K,L:=(M d).L,D:=[],E:=E }:Nd)={ K:=(M d).K,L:=(M d).L,D:=(M d).D,E:=E };rw[h.node U]
 rcases h.put (i:=d) (by omega) (n:=lK (nT T d) E) y.len J hp (ex':=ex) (λb _=>rfl) h.st.exr (λz=>by
   have V:(lK (nT T d) E).K=(M d).K:=h.kind d;omega) with z|⟨z,cH,p1,-,p3,p4,p5⟩
 ·exact .inl z
 ·rw[Z] at p1
  exact .inr ⟨z,⟨_,_,p1,p4,p5.mono (by have :=Fs J;omega)⟩,p3⟩
def D9 (E:List (ByteArray×Int)) (nm:ByteArray) (i:Int):List (ByteArray×Int):=ub (l7 E nm) (nm,i)
theorem PZ {E A M B:List (ByteArray×Int)}{nm:ByteArray}(h:ia E A M B nm):ia (l7 E nm) A [] B nm:=⟨by rw[wG h];rfl,h.ahead,h.behind,.inl rfl⟩
theorem wJ {E A M B:List (ByteArray×Int)}{nm:ByteArray}(h:ia E A M B nm)(i:Int):D9 E nm i=A++([(nm,i)]++B):=wF (PZ h) i
theorem TA {E:List (ByteArray×Int)}(h:JU E){nm:ByteArray}{i:Int}(V:(D9 E nm i).length<=24)(J:gA (bl nm)=true)(y:0<=i/\i<32):JU (D9 E nm i):=by
 refine⟨V,λe G=> ?_,?_⟩
 ·rcases CR G with rfl|U
  ·exact⟨J,y.1,y.2⟩
  ·exact h.2.1 e (pM U)
 ·obtain⟨A,M,B,z⟩:=kv h.2.2 nm
  rw[wJ z];exact z.rises h.2.2 _ (.inr ⟨i,rfl⟩)
def rX (X:List Int) (ex:List Nat) (M:Nat->Nd) (d:Nat) (nm:ByteArray) (i:Int) (r:Int) (qs:List (Int×Int)):Prop:=
 (r=7/\qs=[]/\(24<(D9 (M d).E nm i).length\/(bp X).length<11))\/(r=0/\(D9 (M d).E nm i).length<=24/\Goes X qs ex (sK M d (D9 (M d).E nm i)) 100)
theorem pY.enter(h:pY X T own ex M){d:Nat}(G:(M d).K=2){nm:ByteArray}{i:Int}(W:gA (bl nm)=true)(V:0<=i/\i<32)(U:(D9 (M d).E nm i).length<=24){r:Int}{qs:List (Int×Int)}(Z:uQ X (d:Int) (lK (nT T d) (D9 (M d).E nm i)) r qs):rX X ex M d nm i r qs:=by
 have J:=TA (h.ed G) U W V;rcases h.edit G J Z with ⟨z,y,h3⟩|⟨z,y,-⟩
 ·refine .inl ⟨z,y,.inr ?_⟩
  have :=Fs (Fu (h.store (i:=d) (by omega)).right (by rw[h.kind];exact G) J);omega
 ·exact .inr ⟨z,U,y⟩
end
section
variable {X:List Int} {T:List (bN×Value)} {own:Nat->List Nat} {ex l:List Nat} {M:Nat->Nd}
end
section
variable {X:List Int} {n:bN} {c:List Int}
end
section
variable {X:List Int} {T:List (bN×Value)} {own:Nat->List Nat} {M:Nat->Nd}
end
theorem L8{v:Value}{g:Nat}{xs:List Value}(h:Reads w v g xs):v.oneCell'=true:=by
 obtain⟨a,cap,rfl,-⟩:=h;rfl
theorem P4{P:List ByteArray}(h:P.length=k+1):cm P=jK P k:=by
 unfold cm jK;rw[List.getLastD_eq_getLast?,List.getLast?_eq_getElem?,h,fO,aj]
theorem L9 (M:Nat->Nd)(P:List ByteArray):(P=[]/\cY M P=(0,1))\/(P≠[]/\kM P=false/\cY M P=(0,1))\/
  (P≠[]/\kM P=true/\(((ij M 0 P.dropLast).2≠0/\cY M P=ij M 0 P.dropLast)\/((ij M 0 P.dropLast).2=0/\(M (ij M 0 P.dropLast).1).K≠2/\cY M P=(0,4))\/((ij M 0 P.dropLast).2=0/\(M (ij M 0 P.dropLast).1).K=2/\cY M P=ij M 0 P.dropLast))):=by
 unfold cY;by_cases y:P=[]
 ·exact .inl ⟨y,by rw[aB (.inl y)]⟩
 ·cases h2:kM P with
  |false=>exact .inr (.inl ⟨y,rfl,by rw[aB (.inr rfl)]⟩)
  |true=>
   refine .inr (.inr ⟨y,rfl,?_⟩);rw[aA (by simp[y])];by_cases z:(ij M 0 P.dropLast).2=0
   ·by_cases G:(M (ij M 0 P.dropLast).1).K=2
    ·exact .inr (.inr ⟨z,G,by rw[aA (λh=>h.2 G)]⟩)
    ·exact .inr (.inl ⟨z,G,by rw[aB ⟨z,G⟩]⟩)
   ·exact .inl ⟨z,by rw[aA (λh=>z h.1)]⟩
theorem Ma{b gp:Nat}{B:List Int}{ps:List (Int×Int)}(h:fX w b gp B ps T own){M:Nat->Nd}(hA:LU M T){v:Value}{g:Nat}{P:List ByteArray}(hP:jh w v g P)(hs:∀s∈P,s.size<=9223372036854775807):
  Calls prog 155 #[.pointer (some ⟨b,0,none⟩),v] w (oJ w (cY M P) (cm P)):=by
 have HG:=ar (LS hP hs);obtain⟨a,cap,rfl,ae,aA,uL⟩:=hP.open;have U:=ar (L9 M P);have ET:Hid (∀e w',oJ w (cY M P) (cm P) e w'->oJ w (cY M P) (cm P) e w'):=λ_ _ h=>h
 rcases eK P.length with h0|h0
 ·have V:P=[]:=List.length_eq_zero_iff.1 h0
  have z:cY M P=(0,1):=by
   rcases U.out with y|y|y
   ·exact y.2
   ·exact absurd V y.1
   ·exact absurd V y.1
  have W:Hid (oJ w (cY M P) (cm P) (.returned (.tuple #[.int .i64 0,.string ⟨#[]⟩,.int .i64 1])) w):=⟨ay.refl _ _,.inr ⟨by rw[z];decide,by rw[z]⟩⟩;clear U ET h hA hP hs z HG;generalize oJ w (cY M P) (cm P)=Q at *;rw[h0] at ae ⊢;clear V h0 uL;go_enter func155,ntmps155;go_wp2_with fail
  go_ret3
  exact W.out
 ·obtain⟨k,hk⟩:∃k,P.length=k+1:=⟨P.length-1,by omega⟩
  have av:P≠[]:=λe=>by rw[e] at h0;simp at h0
  have hl:=P4 hk;have af:=hP.init;rw[hk,fO] at af;have HW:=ar (Tm h hA af);have HD:Hid (∀x:Nat,(M x).K≠0->∀wx,ay [] w wx->Calls prog 182 #[.pointer (some ⟨b,0,none⟩),.int .i64 (x:Int)] wx (rU wx (nT T x))):=λx hx wx hk=>
   xU (h.keep0 hk) (hA.tree.rng hx) (hA.form x hx)
  have aa:Hid ((ij M 0 P.dropLast).2=0->(M (ij M 0 P.dropLast).1).K≠0):=λhe=>(zf hA.tree P.dropLast 0 (by rw[hA.tree.root];omega) he).1
  have YN:Hid (∀x,(nT T x).K=(M x).K):=λx=>(hA.kind x).symm
  have Kf:Hid ((ij M 0 P.dropLast).2≠0->(ij M 0 P.dropLast).1=0):=JH _ _;obtain⟨aB,off,rfl,c0⟩:=uL.out k (by omega);have Ux:Hid (∀wx,ay [] w wx->wx.cell? ⟨g,off+k,none⟩=some (.string (cm P))):=λwx AU=>by
   rw[hl];exact(aK (w:=w) (a:=⟨g,off+k,none⟩) (AU.block g aB (by simp))).trans c0
  have Wu:Hid (∀w',ay [] w w'->cY M P=(0,1)->oJ w (cY M P) (cm P) (.returned (.tuple #[.int .i64 0,.string ⟨#[]⟩,.int .i64 1])) w'):=λw' yI z=>⟨yI,.inr ⟨by rw[z];decide,by rw[z]⟩⟩
  have J:Hid (∀w' r,ay [] w w'->(cY M P).2=r->r≠0->oJ w (cY M P) (cm P) (.returned (.tuple #[.int .i64 0,.string ⟨#[]⟩,.int .i64 r])) w'):=λw' r yI z hn=>⟨yI,.inr ⟨by rw[z];exact hn,by rw[z]⟩⟩
  have XQ:Hid (∀w' (x:Nat) nm,ay [] w w'->cY M P=(x,0)->nm=cm P->oJ w (cY M P) (cm P) (.returned (.tuple #[.int .i64 (x:Int),.string nm,.int .i64 0])) w'):=λw' x nm yI z hn=>⟨yI,.inl ⟨by rw[z],by rw[z,hn]⟩⟩
  have QL:=ar av;rw[hk] at ae HG ⊢;unfold maxLen at aA;have aF:(((k+1:Nat):Int)==0)=false:=by simp;omega
  have xB:=fu;clear h hA hP hs af hl c0 h0 av uL;generalize oJ w (cY M P) (cm P)=Q at *;generalize cY M P=R at *;generalize ij M 0 P.dropLast=S at *;generalize cm P=ln at *;generalize aj:aU cX (.slice none 0 0)=Z0 at *;have AY:=ar aj;have Jh:Hid (Z0.size=18):=by show _=_;rw[<-aj];rfl
  clear aj;cases hgd:kM P with
  |false=>
   rw[hgd] at HG;have z:R=(0,1):=by
    rcases U.out with y|y|y
    ·exact y.2
    ·exact y.2.2
    ·rw[hgd] at y;cases y.2.1
   have W:=ar (Wu.out w (ay.refl _ _) z);clear hgd z U Wu J XQ HW HD aa YN Kf Ux ET QL;go_enter func155,ntmps155;go_wp2_with fail;refine HG.out.mono ?_;rintro e w' ⟨rfl,rfl⟩;go_wp2_with fail
   go_ret3
   exact W.out
  |true=>
   rw[hgd] at HG;have HC:Hid ((S.2≠0/\R=S)\/(S.2=0/\(M S.1).K≠2/\R=(0,4))\/(S.2=0/\(M S.1).K=2/\R=S)):=by
    rcases U.out with y|y|y
    ·exact absurd y.1 QL.out
    ·rw[hgd] at y;cases y.2.1
    ·exact y.2.2
   obtain⟨x,ee⟩:=S;have aL:IntKind.i64.wrap (k:Int)=(k:Int):=by rw[IntKind.wrap_i64];omega
   have aI:(0:Int)<=(k:Int):=by omega
   have aM:(k:Int)<=(cap:Int):=by omega
   have aJ:(k:Int)<((k+1:Nat):Int):=by omega
   have aD:(k:Int)<(k:Int)+1:=by omega
   clear hgd U Wu ET QL;go_enter func155,ntmps155;go_wp2_with fail;refine HG.out.mono ?_;rintro e w' ⟨rfl,rfl⟩;go_wp2_with fail;refine HW.out.mono ?_;rintro e w1 ⟨rfl,az⟩;have jl:=ar az;clear az HW HG;by_cases he:ee=0
   ·subst he
    have ak:=ar (HD.out x (aa.out rfl) w1 jl.out);have ac:=YN.out x;clear HD aa YN Kf;generalize nT T x=n at *;go_wp2_with fail;refine ak.out.mono ?_;rintro e w2 ⟨Wv,⟨hK,v,g1,rfl,hB,hE,aC⟩|⟨hK,rfl⟩⟩
    ·obtain⟨w3,p1,p2,p3⟩:=fW (n:=n) (v:=v) (bf.new w2 Z0 111) Jh.out hB hE.one
     have uz:=ar p1;have P5:ay [] w w3:=(jl.out.trans' Wv).trans (((ay.refl [] w2).alloc _).trans p3 (by intro x hx;rw[au] at hx;omega)) (by simp);have ax:Hid (∀G,ay [] w3 G->G.cell? ⟨g,off+k,none⟩=some (.string ln)):=λG Z=>Ux.out G (P5.trans' Z)
     have z:R=(x,0):=by
      rcases HC.out with y|y|y
      ·exact absurd rfl y.1
      ·exact absurd (ac.symm.trans hK) y.2.1
      ·exact y.2.2
     have W:Hid (∀G,ay [] w3 G->Q (.returned (.tuple #[.int .i64 (x:Int),.string ln,.int .i64 0])) G):=λG Z=>XQ.out G x ln (P5.trans' Z) z rfl
     clear p1 p2 p3 P5 Wv hE hB aC z HC XQ J Ux ac hK ak;generalize aU n v=ZN at *;go_wp2_with(first|(with_reducible refine gS 111 uz.out ?_));refine dt (S:=λG=>ay [] w3 G) (by kernel_rfl) (by kernel_rfl) (λd _ _ _ _ h=>by cases d<;>exact h) ((ay.refl _ _).drew) (by kernel_rfl) ?_;repeat (first
      |(refine aH.cons ?_ (aX.val rfl ?h) ?_;(case h=>(intro G Z;have q0:=ax.out G Z;clear Z;go_simp;rfl));simp only[Act.put,ag,ah,ai]))
     refine aH.done λG Z=> ?_
     have Vx:=ar (W.out G Z);clear Z ax W;go_wp2_with fail
     go_ret3
     exact Vx.out
    ·obtain⟨w3,p1,p2,p3⟩:=fW (n:=cX) (v:= .slice none 0 0) (bf.new w2 Z0 111) Jh.out rfl rfl
     have uz:=ar p1;have P5:ay [] w w3:=(jl.out.trans' Wv).trans (((ay.refl [] w2).alloc _).trans p3 (by intro x hx;rw[au] at hx;omega)) (by simp);have z:R=(0,4):=by
      rcases HC.out with y|y|y
      ·exact absurd rfl y.1
      ·exact y.2.2
      ·exact absurd (ac.trans y.2.1) hK
     have W:=ar (J.out w3 4 P5 (by rw[z]) (by omega));clear p1 p2 p3 P5 Wv z HC XQ J Ux ac hK ak;go_wp2_with(first|(with_reducible refine gS 111 uz.out ?_))
     go_ret3
     exact W.out
   ·have z:R.2=ee:=by
     rcases HC.out with y|y|y
     ·rw[y.2]
     ·exact absurd y.1 he
     ·exact absurd y.1 he
    have W:=ar (J.out w1 ee jl.out z he);have aG:(ee==0)=false:=by simpa using he
    clear z HC XQ J Ux HD aa YN Kf he;go_wp2_with fail
    go_ret3
    exact W.out
end Go.Proofs.YtepbpdipenedhaaGreatDoor
