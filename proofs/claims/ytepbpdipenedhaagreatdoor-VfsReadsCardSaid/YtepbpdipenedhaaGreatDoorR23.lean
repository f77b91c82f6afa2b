/- Lemmas. -/
import Derived.Test.YtepbpdipenedhaaGreatDoorR22
set_option maxHeartbeats 4000000
set_option maxRecDepth 100000
namespace Go.Proofs.YtepbpdipenedhaaGreatDoor
open Go.Proofs.Tryz
open Go.RowKit
variable{B X Y c:List Int}{h n:bP}{k m:Nat}{l z:List Nat}{T:List (bP×Value)}{own:Nat->List Nat}{M:Nat->Nd}{w:World}
def nJ (X Y:List Int) (n:Nat):Prop:=∃L:List Nat,L.length<=n/\∀k,k<3128->Y.getD k 0≠X.getD k 0->k∈L
theorem nJ.refl(X:List Int)(n:Nat):nJ X X n:=⟨[],by simp,λ_ _ h=>absurd rfl h⟩
theorem nJ.trans{Z:List Int}{n:Nat}(h:nJ X Y n)(k:nJ Y Z m):nJ X Z (n+m):=by
 obtain⟨L,V,U⟩:=h;obtain⟨K,W,J⟩:=k;refine⟨L++K,by rw[aD];omega,λi G z=> ?_⟩;rw[aU];by_cases e:Y.getD i 0=X.getD i 0
 ·exact .inr (J i G (by rw[e];exact z))
 ·exact .inl (U i G e)
theorem nJ.mono{n:Nat}(h:nJ X Y n)(J:n<=m):nJ X Y m:=by
 obtain⟨L,G,z⟩:=h;exact⟨L,by omega,z⟩
theorem nJ.puts{qs:List (Int×Int)}{L:List Nat}{n:Nat}(U:L.length<=n)(h:∀p∈qs,p.1.toNat∈L):nJ X (aA X qs) n:=by
 refine⟨L,U,λk _ z=> ?_⟩;by_cases J:∃p∈qs,p.1.toNat=k
 ·obtain⟨p,G,e⟩:=J
  rw[<-e];exact h p G
 ·exact absurd (ey _ _ _ λp G e=>J ⟨p,G,e⟩) z
def wq:List Nat:=[816,817,818,819]
def Dm (l:List Nat):List Nat:=l.flatMap (λb=>(List.range 8).map (1080+8*b+·))
theorem uB:∀l:List Nat,(Dm l).length=8*l.length
 | []=>rfl
 |b::l=>by
  have :=uB l;unfold Dm at this ⊢;rw[List.flatMap_cons,aD,this];simp;omega
theorem uC (h:816<=k/\k<820):k∈wq:=by
 unfold wq;simp;omega
theorem yg (z:1080<=k)(h:(k-1080)/8∈l):k∈Dm l:=by
 unfold Dm;rw[List.mem_flatMap];refine⟨_,h,?_⟩;rw[bH];exact⟨(k-1080)%8,by simp;omega,by omega⟩
theorem Gn{i:Nat}(h:824+8*i<=k/\k<824+8*i+8):k∈(List.range 8).map (824+8*i+·):=by
 rw[bH];exact⟨k-(824+8*i),by simp;omega,by omega⟩
structure ni (X:List Int) (T:List (bP×Value)) (own:Nat->List Nat) (ex:List Nat) (M:Nat->Nd):Prop where
 st:StX X T own ex
 abs:∀i,M i=sS X (nT T i)
theorem lY.nd(h:lY X T own z M):ni X T own z M:=⟨h.st,h.abs⟩
theorem ni.snd(h:ni X T own z M)(t:eo M):lY X T own z M:=⟨h.st,h.abs,t⟩
section
variable {X:List Int} {T:List (bP×Value)} {own:Nat->List Nat} {ex:List Nat} {M:Nat->Nd}
theorem ni.free(h:ni X T own ex M){i:Nat}(U:i<32):dP X (i:Int)↔(M i).K=0:=by
 rw[h.abs];show _↔(nT T i).K=0;rcases h.st.each U with ⟨G,z⟩|⟨G,z,-⟩
 ·refine⟨λJ=>absurd J z.notFree,λJ=> ?_⟩
  rcases z.right.2.2 with V|V<;>omega
 ·exact⟨λ_=>by rw[z];rfl,λ_=>G⟩
theorem ni.out(h:ni X T own ex M){i:Nat}(z:32<=i):M i=vL:=by rw[h.abs,h.st.gots.zero z];rfl
theorem ni.rng(h:ni X T own ex M){i:Nat}(G:(M i).K≠0):i<32:=by
 rcases dG i 32 with z|z
 ·exact z
 ·exact absurd (by rw[h.out z];rfl) G
theorem ni.store(h:ni X T own ex M){i:Nat}(G:(M i).K≠0):eG X (i:Int) (nT T i) (own i):=by
 rcases h.st.each (h.rng G) with ⟨-,z⟩|⟨z,-,-⟩
 ·exact z
 ·exact absurd ((h.free (h.rng G)).1 z) G
theorem ni.none(h:ni X T own ex M){i:Nat}(G:i<32)(J:(M i).K=0):nT T i=cr/\own i=[]:=by
 rcases h.st.each G with ⟨-,z⟩|⟨-,z⟩
 ·exact absurd ((h.free G).2 J) z.notFree
 ·exact z
theorem ni.kind(h:ni X T own ex M)(i:Nat):(nT T i).K=(M i).K:=by rw[h.abs];rfl
theorem ni.links(h:ni X T own ex M)(i:Nat):(nT T i).L=(M i).L:=by rw[h.abs];rfl
theorem ni.ents(h:ni X T own ex M)(i:Nat):(nT T i).E=(M i).E:=by rw[h.abs];rfl
theorem ni.putAt(h:ni X T own ex M){i:Nat}(J:i<32){n:bP}(hB:n.B.length=13)(hR:bZ n)(h2:dz n<=(aZ (aA X (cJ X (own i)))).length){ex':List Nat}
  (hc:∀b,b<256->(dn n).count b+ex'.count b=(dn (nT T i)).count b+ex.count b) (hx:∀c∈ex',c≠0/\c<256) (ht:jR X n):
  ∃cM,ni (aA X (lH X i n (own i))) (mQ T i n) cM ex' (ng M i (sS X n))/\pg X (aA X (lH X i n (own i))) (own i)/\(aZ (aA X (lH X i n (own i)))).length+dz n=(aZ X).length+(own i).length/\(∀k,k<816->(aA X (lH X i n (own i))).getD k 0=X.getD k 0)/\
   nJ X (aA X (lH X i n (own i))) (12+8*dz n)/\(cM i).length=dz n/\∀j,j≠i->cM j=own j:=by
 obtain⟨p1,p2,p3,p4⟩:=h.st.put J hB hR h2 hc hx ht;have V:((aZ (aA X (cJ X (own i)))).take (dz n)).length=dz n:=by rw[aJ];omega
 refine⟨_,⟨p1,λj=> ?_⟩,p2,p3,p4,?_,by rw[Hm,aC rfl];exact V,λj hj=>by rw[Hm,aB hj]⟩
 ·have hn:sS (aA X (lH X i n (own i))) n=sS X n:=by
   have aa:∀c∈dn n,c≠0/\c<256/\dC X c=true/\c∉own i:=λc z=>by
    have W:=pJ hB hR c z;have h5:=hc c W.2;have G:0<(dn n).count c:=List.count_pos_iff.2 z;rcases eT (ex.count c) with h7|h7
    ·have U:c∈dn (nT T i):=List.count_pos_iff.1 (by omega)
     exact⟨W.1,W.2,h.st.used J (bV _ U),λh9=>h.st.inner J h9 U⟩
    ·have U:c∈ex:=List.count_pos_iff.1 h7
     exact⟨W.1,W.2,h.st.usedEx U,λh9=>h.st.apartEx J (bR _ h9) U⟩
   exact Bc hB (λhK=>(rZ hR hK).2) λc z k hk=>by
    have :=aa c z;exact p2 c this.2.1 this.1 this.2.2.1 this.2.2.2 k hk
  have :=h.st.nodesUp h.abs p2 J (λj _=>h.st.filesOwn J j) n j;rw[hn] at this;exact this
 ·refine nJ.puts (L:=wq++((List.range 8).map (824+8*i+·)++Dm ((aZ (aA X (cJ X (own i)))).take (dz n)))) ?_ λp hp=> ?_
  ·rw[aD,aD,uB,V]
   simp[wq];omega
  ·rw[aU,aU]
   rcases yb J hR (own:=own i) rfl h2 hp with G|G|G
   ·exact .inl (uC G)
   ·exact .inr (.inl (Gn G))
   ·exact .inr (.inr (yg G.1 G.2))
theorem ni.freeGive(h:ni X T own ex M){i:Nat}(U:i<32):(aZ (aA X (cJ X (own i)))).length=(aZ X).length+(own i).length:=by
 rcases h.st.each U with ⟨-,z⟩|⟨-,-,e⟩
 ·exact uj z.mem z.nodup (λc J=>h.st.used U (bR _ J)) λc J G=>(jF (own i) X h.st.w64 h.st.len).2.1 c J G
 ·rw[e];rfl
theorem ni.put(h:ni X T own ex M){i:Nat}(hi:(M i).K≠0){n:bP}(hB:n.B.length=13)(W:bZ n){r:Int}{qs:List (Int×Int)}(hp:nH X (i:Int) n r qs){ex':List Nat}
  (hc:∀b,b<256->(dn n).count b+ex'.count b=(dn (nT T i)).count b+ex.count b) (hx:∀c∈ex',c≠0/\c<256) (ht:jR X n):
  (r=7/\qs=[]/\(aZ X).length+dz (nT T i)<dz n)\/(r=0/\∃V,ni (aA X qs) (mQ T i n) V ex' (ng M i (sS X n))/\pg X (aA X qs) (own i)/\(aZ (aA X qs)).length+dz n=(aZ X).length+dz (nT T i)/\(∀k,k<816->(aA X qs).getD k 0=X.getD k 0)/\
   nJ X (aA X qs) (12+8*dz n)):=by
 have jK:=h.rng hi;have z:=h.store hi;have U:=h.freeGive jK;rw[z.ownLen] at U;rcases hp.over z with ⟨-,G,-⟩|⟨G,-,h2,J⟩|⟨G,-,h2,J⟩
 ·exact absurd W G
 ·exact .inl ⟨G,J,by omega⟩
 ·right
  rw[aH] at J;subst J;obtain⟨V,p1,p2,p3,p4,p5,-,-⟩:=h.putAt jK hB W h2 hc hx ht;rw[z.ownLen] at p3;exact⟨G,V,p1,p2,p3,p4,p5⟩
theorem ni.new(h:ni X T own ex M){n:bP}(hB:n.B.length=13)(hR:bZ n)(hn:dz n=0)(hf:dn n=[])(ht:jR X n){i r:Int}{qs:List (Int×Int)}(hp:abj X n i r qs):
  (r=7/\qs=[]/\uw M=Option.none)\/(r=0/\∃j:Nat,i=(j:Int)/\uw M=some j/\j<32/\(M j).K=0/\∃W,ni (aA X qs) (mQ T j n) W ex (ng M j (sS X n))/\(aZ (aA X qs)).length=(aZ X).length/\(∀k,k<816->(aA X qs).getD k 0=X.getD k 0)/\nJ X (aA X qs) 12):=by
 rcases hp with ⟨h1,-,z,h3⟩|⟨j,G,ac,aa,h1⟩
 ·refine .inl ⟨h1,h3,?_⟩
  unfold uw;rw[List.find?_eq_none];intro k J;rw[bX] at J;have :=(h.free J).2;simp;exact λe=>z k J (this e)
 ·have BI:=(h.free G).1 ac
  have ae:uw M=some j:=by
   unfold uw;rw[List.find?_range_eq_some];refine⟨by simpa using BI,by simpa using G,λk J=> ?_⟩;have :=(h.free (i:=k) (by omega)).2;simp;exact λe=>aa k J (this e)
  obtain⟨e1,e2⟩:=h.none G BI;rcases h1 with ⟨-,-,z,-⟩|⟨-,-,-,z,-⟩|⟨z,h3,-,h4,h5⟩
  ·exact absurd hR z
  ·omega
  ·right
   subst h5;have U:dz n<=(aZ (aA X (cJ X (own j)))).length:=by omega
   obtain⟨W,p1,-,V,p4,p5,-,-⟩:=h.putAt G hB hR U (ex':=ex) (λb _=>by rw[hf,e1];rfl) h.st.exr ht;rw[e2] at p1 V p4 p5;rw[hn] at V p5;exact⟨z,j,h3,ae,G,BI,W,p1,by simpa using V,p4,p5⟩
theorem ni.drop(h:ni X T own ex M){i:Nat}(V:(M i).K≠0){r:Int}{qs:List (Int×Int)}(U:MG X (i:Int) r qs):
  r=0/\∃cM,ni (aA X qs) (mQ T i cr) cM ex (ng M i vL)/\(aZ X).length<=(aZ (aA X qs)).length/\(∀k,k<816->(aA X qs).getD k 0=X.getD k 0)/\nJ X (aA X qs) 12:=by
 have W:=h.rng V;have G:=h.store V;rcases U with ⟨-,z,-⟩|⟨-,-,z,-⟩|⟨-,-,-,z,-⟩|⟨z,n,o,hs,h2⟩
 ·exact absurd ⟨by omega,by omega⟩ z
 ·exact absurd z G.notFree
 ·exact absurd G (z _ _)
 ·obtain⟨e1,e2⟩:=G.uniq hs
  subst e1 e2;rw[aH] at h2;subst h2;obtain⟨p1,p2,p3,p4⟩:=h.st.drop W;refine⟨z,_,⟨p1,λj=> ?_⟩,by omega,p4,?_⟩
  ·exact h.st.nodesUp h.abs p2 W (λj _ c _=>by simp) cr j
  ·refine nJ.puts (L:=wq++(List.range 8).map (824+8*i+·)) (by simp[wq]) λp U=> ?_
   rw[aU];rcases aU.1 U with J|J
   ·exact .inl (uC (zP _ _ _ J))
   ·obtain⟨j,hj,h4,-⟩:=lF J
    exact .inr (Gn (by omega))
end
theorem RI:∀E:List (ByteArray×Int),(ez E 0).length+(ez E 1).length+(ez E 2).length+(ez E 3).length=E.length
 | []=>rfl
 |p::E=>by
  have J:=RI E;have G:=OW p;have z:∀b,(ez (p::E) b).length=(ez E b).length+(if JS p=b then 1 else 0):=λb=>by
   unfold ez;rw[iT];by_cases h:JS p=b
   ·simp[h]
   ·simp[h]
  rw[z,z,z,z,bQ];rcases (show JS p=0\/JS p=1\/JS p=2\/JS p=3 by omega) with h|h|h|h<;>rw[h]<;>simp<;>omega
theorem pN (n:bP):eP n=(if 6<(fu n.B).length then 1 else 0)+((ez n.E 0).length+2)/3+((ez n.E 1).length+2)/3+((ez n.E 2).length+2)/3+((ez n.E 3).length+2)/3:=rfl
theorem P5 (z:bZ n):n.E.length<=24:=by
 rcases z.2.2 with ⟨-,h⟩|⟨-,h⟩
 ·have :=h.2.1;omega
 ·exact h.1
theorem uD (h:bZ n):dz n<=11:=by
 have G:=MB h;have J:=P5 h;have U:=RI n.E;have z:=pN n;unfold dz;split
 ·rw[z];split<;>omega
 ·omega
theorem Uy{z:bP}(hF:z.F=n.F)(V:z.B=n.B)(G:∀b,(ez z.E b).length<=(ez n.E b).length)(hl:z.E.length<=n.E.length):dz z<=dz n:=by
 have h0:=G 0;have W:=G 1;have h2:=G 2;have h3:=G 3;unfold dz;rw[hF];split
 ·rw[pN,pN,V];omega
 ·unfold eZ bj
  rw[V];by_cases J:n.B.drop 5≠List.replicate 8 0
  ·rw[aC (.inr J),aC (.inr J)];omega
  ·by_cases U:5<(z.E.length+3)/4
   ·rw[aC (.inl U),aC (.inl (by omega))];omega
   ·rw[aB (λh=>h.elim U J)]
    split<;>omega
theorem KA (A B:List (ByteArray×Int))(b:Nat):ez (A++B) b=ez A b++ez B b:=ft ..
theorem Uz{A M B:List (ByteArray×Int)}(h:n.E=A++(M++B)):dz (kH n (A++B))<=dz n:=by
 refine Uy rfl rfl (λb=> ?_) ?_
 ·show(ez (A++B) b).length<=_
  rw[h,KA,KA,KA,aD,aD,aD];omega
 ·show(A++B).length<=_
  rw[h];simp
theorem P6 (hF:h.F=n.F)(z:h.E=n.E)(G:h.B=n.B):dz h=dz n:=by
 unfold dz eZ;rw[hF,pN,pN,z,G]
theorem UB{a b:ByteArray}(h:IX a b):leB b a=false:=by
 have G:¬IX b a:=λz=>lS _ (uq h z)
 have z:b≠a:=λe=>by subst e;exact lS _ h
 unfold leB;rw[Bool.or_eq_false_iff];refine⟨?_,?_⟩
 ·cases h3:Op.bytesLess b.toList a.toList
  ·rfl
  ·exact absurd h3 G
 ·cases h3:(b.toList==a.toList)
  ·rfl
  ·exact absurd (IY (by simpa using h3)) z
def Hu (E:List (ByteArray×Int)):Prop:=E.length<=24/\(∀e∈E,iC (bl e.1)=true/\0<=e.2/\e.2<32)/\xB E
theorem RJ{E:List (ByteArray×Int)}(h:Hu E):∀k,k<E.length->Dw E k:=λk z=>by
 have G:eU E k=E[k].1:=by simp[eU,z]
 have V:jl E k=E[k].2:=by simp[jl,z]
 obtain⟨J,h2,h3⟩:=h.2.1 E[k] (bA z);refine⟨by rw[G];exact J,by rw[V];omega,λW=> ?_⟩;have U:eU E (k-1)=(E[k-1]'(by omega)).1:=by simp[eU,show k-1<E.length by omega]
 rw[G,U];exact UB (cU.1 h.2.2 (k-1) k (by omega) z (by omega))
theorem adN (J:bZ n)(hK:n.K=2):Hu n.E:=by
 rcases J.2.2 with ⟨h,-⟩|⟨-,h⟩
 ·omega
 ·refine⟨h.1,λe V=> ?_,IZ h⟩
  obtain⟨k,z,rfl⟩:=cj V;have G:=h.2.2.2 k z;have W:eU n.E k=n.E[k].1:=by simp[eU,z]
  have U:jl n.E k=n.E[k].2:=by simp[jl,z]
  rw[Dw,W,U] at G;exact⟨G.1,by omega,by omega⟩
theorem Jg (z:bZ n)(U:n.K=2){E:List (ByteArray×Int)}(h:Hu E):bZ (kH n E):=by
 rcases z.2.2 with ⟨G,-⟩|⟨G,J⟩
 ·omega
 ·exact⟨z.1,z.2.1,.inr ⟨G,h.1,rfl,J.2.2.1,RJ h⟩⟩
section
variable {X:List Int} {T:List (bP×Value)} {own:Nat->List Nat} {ex:List Nat} {M:Nat->Nd}
theorem ni.node(h:ni X T own ex M){i:Nat}(G:(M i).K=2):(M i).D=[]:=by
 have e:=h.abs i;have z:=h.kind i;rw[e];show(if (nT T i).K=1 then _ else [])=[];rw[aB (by omega)]
theorem ni.ed(h:ni X T own ex M){d:Nat}(z:(M d).K=2):Hu (M d).E:=by
 rw[<-h.ents];exact adN (h.store (by omega)).right (by rw[h.kind];exact z)
def Goes (X:List Int) (qs:List (Int×Int)) (ex:List Nat) (M':Nat->Nd) (n:Nat):Prop:=
 ∃z h,ni (aA X qs) z h ex M'/\(∀k,k<816->(aA X qs).getD k 0=X.getD k 0)/\nJ X (aA X qs) n
theorem ni.edit(h:ni X T own ex M){d:Nat}(V:(M d).K=2){E:List (ByteArray×Int)}(hE:Hu E){r:Int}{qs:List (Int×Int)}(hp:nH X (d:Int) (kH (nT T d) E) r qs):
  (r=7/\qs=[]/\(aZ X).length+dz (nT T d)<dz (kH (nT T d) E))\/(r=0/\Goes X qs ex (sA M d E) 100/\(aZ (aA X qs)).length+dz (kH (nT T d) E)=(aZ X).length+dz (nT T d)):=by
 have z:=h.store (i:=d) (by omega);have J:(nT T d).K=2:=by rw[h.kind];exact V
 have U:=Jg z.right J hE;have hn:sS X (kH (nT T d) E)={ M d with E:=E }:=by
  unfold sS;have W:(kH (nT T d) E).K=(M d).K:=h.kind d;have e2:(kH (nT T d) E).L=(M d).L:=h.links d;rw[W,e2,aB (by omega)];show({ K:=(M d).K,L:=(M d).L,D:=[],E:=E }:Nd)={ K:=(M d).K,L:=(M d).L,D:=(M d).D,E:=E };rw[h.node V]
 rcases h.put (i:=d) (by omega) (n:=kH (nT T d) E) z.len U hp (ex':=ex) (λb _=>rfl) h.st.exr (λG=>by
   have W:(kH (nT T d) E).K=(M d).K:=h.kind d;omega) with G|⟨G,cM,p1,-,p3,p4,p5⟩
 ·exact .inl G
 ·rw[hn] at p1
  exact .inr ⟨G,⟨_,_,p1,p4,p5.mono (by have :=uD U;omega)⟩,p3⟩
def Hv (E:List (ByteArray×Int)) (nm:ByteArray) (i:Int):List (ByteArray×Int):=xI (lW E nm) (nm,i)
theorem UC {E A M B:List (ByteArray×Int)}{nm:ByteArray}(h:iN E A M B nm):iN (lW E nm) A [] B nm:=⟨by rw[rY h];rfl,h.ahead,h.behind,.inl rfl⟩
theorem zQ {E A M B:List (ByteArray×Int)}{nm:ByteArray}(h:iN E A M B nm)(i:Int):Hv E nm i=A++([(nm,i)]++B):=zO (UC h) i
theorem Yd {E:List (ByteArray×Int)}(h:Hu E)(nm:ByteArray):Hu (lW E nm):=
 ⟨cD (F8 _ _) h.1,λe z=>h.2.1 e (qq z),h.2.2.sublist List.filter_sublist⟩
theorem Ye {E:List (ByteArray×Int)}(h:Hu E){nm:ByteArray}{i:Int}(W:(Hv E nm i).length<=24)(V:iC (bl nm)=true)(z:0<=i/\i<32):Hu (Hv E nm i):=by
 refine⟨W,λe U=> ?_,?_⟩
 ·rcases F9 U with rfl|J
  ·exact⟨V,z.1,z.2⟩
  ·exact h.2.1 e (qq J)
 ·obtain⟨A,M,B,G⟩:=kQ h.2.2 nm
  rw[zQ G];exact G.rises h.2.2 _ (.inr ⟨i,rfl⟩)
def vP (X:List Int) (ex:List Nat) (M:Nat->Nd) (d:Nat) (nm:ByteArray) (i:Int) (r:Int) (qs:List (Int×Int)):Prop:=
 (r=7/\qs=[]/\(24<(Hv (M d).E nm i).length\/(aZ X).length<11))\/(r=0/\(Hv (M d).E nm i).length<=24/\Goes X qs ex (sA M d (Hv (M d).E nm i)) 100)
theorem ni.enter(h:ni X T own ex M){d:Nat}(J:(M d).K=2){nm:ByteArray}{i:Int}(hn:iC (bl nm)=true)(W:0<=i/\i<32)(U:(Hv (M d).E nm i).length<=24){r:Int}{qs:List (Int×Int)}(hp:nH X (d:Int) (kH (nT T d) (Hv (M d).E nm i)) r qs):vP X ex M d nm i r qs:=by
 have V:=Ye (h.ed J) U hn W;rcases h.edit J V hp with ⟨z,G,h3⟩|⟨z,G,-⟩
 ·refine .inl ⟨z,G,.inr ?_⟩
  have :=uD (Jg (h.store (i:=d) (by omega)).right (by rw[h.kind];exact J) V);omega
 ·exact .inr ⟨z,U,G⟩
def Cv (X:List Int) (ex:List Nat) (M:Nat->Nd) (d:Nat) (nm:ByteArray) (r:Int) (qs:List (Int×Int)):Prop:=
 r=0/\Goes X qs ex (sA M d (lW (M d).E nm)) 100/\(aZ X).length<=(aZ (aA X qs)).length
theorem ni.leave(h:ni X T own ex M){d:Nat}(z:(M d).K=2){nm:ByteArray}{r:Int}{qs:List (Int×Int)}(W:nH X (d:Int) (kH (nT T d) (lW (M d).E nm)) r qs):Cv X ex M d nm r qs:=by
 have hE:=Yd (h.ed z) nm;obtain⟨A,N,B,U⟩:=kQ (h.ed z).2.2 nm;have V:dz (kH (nT T d) (lW (M d).E nm))<=dz (nT T d):=by
  rw[rY U];exact Uz (M:=N) (by rw[h.ents];exact U.eq)
 rcases h.edit z hE W with ⟨G,J,h3⟩|⟨G,J,h3⟩
 ·omega
 ·exact⟨G,J,by omega⟩
def Nk (n:Nd):Nd:=if n.L=1 then vL else { n with L:=n.L-1 }
def qZ (X:List Int) (ex:List Nat) (M:Nat->Nd) (i:Nat) (r:Int) (qs:List (Int×Int)):Prop:=
 r=0/\Goes X qs ex (ng M i (Nk (M i))) 100/\(aZ X).length<=(aZ (aA X qs)).length
theorem ni.unlinkDrop(h:ni X T own ex M){i:Nat}(hK:(M i).K≠0)(W:(M i).L=1){r:Int}{qs:List (Int×Int)}(hp:MG X (i:Int) r qs):qZ X ex M i r qs:=by
 obtain⟨z,G,V,J,p3,U⟩:=h.drop hK hp;refine⟨z,⟨mQ T i cr,G,?_,p3,U.mono (by omega)⟩,J⟩;unfold Nk;rw[aC W];exact V
theorem P7 {n:bP}(h:bZ n){l:Int}(z:0<=l/\l<=65535):bZ { n with L:=l }:=⟨h.1,z,h.2.2⟩
theorem ni.links'(h:ni X T own ex M){i:Nat}(G:(M i).K≠0){l:Int}(hl:0<=l/\l<=65535){r:Int}{qs:List (Int×Int)}(hp:nH X (i:Int) { nT T i with L:=l } r qs):
  r=0/\Goes X qs ex (ng M i { M i with L:=l }) 100/\(aZ X).length=(aZ (aA X qs)).length:=by
 have z:=h.store G;have J:=P7 z.right hl;have e:dz { nT T i with L:=l }=dz (nT T i):=P6 rfl rfl rfl;have hn:sS X { nT T i with L:=l }={ M i with L:=l }:=by rw[h.abs i];rfl
 rcases h.put G (n:={ nT T i with L:=l }) z.len J hp (ex':=ex) (λb _=>rfl) h.st.exr (h.st.tails i (h.rng G)) with ⟨-,-,U⟩|⟨U,cM,V,-,p3,p4,W⟩
 ·omega
 ·rw[hn] at V
  exact⟨U,⟨_,_,V,p4,W.mono (by have :=uD J;revert this;generalize dz { nT T i with L:=l }=a;omega)⟩,by omega⟩
theorem ni.unlinkPut(h:ni X T own ex M){i:Nat}(z:(M i).K≠0)(W:1<(M i).L){r:Int}{qs:List (Int×Int)}(V:nH X (i:Int) { nT T i with L:=(M i).L-1 } r qs):qZ X ex M i r qs:=by
 have G:=(h.store z).right.2.1;rw[h.links] at G;obtain⟨J,U,h3⟩:=h.links' z (l:=(M i).L-1) (by omega) V;refine⟨J,?_,by omega⟩;unfold Nk;rw[aB (by omega)];exact U
end
structure xL (X:List Int) (T:List (bP×Value)) (own:Nat->List Nat) (i:Nat) (l:List Nat) (M:Nat->Nd):Prop where
 st:qX X T (mQ T i cr) own l
 abs:∀j,j≠i->M j=sS X (nT T j)
theorem Yf (own:Nat->List Nat)(i:Nat):Hm own i (own i)=own:=by
 funext j
 unfold Hm;split
 ·next e=>rw[e]
 ·rfl
section
variable {X:List Int} {T:List (bP×Value)} {own:Nat->List Nat} {ex l:List Nat} {M:Nat->Nd}
theorem ni.opened(h:ni X T own [] M){i:Nat}(G:i<32):xL X T own i (dn (nT T i)) M:=by
 have z:=λj=>oX h.st.gots.len G cr j
 refine⟨⟨h.st.len,h.st.w64,h.st.sup,h.st.gots,h.st.all,λb W=> ?_,λc hc=>h.st.rng G (bV _ hc),λj V=> ?_,by unfold mQ;rw[cT];exact h.st.gots.len,λj=> ?_⟩,λj _=>h.abs j⟩
 ·have J:=(Gc h.st.gots.len own G cr (own i) b 32).2 G
  have U:=h.st.once b W;rw[Yf,sP,bu] at J;unfold mL at J;rw[gK] at J;unfold wG at U ⊢;rw[List.count_nil,dR] at U;rw[show jQ (mQ T i cr) own 32 b+(dn (nT T i)).count b=jQ T own 32 b by omega];exact U
 ·rw[z]
  split
  ·intro hK;simp[cr] at hK
  ·exact h.st.tails j V
 ·rw[z]
  split
  ·exact .inr rfl
  ·exact .inl rfl
theorem xL.vir{i:Nat}(_:xL X T own i l M){j:Nat}(h:j≠i):nT (mQ T i cr) j=nT T j:=by
 unfold mQ nT;rw[aj,List.getElem?_set_ne (dK h),<-aj]
theorem xL.step{i:Nat}(h:xL X T own i l M){Y:List Int}{l' m:List Nat}(hs:qX Y T (mQ T i cr) own l')(V:pg X Y m)(W:∀c∈m,c∈l):xL Y T own i l' M:=by
 refine⟨hs,λj G=> ?_⟩;rw[h.abs j G];have :=h.st.nodes V (j:=j) λc U J=>by
  rcases dG j 32 with z|z
  ·exact h.st.apartEx z (bV _ U) (W c J)
  ·rw[h.vir G,h.st.gots.zero z,sP] at U;simp at U
 rw[h.vir G] at this;exact this.symm
theorem xL.words{i:Nat}(h:xL X T own i l M)(G:i<32){qs:List (Int×Int)}(J:∀p∈qs,1080<=p.1.toNat/\(p.1.toNat-1080)/8∈l)(z:In64 (aA X qs)):xL (aA X qs) T own i l M/\aZ (aA X qs)=aZ X/\∀k,k<1080->(aA X qs).getD k 0=X.getD k 0:=by
 have W:nT (mQ T i cr) i=cr:=by rw[oX h.st.gots.len G,aC rfl]
 obtain⟨h1,h2,h3,h4⟩:=h.st.words G (λp U=>⟨(J p U).1,.inr (J p U).2⟩) z (by rw[W];intro hK;simp[cr] at hK);exact⟨h.step h1 h2 (λc V=>by rw[W,sP] at V;simpa using V),h3,h4⟩
theorem xL.close{i:Nat}(h:xL X T own i l M)(U:i<32){n:bP}(hB:n.B.length=13)(W:bZ n)(G:eG X (i:Int) (nT T i) (own i)){r:Int}{qs:List (Int×Int)}(hp:nH X (i:Int) n r qs)
  (z:∀b,b<256->(dn n).count b=l.count b) (ht:jR X n):
  (r=7/\qs=[]/\(aZ X).length+dz (nT T i)<dz n)\/(r=0/\Goes X qs [] (ng M i (sS X n)) 100):=by
 have ac:(aZ (aA X (cJ X (own i)))).length=(aZ X).length+(own i).length:=uj G.mem G.nodup (λc z=>h.st.used U (bR _ z)) λc z ag=>(jF (own i) X h.st.w64 h.st.len).2.1 c z ag
 rw[G.ownLen] at ac;have hz:nT (mQ T i cr) i=cr:=by rw[oX h.st.gots.len U,aC rfl]
 rcases hp.over G with ⟨-,J,-⟩|⟨J,-,h2,h3⟩|⟨J,-,h2,h3⟩
 ·exact absurd W J
 ·exact .inl ⟨J,h3,by omega⟩
 ·right
  rw[aH] at h3;subst h3;obtain⟨p1,p2,p3,p4⟩:=h.st.put U hB W h2 (ex':=[]) (λb hb=>by rw[hz,sP,z b hb];simp) (by simp) ht;have ah:mQ (mQ T i cr) i n=mQ T i n:=by unfold mQ;rw[List.set_set]
  rw[ah] at p1;have af:((aZ (aA X (cJ X (own i)))).take (dz n)).length=dz n:=by rw[aJ];omega
  have ai:=uD W;refine⟨J,_,_,⟨p1,λj=> ?_⟩,p4,nJ.puts (L:=wq++((List.range 8).map (824+8*i+·)++Dm ((aZ (aA X (cJ X (own i)))).take (dz n)))) ?_ λp hp=> ?_⟩
  ·rw[oX h.st.gots.len U]
   by_cases e:i=j
   ·subst e
    rw[mJ,aC rfl];exact(Bc hB (λhK=>(rZ W hK).2) λc aa k hk=>by
     have h4:=pJ hB W c aa;have h5:c∈l:=by
      have :=z c h4.2;have V:0<(dn n).count c:=List.count_pos_iff.2 aa;exact List.count_pos_iff.1 (by omega)
     exact p2 c h4.2 h4.1 (h.st.usedEx h5) (λh7=>h.st.apartEx U (bR _ h7) h5) k hk).symm
   ·rw[dL _ _ (dK e),aB e,h.abs j (dK e)]
    have :=h.st.nodes p2 (j:=j) λc z ae=>by
     rcases dG j 32 with J|J
     ·exact h.st.apart J U (dK e) (bV _ z) (bR _ ae)
     ·rw[h.vir (dK e),h.st.gots.zero J,sP] at z;simp at z
    rw[h.vir (dK e)] at this;exact this.symm
  ·rw[aD,aD,uB,af]
   simp[wq];omega
  ·rw[aU,aU]
   rcases yb U W (own:=own i) rfl h2 hp with V|V|V
   ·exact .inl (uC V)
   ·exact .inr (.inl (Gn V))
   ·exact .inr (.inr (yg V.1 V.2))
end
theorem Gp:∀(qs:List (Int×Int)) (X:List Int) {k:Nat} {v:Int},k<X.length->(∀q∈qs,q.1.toNat=k->q.2=v)->((∃q∈qs,q.1.toNat=k)\/X.getD k 0=v)->(aA X qs).getD k 0=v
 | [],X,k,v,_,_,he=>by
  rcases he with ⟨q,U,-⟩|h
  ·simp at U
  ·exact h
 |q::qs,X,k,v,hk,h,he=>by
  show(aA (X.set q.1.toNat q.2) qs).getD k 0=v;refine Gp qs _ (by rw[cT];exact hk) (λp G=>h p (by simp[G])) ?_;by_cases e:q.1.toNat=k
  ·right
   rw[jk _ _ _ _ (by omega),aC e];exact h q (by simp) e
  ·rcases he with ⟨p,G,z⟩|J
   ·rcases aP.1 G with rfl|G
    ·exact absurd z e
    ·exact .inl ⟨p,G,z⟩
   ·right
    by_cases V:q.1.toNat<X.length
    ·rw[jk _ _ _ _ V,aB e];exact J
    ·rw[jb (by omega)];exact J
def qQ (c:List Int) (a:Nat):Int:=((lh (((c.drop a).take 8).map Int.toNat):Nat):Int)
def gX (B c:List Int):Nat->List (Int×Int)
 |0=>[]
 |k+1=>gX B c k++(if B.getD k 0=0 then [] else (List.range 8).map λw:Nat=>(iL (B.getD k 0)+(w:Int),qQ c (64*k+8*w)))
def Cw (c:List Int):Prop:=c.length=832/\∀x∈c,0<=x/\x<256
theorem Cw.get(h:Cw c)(k:Nat):0<=c.getD k 0/\c.getD k 0<256:=by
 by_cases z:k<c.length
 ·rw[aj,aG z]
  exact h.2 _ (bA z)
 ·rw[aj,aT (by omega)]
  decide
theorem UD (h:Cw c)(a:Nat){j:Nat}(J:j<8):qR (qQ c a).toNat j=(c.getD (a+j) 0).toNat:=by
 unfold qQ;rw[aH,Ia]
 ·rw[aj,bF,bO,aC J,bT,aj]
  cases c[a+j]? <;>rfl
 ·intro x G
  obtain⟨y,z,rfl⟩:=bH.1 G;have :=h.2 y (iA (bM z));omega
theorem UE (h:Cw c)(a:Nat):0<=qQ c a/\qQ c a<18446744073709551616:=by
 have z:∀x∈((c.drop a).take 8).map Int.toNat,x<256:=λx J=>by
  obtain⟨y,G,rfl⟩:=bH.1 J;have :=h.2 y (iA (bM G));omega
 have U:=Er z;have V:256^(((c.drop a).take 8).map Int.toNat).length<=256^8:=jc (by decide) (by simp;omega);unfold qQ;omega
theorem sf {B c:List Int}{p:Int×Int}:∀{m:Nat},p∈gX B c m↔∃k:Nat,k<m/\B.getD k 0≠0/\∃w:Nat,w<8/\p=(iL (B.getD k 0)+(w:Int),qQ c (64*k+8*w))
 |0=>by simp[gX]
 |m+1=>by
  unfold gX;rw[aU,sf (m:=m)];constructor
  ·rintro (⟨k,J,z⟩|h)
   ·exact⟨k,by omega,z⟩
   ·split at h
    ·simp at h
    ·next h0=>
     obtain⟨w,G,rfl⟩:=bH.1 h;exact⟨m,by omega,h0,w,by simpa using G,rfl⟩
  ·rintro⟨k,J,z,w,G,rfl⟩
   by_cases e:k=m
   ·subst e
    right
    rw[aB z];exact bH.2 ⟨w,by simpa using G,rfl⟩
   ·exact .inl ⟨k,by omega,z,w,G,rfl⟩
theorem vQ (B c:List Int):∀m,(gX B c m).length<=8*m
 |0=>by simp[gX]
 |m+1=>by
  unfold gX;have :=vQ B c m;rw[aD];split<;>simp<;>omega
theorem qy (z:lA B){k:Nat}(h:k<13):0<=B.getD k 0/\B.getD k 0<256:=(z k h).1
theorem Yg (G:lA B){j k:Nat}(U:j<13)(J:k<13)(h:B.getD k 0≠0)(e:B.getD j 0=B.getD k 0):j=k:=by
 rcases Nat.lt_trichotomy j k with z|z|z
 ·exact absurd e ((G k J).2 h j z)
 ·exact z
 ·exact absurd e.symm ((G j U).2 (by rw[e];exact h) k z)
theorem Gq (G:n.B.length=13){k:Nat}(z:k<13)(h:n.B.getD k 0≠0):(n.B.getD k 0).toNat∈dn n:=by
 unfold dn fx;refine bH.2 ⟨n.B.getD k 0,List.mem_filter.2 ⟨?_,by simpa using h⟩,rfl⟩;rw[aV (by omega),aj,aG (by omega)];exact bA _
section
variable {X:List Int} {n:bP} {c:List Int}
theorem Yh (U:n.B.length=13)(z:lA n.B):∀p∈gX n.B c 13,1080<=p.1.toNat/\(p.1.toNat-1080)/8∈dn n:=by
 intro p G;obtain⟨k,h,J,w,hw,rfl⟩:=sf.1 G;have V:=qy z h;have W:=Gq U h J;have e:(iL (n.B.getD k 0)+(w:Int)).toNat=1080+8*(n.B.getD k 0).toNat+w:=by
  unfold iL;rw[aB (by omega)];omega
 dsimp only
 rw[e];refine⟨by omega,?_⟩;rwa[show(1080+8*(n.B.getD k 0).toNat+w-1080)/8=(n.B.getD k 0).toNat by omega]
theorem UF (hX:X.length=3128)(z:lA n.B){k w:Nat}(G:k<13)(hw:w<8)(V:n.B.getD k 0≠0):(aA X (gX n.B c 13)).getD (1080+8*(n.B.getD k 0).toNat+w) 0=qQ c (64*k+8*w):=by
 have h1:=qy z G;refine Gp _ _ (by omega) (λq hq U=> ?_) (.inl ⟨_,sf.2 ⟨k,G,V,w,hw,rfl⟩,?_⟩)
 ·obtain⟨J,h,W,w',aa,rfl⟩:=sf.1 hq
  have h2:=qy z h;have e:(iL (n.B.getD J 0)+(w':Int)).toNat=1080+8*(n.B.getD J 0).toNat+w':=by
   unfold iL;rw[aB (by omega)];omega
  dsimp only at U
  rw[e] at U;have e1:J=k:=Yg z h G V (by omega);subst e1;have e2:w'=w:=by omega
  rw[e2]
 ·dsimp only
  unfold iL;rw[aB (by omega)];omega
theorem Nl (z:X.length=3128)(G:lA n.B)(U:Cw c){k j:Nat}(h:k<13)(V:j<64)(J:n.B.getD k 0≠0):qR ((aA X (gX n.B c 13)).getD (1080+8*(n.B.getD k 0).toNat+j/8) 0).toNat (j%8)=(c.getD (64*k+j) 0).toNat:=by
 rw[UF z G h (by omega) J,UD U _ (by omega)]
 congr 2
 omega
theorem Jh (h:In64 X)(G:Cw c):In64 (aA X (gX n.B c 13)):=h.put λp z=>by
 obtain⟨k,J,U,w,V,rfl⟩:=sf.1 z;exact UE G _
theorem P8 (G:X.length=3128)(J:lA n.B)(z:Cw c){k:Nat}(U:k<832):oY (aA X (gX n.B c 13)) n k=if n.B.getD (k/64) 0=0 then 0 else c.getD k 0:=by
 unfold oY;split
 ·rfl
 ·next hb=>
  have h:=Nl G J z (k:=k/64) (j:=k%64) (by omega) (by omega) hb;rw[show k%64%8=k%8 by omega,show 64*(k/64)+k%64=k by omega] at h;rw[h];have :=z.get k;omega
theorem UG (z:X.length=3128)(G:lA n.B)(W:Cw c)(U:∀k:Nat,k<832->n.S<=(k:Int)->c.getD k 0=0):jR (aA X (gX n.B c 13)) n:=λ_ k h V j J hS=>by
 rw[Nl z G W h J V,U _ (by omega) (by omega)];rfl
theorem Yi (_:n.B.length=13)(_:lA n.B):nJ X (aA X (gX n.B c 13)) 104:=
 nJ.puts (L:=(gX n.B c 13).map (λp=>p.1.toNat)) (by rw[bS];exact vQ _ _ 13) λp h=>bH.2 ⟨p,h,rfl⟩
def kA (X:List Int) (n:bP):List Int:=(List.range 832).map (oY X n)
theorem Cx (X:List Int)(n:bP){k:Nat}(h:k<832):(kA X n).getD k 0=oY X n k:=by simp[kA,h]
theorem qz (X:List Int)(n:bP):Cw (kA X n):=⟨by simp[kA],λx h=>by
 obtain⟨k,-,rfl⟩:=bH.1 h;exact Jd X n k⟩
theorem Ji (z:jR X n)(h:n.K=1){k:Nat}(G:k<832)(J:n.S<=(k:Int)):oY X n k=0:=by
 unfold oY;split
 ·rfl
 ·next hb=>
  have :=z h (k/64) (by omega) hb (k%64) (by omega) (by omega);rw[show k%64%8=k%8 by omega] at this;rw[this];rfl
end
def fM (B:List Int) (a e:Nat):List Nat:=(List.range e).filter λk=>decide (a<=k)&&(B.getD k 0==0)
theorem P9 (B:List Int)(a e:Nat):fM B a (e+1)=fM B a e++(if a<=e/\B.getD e 0=0 then [e] else []):=by
 unfold fM;rw[dS,ft]
 congr 1
 by_cases h:a<=e/\B.getD e 0=0
 ·have z:(decide (a<=e)&&(B.getD e 0==0))=true:=by rw[h.2];simp[h.1]
  rw[aC h,iT,aC z,List.filter_nil]
 ·have z:¬(decide (a<=e)&&(B.getD e 0==0))=true:=λG=>h (by
   rw[fD,decide_eq_true_eq,beq_iff_eq] at G;exact G)
  rw[aB h,iT,aB z,List.filter_nil]
theorem yh{a e:Nat}:k∈fM B a e↔k<e/\a<=k/\B.getD k 0=0:=by
 unfold fM;rw[List.mem_filter,bX];simp
theorem Dn (B:List Int)(a e:Nat):(fM B a e).Nodup:=List.nodup_range.sublist List.filter_sublist
theorem uE (B:List Int)(a e:Nat):(fM B a e).length<=e:=cD (fQ _ _) (by simp)
theorem yj (h:l.Nodup){i j:Nat}(J:i<l.length)(G:j<l.length)(e:l[i]=l[j]):i=j:=by
 rcases Nat.lt_trichotomy i j with z|z|z
 ·exact absurd e (cU.1 h i j J G z)
 ·exact z
 ·exact absurd e.symm (cU.1 h j i G J z)
def ju (B:List Int) (h l:List Nat):Nat->List Int
 |0=>B
 |j+1=>(ju B h l j).set (h.getD j 0) ((l.getD j 0:Nat):Int)
theorem nv (B:List Int)(h l:List Nat):∀j,(ju B h l j).length=B.length
 |0=>rfl
 |j+1=>by unfold ju;rw[cT,nv B h l j]
theorem yl {B:List Int}{z l:List Nat}{k:Nat}:∀{j:Nat},j<=z.length->k∉z.take j->(ju B z l j).getD k 0=B.getD k 0
 |0,_,_=>rfl
 |j+1,hj,hk=>by
  unfold ju;have G:z.getD j 0=z[j]'(by omega):=by simp[show j<z.length by omega]
  rw[bJ (by omega),aU,ay] at hk;rw[aj,List.getElem?_set_ne (by rw[G];exact λe=>hk (.inr e.symm)),<-aj];exact yl (by omega) λh=>hk (.inl h)
theorem KB {B:List Int}{z l:List Nat}(U:z.Nodup)(V:∀k∈z,k<B.length):∀{j m:Nat},j<=z.length->m<j->(ju B z l j).getD (z.getD m 0) 0=((l.getD m 0:Nat):Int)
 |0,_,_,h=>by omega
 |j+1,m,hj,hm=>by
  unfold ju;have G:z.getD j 0=z[j]'(by omega):=by simp[show j<z.length by omega]
  have J:z.getD m 0=z[m]'(by omega):=by simp[show m<z.length by omega]
  by_cases e:m=j
  ·subst e
   rw[aj,List.getElem?_set_self (by rw[nv,G];exact V _ (bA _))];rfl
  ·rw[aj,List.getElem?_set_ne,<-aj]
   ·exact KB U V (by omega) (by omega)
   ·rw[G,J]
    intro W;exact e (yj U _ _ W).symm
theorem Dp (h:B.length=13)(b:Nat):(fx B 13).count b=B.countP λx=>x != 0&&x.toNat==b:=by
 unfold fx;rw[aV (by omega),List.count_eq_countP,List.countP_map,List.countP_filter]
 congr 1
 funext x
 simp[Bool.and_comm]
theorem UH (z:B.length=13){k:Nat}(J:k<13)(G:B.getD k 0=0){x:Nat}(U:x≠0)(b:Nat):(fx (B.set k (x:Int)) 13).count b=(fx B 13).count b+[x].count b:=by
 rw[Dp (by rw[cT];exact z),Dp z,List.countP_set (by omega)];have e:B[k]'(by omega)=0:=by rw[<-G];simp[show k<B.length by omega]
 rw[e];by_cases h:x=b
 ·subst h
  rw[aB (by simp),aC (by simp;omega)];simp
 ·rw[aB (by simp),aB (by simp;omega)]
  simp[h]
theorem zR {B:List Int}{z l:List Nat}(hB:B.length=13)(V:z.Nodup)(hh:∀k∈z,k<13/\B.getD k 0=0)(hl:l.length=z.length)(W:∀c∈l,c≠0)(b:Nat):∀{j:Nat},j<=z.length->(fx (ju B z l j) 13).count b=(fx B 13).count b+(l.take j).count b
 |0,_=>by simp[ju]
 |j+1,hj=>by
  have ih:=zR hB V hh hl W b (j:=j) (by omega);have G:z.getD j 0=z[j]'(by omega):=by simp[show j<z.length by omega]
  have J:l.getD j 0=l[j]'(by omega):=by simp[show j<l.length by omega]
  have hm:=hh (z[j]'(by omega)) (bA _);unfold ju;rw[UH (by rw[nv];exact hB) (by rw[G];exact hm.1) (by
   rw[yl (by omega),G]
   ·exact hm.2
   ·rw[G]
    intro h;rw[List.mem_take_iff_getElem] at h;obtain⟨m,VC,U⟩:=h;have :=yj V _ _ U;omega) (by rw[J];exact W _ (bA _)),ih,bJ (by omega),gK,J]
  omega
theorem abz (z:B.length=13){c:Nat}(J:c<=13)(h:∀k,c<=k->B.getD k 0=0):B=mj B c:=by
 apply dg (by rw[tJ z J,z]);intro k V W;have U:=tK z J k;rw[aj,aG W,gD] at U;rw[U];have G:B.getD k 0=B[k]:=by simp[V]
 split
 ·exact G.symm
 ·rw[<-G];exact h k (by omega)
theorem UI (G:n.B.length=13)(h:qg n):∀k,dM n.S.toNat<=k->n.B.getD k 0=0:=λk J=>by
 have z:dM n.S.toNat<=13:=by unfold dM;have :=h.1;omega
 rw[h.2.2.1,tK G z,aB (by omega)]
theorem Gr (z:bZ n)(G:n.K=1):qg n:=by
 rcases z.2.2 with ⟨-,h⟩|⟨h,-⟩
 ·exact h
 ·omega
theorem Qa (z:bZ n)(J:n.K=1)(hF:h.F=n.F)(G:h.K=n.K)(W:h.L=n.L)(hE:h.E=n.E)(hB:h.B.length=13)(hS:0<=h.S/\h.S<=832)(V:∀k,dM h.S.toNat<=k->h.B.getD k 0=0)(U:lA h.B):bZ h:=by
 have hf:=Gr z J;refine⟨by rw[hF];exact z.1,by rw[W];exact z.2.1,.inl ⟨by rw[G];exact J,hS,by rw[hE];exact hf.2.1,abz hB (by unfold dM;omega) V,U⟩⟩
section
variable {X:List Int} {T:List (bP×Value)} {own:Nat->List Nat} {M:Nat->Nd}
theorem ni.fileAt(h:ni X T own [] M){i:Nat}(U:(M i).K=1):eG X (i:Int) (nT T i) (own i)/\(nT T i).K=1/\qg (nT T i)/\jR X (nT T i)/\i<32/\(M i).D=qO X (nT T i)/\(nT T i).B.length=13:=by
 have z:=h.store (i:=i) (by omega);have G:(nT T i).K=1:=by rw[h.kind];exact U
 have J:=h.rng (i:=i) (by omega);refine⟨z,G,Gr z.right G,h.st.tails i J,J,?_,z.len⟩;rw[h.abs i];show(if (nT T i).K=1 then _ else _)=_;rw[aC G]
theorem UJ {l m:List Int}(h:l.length=m.length)(G:∀k,k<l.length->l.getD k 0=m.getD k 0):l=m:=by
 apply dg h;intro k z J;have :=G k z;rwa[aj,aG z,aj,aG J] at this
theorem Bf (D:List Int)(n:Nat){k:Nat}(h:k<n):(nI D n).getD k 0=D.getD k 0:=by
 unfold nI;rw[aj];by_cases z:k<D.length
 ·rw[aY (by simp;omega),bO,aC h,aj]
 ·rw[aQ (by simp;omega),bo,aj,aT (by omega:D.length<=k)]
  split<;>rfl
theorem Yj {i:Nat}{n z:bP}{Y:List Int}{D:List Int}(h:M i=sS X n)(V:n.K=1)(G:z.K=n.K)(U:z.L=n.L)(W:z.E=n.E)(J:qO Y z=D):sS Y z={ M i with D:=D }:=by
 rw[h];unfold sS;rw[G,U,W,aC V,J]
def sk (c:List Int) (o:Nat) (D:List Int):List Int:=c.take o++(D++c.drop (o+D.length))
theorem Dq {c D:List Int}{o:Nat}(h:Cw c)(U:o+D.length<=832)(J:∀x∈D,0<=x/\x<256):Cw (sk c o D):=by
 refine⟨by unfold sk;simp[h.1];omega,λx G=> ?_⟩;unfold sk at G;simp only[aU] at G;rcases G with z|z|z
 ·exact h.2 x (bM z)
 ·exact J x z
 ·exact h.2 x (iA z)
theorem UK {c D:List Int}{o:Nat}(h:c.length=832)(G:o+D.length<=832)(k:Nat):(sk c o D).getD k 0=if o<=k/\k<o+D.length then D.getD (k-o) 0 else c.getD k 0:=by
 unfold sk;rw[aj];by_cases z:k<o
 ·rw[aY (by simp;omega),bO,aC z,aB (by omega),aj]
 ·rw[aQ (by simp;omega),aJ,cC (by omega)]
  by_cases J:k<o+D.length
  ·rw[aY (by omega),aC (by omega),aj]
  ·rw[aQ (by omega),aB (by omega),bT,aj]
   congr 2
   omega
theorem Jj {h D:List Int}{o:Nat}(k:Nat):(sO h o D).getD k 0=if o<=k/\k<o+D.length then D.getD (k-o) 0 else h.getD k 0:=by
 unfold sO;have J:((nI h (max h.length (o+D.length))).take o).length=o:=by rw[aJ,oW];omega
 rw[aj];by_cases z:k<o
 ·rw[aY (by omega),bO,aC z,aB (by omega)]
  unfold nI;by_cases G:k<h.length
  ·rw[aY (by simp;omega),bO,aC (by omega),aj]
  ·rw[aQ (by simp;omega),bo,aj,aT (by omega:h.length<=k)]
   split<;>rfl
 ·rw[aQ (by omega),J]
  by_cases G:k<o+D.length
  ·rw[aY (by omega),aC (by omega),aj]
  ·rw[aQ (by omega),aB (by omega),bT,aj]
   congr 2
   omega
def RL (X:List Int) (n:bP) (o m:Nat):bP:=
 { n with B:=ju n.B (fM n.B (o/64) (dM (o+m))) ((aZ X).take (fM n.B (o/64) (dM (o+m))).length) (fM n.B (o/64) (dM (o+m))).length,S:=max n.S ((o+m:Nat):Int) }
theorem ni.write(h:ni X T own [] M){i:Nat}(hK:(M i).K=1){o:Nat}{D:List Int}(Yk:D≠[])(bg:∀x∈D,0<=x/\x<256)(ho:o+D.length<=832)
  (o9:(fM (nT T i).B (o/64) (dM (o+D.length))).length<=(aZ X).length) {r:Int} {qs:List (Int×Int)}
  (hp:nH (aA (aA X (cW X ((aZ X).take (fM (nT T i).B (o/64) (dM (o+D.length))).length))) (gX (RL X (nT T i) o D.length).B (sk (kA X (nT T i)) o D) 13)) (i:Int) (RL X (nT T i) o D.length) r qs):
  (r=7/\(aZ X).length<40)\/(r=0/\Goes X (cW X ((aZ X).take (fM (nT T i).B (o/64) (dM (o+D.length))).length)++(gX (RL X (nT T i) o D.length).B (sk (kA X (nT T i)) o D) 13++qs)) [] (ng M i { M i with D:=sO (M i).D o D }) 400):=by
 obtain⟨aW,hk,hf,ht,hi,hd,hB⟩:=h.fileAt hK;have hS:=hf.1;have bu:0<D.length:=List.length_pos_iff.2 Yk;have bl:dM (o+D.length)<=13:=by unfold dM;omega
 generalize hn:nT T i=n at *;generalize Qb:fM n.B (o/64) (dM (o+D.length))=G at *;have aa:∀k,k∈G↔k<dM (o+D.length)/\o/64<=k/\n.B.getD k 0=0:=λk=>by rw[<-Qb];exact yh
 have GG:G.Nodup:=by rw[<-Qb];exact Dn _ _ _
 have br:G.length<=13:=by rw[<-Qb];exact cD (uE _ _ _) bl
 have ag:=h.opened hi;rw[hn] at ag;obtain⟨t1,t2,t3,t4,t5⟩:=ag.st.take G.length;have bb:=ag.step t1 t2 (by simp);have ah:∀c∈(aZ X).take G.length,c≠0/\c<256:=pF;have KS:((aZ X).take G.length).Nodup:=ru;have bn:∀c∈(aZ X).take G.length,dC X c=false:=λc hc=>(jT.1 (bM hc)).2.2
 have aF:((aZ X).take G.length).length=G.length:=by rw[aJ];omega
 have hw:RL X n o D.length={ n with B:=ju n.B G ((aZ X).take G.length) G.length,S:=max n.S ((o+D.length:Nat):Int) }:=by unfold RL;rw[Qb]
 rw[hw] at hp ⊢;clear hw;have aK:∀k,k∉G->(ju n.B G ((aZ X).take G.length) G.length).getD k 0=n.B.getD k 0:=λk z=>yl (aI _) (by rw[gA];exact z)
 have aS:∀m,m<G.length->(ju n.B G ((aZ X).take G.length) G.length).getD (G.getD m 0) 0=((((aZ X).take G.length).getD m 0:Nat):Int):=λm hm=>KB GG (λk z=>by have :=((aa k).1 z).1;omega) (aI _) hm
 have ac:=nv n.B G ((aZ X).take G.length) G.length;have aM:=λb=>zR (l:=(aZ X).take G.length) hB GG (λk z=>by have :=(aa k).1 z;exact⟨by omega,this.2.2⟩) aF (λc hc=>(ah c hc).1) b (j:=G.length) (aI _)
 have aQ:nJ X (aA X (cW X ((aZ X).take G.length))) 108:=nJ.puts (L:=wq++Dm ((aZ X).take G.length)) (by rw[aD,uB,aF];simp[wq];omega) λp hp=>by
  rw[aU];rcases pL _ _ p hp with h6|h6
  ·exact .inl (uC h6)
  ·exact .inr (yg h6.1 h6.2)
 generalize hl:(aZ X).take G.length=l at *;generalize au:aA X (cW X l)=X1 at *;generalize bo:ju n.B G l G.length=J at *;rw[aV (by omega)] at aM
 -- what each place has
 have U:∀k,k<13->(J.getD k 0=n.B.getD k 0/\k∉G)\/(n.B.getD k 0=0/\∃m,m<G.length/\G.getD m 0=k/\J.getD k 0=((l.getD m 0:Nat):Int)/\l.getD m 0∈l):=λk z=>by
  by_cases hm:k∈G
  ·right
   obtain⟨m,VC,aO⟩:=cj hm;have W:G.getD m 0=k:=by rw[<-aO];simp[VC]
   refine⟨((aa k).1 hm).2.2,m,VC,W,by rw[<-W];exact aS m VC,?_⟩;rw[aj,aG (by omega)];exact bA _
  ·exact .inl ⟨aK k hm,hm⟩
 have Df:∀k,k<13->n.B.getD k 0≠0->(n.B.getD k 0).toNat∉l:=λk z hb hc=>by
  have V:=bn _ hc;have h2:=ag.st.usedEx (Gq hB z hb);rw[V] at h2;cases h2
 have ae:lA J:=λk z=>by
  have hr:=qy hf.2.2.2 z;rcases U k z with ⟨W,-⟩|⟨e0,m,hm,e2,W,IL⟩
  ·refine⟨by rw[W];exact hr,λai j hj=> ?_⟩
   rw[W] at ai ⊢;rcases U j (by omega) with ⟨f1,-⟩|⟨-,m',-,-,f1,ay⟩
   ·rw[f1];exact(hf.2.2.2 k z).2 ai j hj
   ·rw[f1]
    intro e3;exact Df k z ai (by rw[<-e3,aH];exact ay)
  ·have :=ah _ IL
   refine⟨by rw[W];omega,λai j hj=> ?_⟩;rw[W];rcases U j (by omega) with ⟨f1,-⟩|⟨-,m',bp,f2,f1,ay⟩
   ·rw[f1]
    intro e3;exact Df j (by omega) (by omega) (by rw[e3,aH];exact IL)
   ·rw[f1]
    intro e3;have e4:l.getD m' 0=l.getD m 0:=by omega
    rw[aj,aG (by omega),aj,aG (by omega)] at e4;have :=yj KS _ _ e4;subst this;omega
 have aL:X1.length=3128:=t1.len;have av:(max n.S ((o+D.length:Nat):Int)).toNat=max n.S.toNat (o+D.length):=by omega
 have hR:bZ { n with B:=J,S:=max n.S ((o+D.length:Nat):Int) }:=by
  refine Qa aW.right hk rfl rfl rfl rfl (by rw[<-hB,<-ac]) ⟨by dsimp only;omega,by dsimp only;omega⟩ (λk z=> ?_) ae
  dsimp only at z ⊢
  rw[av] at z;have V:=UI hB hf k (by unfold dM at *;omega);rw[aK k λhm=>by have :=((aa k).1 hm).1;unfold dM at *;omega];exact V
 have bw:∀k,k<832->oY X n k=(kA X n).getD k 0:=λk z=>(Cx X n z).symm
 have az:=qz X n;have ak:=Dq az ho bg;have ar:=UK (D:=D) az.1 ho;have aX:∀k:Nat,k<832->max n.S ((o+D.length:Nat):Int)<=(k:Int)->(sk (kA X n) o D).getD k 0=0:=λk z bq=>by
  rw[ar,aB (by omega),Cx X n z];exact Ji ht hk z (by omega)
 generalize sk (kA X n) o D=c at *;have yO:=Yh (n:={ n with B:=J,S:=max n.S ((o+D.length:Nat):Int) }) (c:=c) (by rw[<-hB,<-ac]) ae;have yz:∀b,b<256->(dn { n with B:=J,S:=max n.S ((o+D.length:Nat):Int) }).count b=(dn n++l).count b:=λb _=>by
  rw[gK];exact aM b
 have aP:∀x,x∈dn { n with B:=J,S:=max n.S ((o+D.length:Nat):Int) }->x∈dn n++l:=λx hx=>by
  have V:=pJ (n:={ n with B:=J,S:=max n.S ((o+D.length:Nat):Int) }) (by rw[<-hB,<-ac]) hR x hx;have h2:=yz x V.2;have h3:0<(dn { n with B:=J,S:=max n.S ((o+D.length:Nat):Int) }).count x:=List.count_pos_iff.2 hx;exact List.count_pos_iff.1 (by omega)
 have aY:In64 (aA X1 (gX J c 13)):=Jh (n:={ n with B:=J,S:=max n.S ((o+D.length:Nat):Int) }) t1.w64 ak;obtain⟨aN,bk,QN⟩:=bb.words hi (qs:=gX J c 13) (λp hp=>⟨(yO p hp).1,aP _ (yO p hp).2⟩) aY;have bc:eG (aA X1 (gX J c 13)) (i:Int) (nT T i) (own i):=by
  rcases aN.st.each hi with ⟨-,V⟩|⟨-,V,-⟩
  ·exact V
  ·rw[hn] at V;rw[V] at hk;simp[cr] at hk
 have LS:=λk (z:k<832)=>P8 (X:=X1) (n:={ n with B:=J,S:=max n.S ((o+D.length:Nat):Int) }) aL ae ak z
 have bf:=UG (X:=X1) (n:={ n with B:=J,S:=max n.S ((o+D.length:Nat):Int) }) aL ae ak aX;have ba:=Yi (X:=X1) (n:={ n with B:=J,S:=max n.S ((o+D.length:Nat):Int) }) (c:=c) (by rw[<-hB,<-ac]) ae;have bj:sS (aA X1 (gX J c 13)) { n with B:=J,S:=max n.S ((o+D.length:Nat):Int) }={ M i with D:=sO (M i).D o D }:=by
  refine Yj (n:=n) (X:=X) (by rw[h.abs i,hn]) hk rfl rfl rfl ?_;rw[hd];have ax:=uA X n;apply UJ
  ·rw[uA,ya,ax];exact av
  ·intro k z
   rw[uA] at z;have bt:k<max n.S.toNat (o+D.length):=by rw[<-av];exact z
   have uS:k<832:=by omega
   rw[Je _ _ z,LS k uS,Jj]
   dsimp only
   by_cases af:o<=k/\k<o+D.length
   ·rw[aC af,ar,aC af]
    rw[aB];intro h0;rcases U (k/64) (by omega) with ⟨W,e2⟩|⟨-,m,-,-,W,e2⟩
    ·refine e2 ((aa _).2 ⟨?_,?_,by rw[<-W];exact h0⟩)
     ·unfold dM;omega
     ·omega
    ·have :=(ah _ e2).1;omega
   ·rw[aB af,ar,aB af,Cx X n uS]
    have aR:(qO X n).getD k 0=oY X n k:=by
     by_cases bh:k<n.S.toNat
     ·exact Je X n bh
     ·rw[Ji ht hk uS (by omega),aj,aT (by rw[ax];omega)]
      rfl
    rw[aR];split
    ·next h0=>
     rcases U (k/64) (by omega) with ⟨W,-⟩|⟨-,m,-,-,W,e2⟩
     ·unfold oY
      rw[aC (by rw[<-W];exact h0)]
     ·have :=(ah _ e2).1;omega
    ·rfl
 have bv:(aZ X1).length+G.length=(aZ X).length:=by rw[t4,bE];omega
 rcases aN.close hi (by rw[<-hB,<-ac]) hR bc hp yz bf with ⟨V,-,h3⟩|⟨V,T',cM,g1,g2,g3⟩
 ·refine .inl ⟨V,?_⟩
  have :=uD hR;rw[bk] at h3;omega
 ·refine .inr ⟨V,T',cM,?_,λk z=> ?_,?_⟩
  ·rw[bD,bD,au,<-bj];exact g1
  ·rw[bD,bD,au,g2 k z,QN k (by omega),t5 k z]
  ·rw[bD,bD,au]
   exact((aQ.trans ba).trans g3).mono (by omega)
end
theorem Qc{v:Value}{g:Nat}{xs:List Value}(h:Reads w v g xs):v.oneCell'=true:=by
 obtain⟨a,cap,rfl,-⟩:=h;rfl
theorem UL{P:List ByteArray}(h:P.length=k+1):cL P=kW P k:=by
 unfold cL kW;rw[List.getLastD_eq_getLast?,List.getLast?_eq_getElem?,h,ic,aj]
theorem Qd (M:Nat->Nd)(P:List ByteArray):(P=[]/\dJ M P=(0,1))\/(P≠[]/\kV P=false/\dJ M P=(0,1))\/
  (P≠[]/\kV P=true/\(((iO M 0 P.dropLast).2≠0/\dJ M P=iO M 0 P.dropLast)\/((iO M 0 P.dropLast).2=0/\(M (iO M 0 P.dropLast).1).K≠2/\dJ M P=(0,4))\/((iO M 0 P.dropLast).2=0/\(M (iO M 0 P.dropLast).1).K=2/\dJ M P=iO M 0 P.dropLast))):=by
 unfold dJ;by_cases z:P=[]
 ·exact .inl ⟨z,by rw[aC (.inl z)]⟩
 ·cases h2:kV P with
  |false=>exact .inr (.inl ⟨z,rfl,by rw[aC (.inr rfl)]⟩)
  |true=>
   refine .inr (.inr ⟨z,rfl,?_⟩);rw[aB (by simp[z])];by_cases G:(iO M 0 P.dropLast).2=0
   ·by_cases J:(M (iO M 0 P.dropLast).1).K=2
    ·exact .inr (.inr ⟨G,J,by rw[aB (λh=>h.2 J)]⟩)
    ·exact .inr (.inl ⟨G,J,by rw[aC ⟨G,J⟩]⟩)
   ·exact .inl ⟨G,by rw[aB (λh=>G h.1)]⟩
theorem Qe{b gp:Nat}{ps:List (Int×Int)}(h:gN w b gp B ps T own){M:Nat->Nd}(hA:Ks M T){v:Value}{g:Nat}{P:List ByteArray}(hP:jg w v g P)(hs:∀s∈P,s.size<=9223372036854775807):
  Calls prog 155 #[.pointer (some ⟨b,0,none⟩),v] w (qY w (dJ M P) (cL P)):=by
 have HG:=au (Gf hP hs);obtain⟨a,cap,rfl,af,aC,yu⟩:=hP.open;have U:=au (Qd M P);have A0:Hid (∀e w',qY w (dJ M P) (cL P) e w'->qY w (dJ M P) (cL P) e w'):=λ_ _ h=>h
 rcases eT P.length with h0|h0
 ·have W:P=[]:=List.length_eq_zero_iff.1 h0
  have G:dJ M P=(0,1):=by
   rcases U.out with z|z|z
   ·exact z.2
   ·exact absurd W z.1
   ·exact absurd W z.1
  have HF:Hid (qY w (dJ M P) (cL P) (.returned (.tuple #[.int .i64 0,.string ⟨#[]⟩,.int .i64 1])) w):=⟨az.refl _ _,.inr ⟨by rw[G];decide,by rw[G]⟩⟩;clear U A0 h hA hP hs G HG;generalize qY w (dJ M P) (cL P)=Q at *;rw[h0] at af ⊢;clear W h0 yu;go_enter func155,ntmps155;go_wp2_with fail
  go_ret3
  exact HF.out
 ·obtain⟨k,hk⟩:∃k,P.length=k+1:=⟨P.length-1,by omega⟩
  have aB:P≠[]:=λe=>by rw[e] at h0;simp at h0
  have hl:=UL hk;have aj:=hP.init;rw[hk,ic] at aj;have HW:=au (M7 h hA aj);have HD:Hid (∀x:Nat,(M x).K≠0->∀wx,az [] w wx->Calls prog 182 #[.pointer (some ⟨b,0,none⟩),.int .i64 (x:Int)] wx (vM wx (nT T x))):=λx hx wx hk=>
   Bb (h.keep0 hk) (hA.tree.rng hx) (hA.form x hx)
  have Od:Hid ((iO M 0 P.dropLast).2=0->(M (iO M 0 P.dropLast).1).K≠0):=λhe=>(Co hA.tree P.dropLast 0 (by rw[hA.tree.root];omega) he).1
  have ae:Hid (∀x,(nT T x).K=(M x).K):=λx=>(hA.kind x).symm
  have Oc:Hid ((iO M 0 P.dropLast).2≠0->(iO M 0 P.dropLast).1=0):=M6 _ _;obtain⟨aD,off,rfl,c0⟩:=yu.out k (by omega);have DU:Hid (∀wx,az [] w wx->wx.cell? ⟨g,off+k,none⟩=some (.string (cL P))):=λwx C9=>by
   rw[hl];exact(aO (w:=w) (a:=⟨g,off+k,none⟩) (C9.block g aD (by simp))).trans c0
  have av:Hid (∀w',az [] w w'->dJ M P=(0,1)->qY w (dJ M P) (cL P) (.returned (.tuple #[.int .i64 0,.string ⟨#[]⟩,.int .i64 1])) w'):=λw' wM G=>⟨wM,.inr ⟨by rw[G];decide,by rw[G]⟩⟩
  have V:Hid (∀w' r,az [] w w'->(dJ M P).2=r->r≠0->qY w (dJ M P) (cL P) (.returned (.tuple #[.int .i64 0,.string ⟨#[]⟩,.int .i64 r])) w'):=λw' r wM G hn=>⟨wM,.inr ⟨by rw[G];exact hn,by rw[G]⟩⟩
  have UM:Hid (∀w' (x:Nat) nm,az [] w w'->dJ M P=(x,0)->nm=cL P->qY w (dJ M P) (cL P) (.returned (.tuple #[.int .i64 (x:Int),.string nm,.int .i64 0])) w'):=λw' x nm wM G hn=>⟨wM,.inl ⟨by rw[G],by rw[G,hn]⟩⟩
  have VF:=au aB;rw[hk] at af HG ⊢;unfold maxLen at aC;have aJ:(((k+1:Nat):Int)==0)=false:=by simp;omega
  have ub:=eA;clear h hA hP hs aj hl c0 h0 aB yu;generalize qY w (dJ M P) (cL P)=Q at *;generalize dJ M P=R at *;generalize iO M 0 P.dropLast=S at *;generalize cL P=ln at *;generalize ar:aR cr (.slice none 0 0)=Z0 at *;have oz:=au ar;have DN:Hid (Z0.size=18):=by show _=_;rw[<-ar];rfl
  clear ar;cases hgd:kV P with
  |false=>
   rw[hgd] at HG;have G:R=(0,1):=by
    rcases U.out with z|z|z
    ·exact z.2
    ·exact z.2.2
    ·rw[hgd] at z;cases z.2.1
   have HF:=au (av.out w (az.refl _ _) G);clear hgd G U av V UM HW HD Od ae Oc DU A0 VF;go_enter func155,ntmps155;go_wp2_with fail;refine HG.out.mono ?_;rintro e w' ⟨rfl,rfl⟩;go_wp2_with fail
   go_ret3
   exact HF.out
  |true=>
   rw[hgd] at HG;have HC:Hid ((S.2≠0/\R=S)\/(S.2=0/\(M S.1).K≠2/\R=(0,4))\/(S.2=0/\(M S.1).K=2/\R=S)):=by
    rcases U.out with z|z|z
    ·exact absurd z.1 VF.out
    ·rw[hgd] at z;cases z.2.1
    ·exact z.2.2
   obtain⟨x,ee⟩:=S;have aL:IntKind.i64.wrap (k:Int)=(k:Int):=by rw[cy];omega
   have aG:(0:Int)<=(k:Int):=by omega
   have aH:(k:Int)<=(cap:Int):=by omega
   have aM:(k:Int)<((k+1:Nat):Int):=by omega
   have aI:(k:Int)<(k:Int)+1:=by omega
   clear hgd U av A0 VF;go_enter func155,ntmps155;go_wp2_with fail;refine HG.out.mono ?_;rintro e w' ⟨rfl,rfl⟩;go_wp2_with fail;refine HW.out.mono ?_;rintro e w1 ⟨rfl,aA⟩;have iU:=au aA;clear aA HW HG;by_cases he:ee=0
   ·subst he
    have ak:=au (HD.out x (Od.out rfl) w1 iU.out);have aa:=ae.out x;clear HD Od ae Oc;generalize nT T x=n at *;go_wp2_with fail;refine ak.out.mono ?_;rintro e w2 ⟨ac,⟨hK,v,g1,rfl,hB,hE,aF⟩|⟨hK,rfl⟩⟩
    ·obtain⟨w3,p1,p2,p3⟩:=dc (n:=n) (v:=v) (bh.new w2 Z0 111) DN.out hB hE.one
     have xX:=au p1;have UN:az [] w w3:=(iU.out.trans' ac).trans (((az.refl [] w2).alloc _).trans p3 (by intro x hx;rw[ay] at hx;omega)) (by simp);have ax:Hid (∀J,az [] w3 J->J.cell? ⟨g,off+k,none⟩=some (.string ln)):=λJ hz=>DU.out J (UN.trans' hz)
     have G:R=(x,0):=by
      rcases HC.out with z|z|z
      ·exact absurd rfl z.1
      ·exact absurd (aa.symm.trans hK) z.2.1
      ·exact z.2.2
     have HF:Hid (∀J,az [] w3 J->Q (.returned (.tuple #[.int .i64 (x:Int),.string ln,.int .i64 0])) J):=λJ hz=>UM.out J x ln (UN.trans' hz) G rfl
     clear p1 p2 p3 UN ac hE hB aF G HC UM V DU aa hK ak;generalize aR n v=ZN at *;go_wp2_with(first|(with_reducible refine gS 111 xX.out ?_));refine dX (S:=λJ=>az [] w3 J) (by kernel_rfl) (by kernel_rfl) (λd _ _ _ _ h=>by cases d<;>exact h) ((az.refl _ _).drew) (by kernel_rfl) ?_;repeat (first
      |(refine aK.cons ?_ (bc.val rfl ?h) ?_;(case h=>(intro J hz;have q0:=ax.out J hz;clear hz;go_simp;rfl));simp only[Act.put,ag,ah,ai]))
     refine aK.done λJ hz=> ?_
     have O9:=au (HF.out J hz);clear hz ax HF;go_wp2_with fail
     go_ret3
     exact O9.out
    ·obtain⟨w3,p1,p2,p3⟩:=dc (n:=cr) (v:= .slice none 0 0) (bh.new w2 Z0 111) DN.out rfl rfl
     have xX:=au p1;have UN:az [] w w3:=(iU.out.trans' ac).trans (((az.refl [] w2).alloc _).trans p3 (by intro x hx;rw[ay] at hx;omega)) (by simp);have G:R=(0,4):=by
      rcases HC.out with z|z|z
      ·exact absurd rfl z.1
      ·exact z.2.2
      ·exact absurd (aa.trans z.2.1) hK
     have HF:=au (V.out w3 4 UN (by rw[G]) (by omega));clear p1 p2 p3 UN ac G HC UM V DU aa hK ak;go_wp2_with(first|(with_reducible refine gS 111 xX.out ?_))
     go_ret3
     exact HF.out
   ·have G:R.2=ee:=by
     rcases HC.out with z|z|z
     ·rw[z.2]
     ·exact absurd z.1 he
     ·exact absurd z.1 he
    have HF:=au (V.out w1 ee iU.out G he);have aN:(ee==0)=false:=by simpa using he
    clear G HC UM V DU HD Od ae Oc he;go_wp2_with fail
    go_ret3
    exact HF.out
end Go.Proofs.YtepbpdipenedhaaGreatDoor
