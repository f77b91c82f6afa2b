/- Lemmas. -/
import Derived.Test.YtcecbdeamjigiaaGreatDoorH22
set_option maxHeartbeats 4000000
set_option maxRecDepth 100000
namespace Go.Proofs.YtcecbdeamjigiaaGreatDoor
open Go.RowKit
variable{B X Y c:List Int}{n n':bM}{k m:Nat}{l y:List Nat}{T:List (bM×Value)}{own:Nat->List Nat}{M:Nat->Nd}{w:World}
def mL (X Y:List Int) (n:Nat):Prop:=∃L:List Nat,L.length<=n/\∀k,k<3128->Y.getD k 0≠X.getD k 0->k∈L
theorem mL.refl(X:List Int)(n:Nat):mL X X n:=⟨[],by simp,λ_ _ h=>absurd rfl h⟩
theorem mL.trans{Z:List Int}{n:Nat}(h:mL X Y n)(k:mL Y Z m):mL X Z (n+m):=by
 obtain⟨L,U,G⟩:=h;obtain⟨K,V,J⟩:=k;refine⟨L++K,by rw[aF];omega,λi z y=> ?_⟩;rw[aP];by_cases e:Y.getD i 0=X.getD i 0
 ·exact .inr (J i z (by rw[e];exact y))
 ·exact .inl (G i z e)
theorem mL.mono{n:Nat}(h:mL X Y n)(z:n<=m):mL X Y m:=by
 obtain⟨L,G,y⟩:=h;exact⟨L,by omega,y⟩
theorem mL.puts{qs:List (Int×Int)}{L:List Nat}{n:Nat}(J:L.length<=n)(h:∀p∈qs,p.1.toNat∈L):mL X (az X qs) n:=by
 refine⟨L,J,λk _ y=> ?_⟩;by_cases G:∃p∈qs,p.1.toNat=k
 ·obtain⟨p,z,e⟩:=G
  rw[<-e];exact h p z
 ·exact absurd (eo _ _ _ λp z e=>G ⟨p,z,e⟩) y
def rY:List Nat:=[816,817,818,819]
def CN (l:List Nat):List Nat:=l.flatMap (λb=>(List.range 8).map (1080+8*b+·))
theorem uq:∀l:List Nat,(CN l).length=8*l.length
 | []=>rfl
 |b::l=>by
  have :=uq l;unfold CN at this ⊢;rw[List.flatMap_cons,aF,this];simp;omega
theorem qH (h:816<=k/\k<820):k∈rY:=by
 unfold rY;simp;omega
theorem yR (y:1080<=k)(h:(k-1080)/8∈l):k∈CN l:=by
 unfold CN;rw[List.mem_flatMap];refine⟨_,h,?_⟩;rw[bB];exact⟨(k-1080)%8,by simp;omega,by omega⟩
theorem CO{i:Nat}(h:824+8*i<=k/\k<824+8*i+8):k∈(List.range 8).map (824+8*i+·):=by
 rw[bB];exact⟨k-(824+8*i),by simp;omega,by omega⟩
structure lK (X:List Int) (T:List (bM×Value)) (own:Nat->List Nat) (ex:List Nat) (M:Nat->Nd):Prop where
 st:StX X T own ex
 abs:∀i,M i=sB X (nT T i)
theorem lQ.nd(h:lQ X T own y M):lK X T own y M:=⟨h.st,h.abs⟩
theorem lK.snd(h:lK X T own y M)(t:eb M):lQ X T own y M:=⟨h.st,h.abs,t⟩
section
variable {X:List Int} {T:List (bM×Value)} {own:Nat->List Nat} {ex:List Nat} {M:Nat->Nd}
theorem lK.free(h:lK X T own ex M){i:Nat}(J:i<32):dI X (i:Int)↔(M i).K=0:=by
 rw[h.abs];show _↔(nT T i).K=0;rcases h.st.each J with ⟨z,y⟩|⟨z,y,-⟩
 ·refine⟨λG=>absurd G y.notFree,λG=> ?_⟩
  rcases y.right.2.2 with U|U<;>omega
 ·exact⟨λ_=>by rw[y];rfl,λ_=>z⟩
theorem lK.out(h:lK X T own ex M){i:Nat}(y:32<=i):M i=sA:=by rw[h.abs,h.st.gots.zero y];rfl
theorem lK.rng(h:lK X T own ex M){i:Nat}(z:(M i).K≠0):i<32:=by
 rcases dr i 32 with y|y
 ·exact y
 ·exact absurd (by rw[h.out y];rfl) z
theorem lK.store(h:lK X T own ex M){i:Nat}(y:(M i).K≠0):dT X (i:Int) (nT T i) (own i):=by
 rcases h.st.each (h.rng y) with ⟨-,z⟩|⟨z,-,-⟩
 ·exact z
 ·exact absurd ((h.free (h.rng y)).1 z) y
theorem lK.none(h:lK X T own ex M){i:Nat}(z:i<32)(G:(M i).K=0):nT T i=cB/\own i=[]:=by
 rcases h.st.each z with ⟨-,y⟩|⟨-,y⟩
 ·exact absurd ((h.free z).2 G) y.notFree
 ·exact y
theorem lK.kind(h:lK X T own ex M)(i:Nat):(nT T i).K=(M i).K:=by rw[h.abs];rfl
theorem lK.links(h:lK X T own ex M)(i:Nat):(nT T i).L=(M i).L:=by rw[h.abs];rfl
theorem lK.ents(h:lK X T own ex M)(i:Nat):(nT T i).E=(M i).E:=by rw[h.abs];rfl
theorem lK.putAt(h:lK X T own ex M){i:Nat}(z:i<32){n:bM}(Z:n.B.length=13)(V:bP n)(h2:cN n<=(bb (az X (bQ X (own i)))).length){ex':List Nat}
  (hc:∀b,b<256->(cP n).count b+ex'.count b=(cP (nT T i)).count b+ex.count b) (hx:∀c∈ex',c≠0/\c<256) (ht:iC X n):
  ∃cD,lK (az X (jI X i n (own i))) (kY T i n) cD ex' (mN M i (sB X n))/\nj X (az X (jI X i n (own i))) (own i)/\(bb (az X (jI X i n (own i)))).length+cN n=(bb X).length+(own i).length/\(∀k,k<816->(az X (jI X i n (own i))).getD k 0=X.getD k 0)/\
   mL X (az X (jI X i n (own i))) (12+8*cN n)/\(cD i).length=cN n/\∀j,j≠i->cD j=own j:=by
 obtain⟨p1,p2,p3,p4⟩:=h.st.put z Z V h2 hc hx ht;have nM:((bb (az X (bQ X (own i)))).take (cN n)).length=cN n:=by rw[aI];omega
 refine⟨_,⟨p1,λj=> ?_⟩,p2,p3,p4,?_,by rw[Gq,aB rfl];exact nM,λj hj=>by rw[Gq,aA hj]⟩
 ·have hn:sB (az X (jI X i n (own i))) n=sB X n:=by
   have xS:∀c∈cP n,c≠0/\c<256/\cT X c=true/\c∉own i:=λc y=>by
    have U:=oo Z V c y;have h5:=hc c U.2;have G:0<(cP n).count c:=List.count_pos_iff.2 y;rcases eC (ex.count c) with h7|h7
    ·have J:c∈cP (nT T i):=List.count_pos_iff.1 (by omega)
     exact⟨U.1,U.2,h.st.used z (bG _ J),λW=>h.st.inner z W J⟩
    ·have J:c∈ex:=List.count_pos_iff.1 h7
     exact⟨U.1,U.2,h.st.usedEx J,λW=>h.st.apartEx z (bF _ W) J⟩
   exact CJ Z (λhK=>(rH V hK).2) λc y k hk=>by
    have :=xS c y;exact p2 c this.2.1 this.1 this.2.2.1 this.2.2.2 k hk
  have :=h.st.nodesUp h.abs p2 z (λj _=>h.st.filesOwn z j) n j;rw[hn] at this;exact this
 ·refine mL.puts (L:=rY++((List.range 8).map (824+8*i+·)++CN ((bb (az X (bQ X (own i)))).take (cN n)))) ?_ λp hp=> ?_
  ·rw[aF,aF,uq,nM]
   simp[rY];omega
  ·rw[aP,aP]
   rcases yL z V (own:=own i) rfl h2 hp with G|G|G
   ·exact .inl (qH G)
   ·exact .inr (.inl (CO G))
   ·exact .inr (.inr (yR G.1 G.2))
theorem lK.freeGive(h:lK X T own ex M){i:Nat}(J:i<32):(bb (az X (bQ X (own i)))).length=(bb X).length+(own i).length:=by
 rcases h.st.each J with ⟨-,y⟩|⟨-,-,e⟩
 ·exact qz y.mem y.nodup (λc z=>h.st.used J (bF _ z)) λc z G=>(iu (own i) X h.st.w64 h.st.len).2.1 c z G
 ·rw[e];rfl
theorem lK.put(h:lK X T own ex M){i:Nat}(hi:(M i).K≠0){n:bM}(hB:n.B.length=13)(hR:bP n){r:Int}{qs:List (Int×Int)}(hp:pI X (i:Int) n r qs){ex':List Nat}
  (hc:∀b,b<256->(cP n).count b+ex'.count b=(cP (nT T i)).count b+ex.count b) (hx:∀c∈ex',c≠0/\c<256) (ht:iC X n):
  (r=7/\qs=[]/\(bb X).length+cN (nT T i)<cN n)\/(r=0/\∃U,lK (az X qs) (kY T i n) U ex' (mN M i (sB X n))/\nj X (az X qs) (own i)/\(bb (az X qs)).length+cN n=(bb X).length+cN (nT T i)/\(∀k,k<816->(az X qs).getD k 0=X.getD k 0)/\
   mL X (az X qs) (12+8*cN n)):=by
 have V:=h.rng hi;have y:=h.store hi;have J:=h.freeGive V;rw[y.ownLen] at J;rcases hp.over y with ⟨-,z,-⟩|⟨z,-,Z,G⟩|⟨z,-,Z,G⟩
 ·exact absurd hR z
 ·exact .inl ⟨z,G,by omega⟩
 ·right
  rw[aH] at G;subst G;obtain⟨U,p1,p2,W,p4,p5,-,-⟩:=h.putAt V hB hR Z hc hx ht;rw[y.ownLen] at W;exact⟨z,U,p1,p2,W,p4,p5⟩
theorem lK.new(h:lK X T own ex M){n:bM}(hB:n.B.length=13)(hR:bP n)(hn:cN n=0)(hf:cP n=[])(ht:iC X n){i r:Int}{qs:List (Int×Int)}(hp:WC X n i r qs):
  (r=7/\qs=[]/\qC M=Option.none)\/(r=0/\∃j:Nat,i=(j:Int)/\qC M=some j/\j<32/\(M j).K=0/\∃cD,lK (az X qs) (kY T j n) cD ex (mN M j (sB X n))/\(bb (az X qs)).length=(bb X).length/\(∀k,k<816->(az X qs).getD k 0=X.getD k 0)/\mL X (az X qs) 12):=by
 rcases hp with ⟨h1,-,y,h3⟩|⟨j,G,W,J,h1⟩
 ·refine .inl ⟨h1,h3,?_⟩
  unfold qC;rw[List.find?_eq_none];intro k z;rw[bS] at z;have :=(h.free z).2;simp;exact λe=>y k z (this e)
 ·have zi:=(h.free G).1 W
  have XS:qC M=some j:=by
   unfold qC;rw[List.find?_range_eq_some];refine⟨by simpa using zi,by simpa using G,λk z=> ?_⟩;have :=(h.free (i:=k) (by omega)).2;simp;exact λe=>J k z (this e)
  obtain⟨e1,e2⟩:=h.none G zi;rcases h1 with ⟨-,-,y,-⟩|⟨-,-,-,y,-⟩|⟨y,h3,-,h4,h5⟩
  ·exact absurd hR y
  ·omega
  ·right
   subst h5;have Z:cN n<=(bb (az X (bQ X (own j)))).length:=by omega
   obtain⟨cD,p1,-,U,p4,V,-,-⟩:=h.putAt G hB hR Z (ex':=ex) (λb _=>by rw[hf,e1];rfl) h.st.exr ht;rw[e2] at p1 U p4 V;rw[hn] at U V;exact⟨y,j,h3,XS,G,zi,cD,p1,by simpa using U,p4,V⟩
theorem lK.drop(h:lK X T own ex M){i:Nat}(W:(M i).K≠0){r:Int}{qs:List (Int×Int)}(G:acB X (i:Int) r qs):
  r=0/\∃cD,lK (az X qs) (kY T i cB) cD ex (mN M i sA)/\(bb X).length<=(bb (az X qs)).length/\(∀k,k<816->(az X qs).getD k 0=X.getD k 0)/\mL X (az X qs) 12:=by
 have U:=h.rng W;have y:=h.store W;rcases G with ⟨-,z,-⟩|⟨-,-,z,-⟩|⟨-,-,-,z,-⟩|⟨z,n,o,hs,V⟩
 ·exact absurd ⟨by omega,by omega⟩ z
 ·exact absurd z y.notFree
 ·exact absurd y (z _ _)
 ·obtain⟨Z,e2⟩:=y.uniq hs
  subst Z e2;rw[aH] at V;subst V;obtain⟨p1,p2,p3,p4⟩:=h.st.drop U;refine⟨z,_,⟨p1,λj=> ?_⟩,by omega,p4,?_⟩
  ·exact h.st.nodesUp h.abs p2 U (λj _ c _=>by simp) cB j
  ·refine mL.puts (L:=rY++(List.range 8).map (824+8*i+·)) (by simp[rY]) λp G=> ?_
   rw[aP];rcases aP.1 G with J|J
   ·exact .inl (qH (o5 _ _ _ J))
   ·obtain⟨j,hj,h4,-⟩:=jD J
    exact .inr (CO (by omega))
end
theorem Nk:∀E:List (ByteArray×Int),(dA E 0).length+(dA E 1).length+(dA E 2).length+(dA E 3).length=E.length
 | []=>rfl
 |p::E=>by
  have G:=Nk E;have z:=KQ p;have y:∀b,(dA (p::E) b).length=(dA E b).length+(if FQ p=b then 1 else 0):=λb=>by
   unfold dA;rw[ft];by_cases h:FQ p=b
   ·simp[h]
   ·simp[h]
  rw[y,y,y,y,bH];rcases (show FQ p=0\/FQ p=1\/FQ p=2\/FQ p=3 by omega) with h|h|h|h<;>rw[h]<;>simp<;>omega
theorem ky (n:bM):dU n=(if 6<(eB n.B).length then 1 else 0)+((dA n.E 0).length+2)/3+((dA n.E 1).length+2)/3+((dA n.E 2).length+2)/3+((dA n.E 3).length+2)/3:=rfl
theorem LW (y:bP n):n.E.length<=24:=by
 rcases y.2.2 with ⟨-,h⟩|⟨-,h⟩
 ·have :=h.2.1;omega
 ·exact h.1
theorem qI (h:bP n):cN n<=11:=by
 have G:=I5 h;have z:=LW h;have J:=Nk n.E;have y:=ky n;unfold cN;split
 ·rw[y];split<;>omega
 ·omega
theorem PS (hF:n'.F=n.F)(J:n'.B=n.B)(y:∀b,(dA n'.E b).length<=(dA n.E b).length)(Z:n'.E.length<=n.E.length):cN n'<=cN n:=by
 have U:=y 0;have W:=y 1;have V:=y 2;have h3:=y 3;unfold cN;rw[hF];split
 ·rw[ky,ky,J];omega
 ·unfold dX aZ
  rw[J];by_cases z:n.B.drop 5≠List.replicate 8 0
  ·rw[aB (.inr z),aB (.inr z)];omega
  ·by_cases G:5<(n'.E.length+3)/4
   ·rw[aB (.inl G),aB (.inl (by omega))];omega
   ·rw[aA (λh=>h.elim G z)]
    split<;>omega
theorem Gx (A B:List (ByteArray×Int))(b:Nat):dA (A++B) b=dA A b++dA B b:=dV ..
theorem PT{A M B:List (ByteArray×Int)}(h:n.E=A++(M++B)):cN (kg n (A++B))<=cN n:=by
 refine PS rfl rfl (λb=> ?_) ?_
 ·show(dA (A++B) b).length<=_
  rw[h,Gx,Gx,Gx,aF,aF,aF];omega
 ·show(A++B).length<=_
  rw[h];simp
theorem xz {l l':List Int}:∀k,(∀j,j<k->oC l' j->oC l j)->(eA l' k).length<=(eA l k).length
 |0,_=>by simp[eA]
 |k+1,h=>by
  have z:=xz (l:=l) (l':=l') k λj G=>h j (by omega)
  unfold eA;by_cases y:oC l' k
  ·rw[aB y,aB (h k (by omega) y)]
   simp;omega
  ·rw[aA y]
   split
   ·simp;omega
   ·exact z
theorem PU{c:Nat}(hF:n'.F=n.F)(Z:n'.E=n.E)(J:n'.B.length=13)(G:∀k,n'.B.getD k 0=if k<c then n.B.getD k 0 else 0):cN n'<=cN n:=by
 unfold cN;rw[hF];split
 ·rw[ky,ky,Z]
  have :=xz (l:=n.B) (l':=n'.B) 13 λj hj hs=>by
   obtain⟨y,W⟩:=hs;by_cases h:j<c
   ·rw[G,aB h] at y
    refine⟨y,λU=>W ?_⟩;obtain⟨a1,a2,a3,a4,a5⟩:=U;unfold jy;rw[G,G,aB h,aB (by omega:j-1<c)];exact⟨a1,a2,a3,a4,a5⟩
   ·rw[G,aA h] at y
    unfold zn at y;omega
  unfold eB;split
  ·next h6=>rw[aB (by omega)];omega
  ·omega
 ·unfold dX
  rw[Z];by_cases z:n.B.drop 5≠List.replicate 8 0
  ·rw[aB (c:=5<aZ n.E.length\/n.B.drop 5≠List.replicate 8 0) (.inr z)]
   split<;>omega
  ·have z:n.B.drop 5=List.replicate 8 0:=by simpa using z
   have V:n'.B.drop 5=List.replicate 8 0:=by
    apply cr
    ·simp[J]
    ·intro k y W
     have U:=G (5+k);have h4:(n.B.drop 5).getD k 0=0:=by
      rw[z,aj,aY];split<;>rfl
     rw[bu] at y;have h5:n'.B[5+k]'(by omega)=n'.B.getD (5+k) 0:=by simp[show 5+k<n'.B.length by omega]
     have h6:(n.B.drop 5).getD k 0=n.B.getD (5+k) 0:=by simp
     rw[List.getElem_drop,h5,U,List.getElem_replicate];split
     ·omega
     ·rfl
   rw[z,V];exact aG _
theorem LY (hF:n'.F=n.F)(h:n'.E=n.E)(y:n'.B=n.B):cN n'=cN n:=by
 unfold cN dX;rw[hF,ky,ky,h,y]
theorem PV{a b:ByteArray}(h:EM a b):RD b a=false:=by
 have z:¬EM b a:=λy=>jP _ (qB h y)
 have y:b≠a:=λe=>by subst e;exact jP _ h
 unfold RD;rw[Bool.or_eq_false_iff];refine⟨?_,?_⟩
 ·cases h3:Op.bytesLess b.toList a.toList
  ·rfl
  ·exact absurd h3 z
 ·cases h3:(b.toList==a.toList)
  ·rfl
  ·exact absurd (EN (by simpa using h3)) y
def DW (E:List (ByteArray×Int)):Prop:=E.length<=24/\(∀e∈E,fN (bl e.1)=true/\0<=e.2/\e.2<32)/\tI E
theorem Nl{E:List (ByteArray×Int)}(h:DW E):∀k,k<E.length->z7 E k:=λk y=>by
 have z:eh E k=E[k].1:=by simp[eh,y]
 have G:gT E k=E[k].2:=by simp[gT,y]
 obtain⟨J,W,Z⟩:=h.2.1 E[k] (bp y);refine⟨by rw[z];exact J,by rw[G];omega,λV=> ?_⟩;have U:eh E (k-1)=(E[k-1]'(by omega)).1:=by simp[eh,show k-1<E.length by omega]
 rw[z,U];exact PV (cz.1 h.2.2 (k-1) k (by omega) y (by omega))
theorem aaA (V:bP n)(W:n.K=2):DW n.E:=by
 rcases V.2.2 with ⟨h,-⟩|⟨-,h⟩
 ·omega
 ·refine⟨h.1,λe G=> ?_,EO h⟩
  obtain⟨k,y,rfl⟩:=bR G;have z:=h.2.2.2 k y;have U:eh n.E k=n.E[k].1:=by simp[eh,y]
  have J:gT n.E k=n.E[k].2:=by simp[gT,y]
  rw[z7,U,J] at z;exact⟨z.1,by omega,by omega⟩
theorem Fc (y:bP n)(J:n.K=2){E:List (ByteArray×Int)}(h:DW E):bP (kg n E):=by
 rcases y.2.2 with ⟨z,-⟩|⟨z,G⟩
 ·omega
 ·exact⟨y.1,y.2.1,.inr ⟨z,h.1,rfl,G.2.2.1,Nl h⟩⟩
section
variable {X:List Int} {T:List (bM×Value)} {own:Nat->List Nat} {ex:List Nat} {M:Nat->Nd}
theorem lK.node(h:lK X T own ex M){i:Nat}(y:(M i).K=2):(M i).D=[]:=by
 have e:=h.abs i;have z:=h.kind i;rw[e];show(if (nT T i).K=1 then _ else [])=[];rw[aA (by omega)]
theorem lK.ed(h:lK X T own ex M){d:Nat}(y:(M d).K=2):DW (M d).E:=by
 rw[<-h.ents];exact aaA (h.store (by omega)).right (by rw[h.kind];exact y)
def Goes (X:List Int) (qs:List (Int×Int)) (ex:List Nat) (M':Nat->Nd) (n:Nat):Prop:=
 ∃y h,lK (az X qs) y h ex M'/\(∀k,k<816->(az X qs).getD k 0=X.getD k 0)/\mL X (az X qs) n
theorem lK.edit(h:lK X T own ex M){d:Nat}(U:(M d).K=2){E:List (ByteArray×Int)}(hE:DW E){r:Int}{qs:List (Int×Int)}(hp:pI X (d:Int) (kg (nT T d) E) r qs):
  (r=7/\qs=[]/\(bb X).length+cN (nT T d)<cN (kg (nT T d) E))\/(r=0/\Goes X qs ex (rX M d E) 100/\(bb (az X qs)).length+cN (kg (nT T d) E)=(bb X).length+cN (nT T d)):=by
 have y:=h.store (i:=d) (by omega);have G:(nT T d).K=2:=by rw[h.kind];exact U
 have V:=Fc y.right G hE;have W:sB X (kg (nT T d) E)={ M d with E:=E }:=by
  unfold sB;have J:(kg (nT T d) E).K=(M d).K:=h.kind d;have Z:(kg (nT T d) E).L=(M d).L:=h.links d;rw[J,Z,aA (by omega)];show({ K:=(M d).K,L:=(M d).L,D:=[],E:=E }:Nd)={ K:=(M d).K,L:=(M d).L,D:=(M d).D,E:=E };rw[h.node U]
 rcases h.put (i:=d) (by omega) (n:=kg (nT T d) E) y.len V hp (ex':=ex) (λb _=>rfl) h.st.exr (λz=>by
   have J:(kg (nT T d) E).K=(M d).K:=h.kind d;omega) with z|⟨z,cD,p1,-,p3,p4,p5⟩
 ·exact .inl z
 ·rw[W] at p1
  exact .inr ⟨z,⟨_,_,p1,p4,p5.mono (by have :=qI V;omega)⟩,p3⟩
def DX (E:List (ByteArray×Int)) (nm:ByteArray) (i:Int):List (ByteArray×Int):=tO (kv E nm) (nm,i)
theorem PW {E A M B:List (ByteArray×Int)}{nm:ByteArray}(h:gy E A M B nm):gy (kv E nm) A [] B nm:=⟨by rw[rF h];rfl,h.ahead,h.behind,.inl rfl⟩
theorem vU {E A M B:List (ByteArray×Int)}{nm:ByteArray}(h:gy E A M B nm)(i:Int):DX E nm i=A++([(nm,i)]++B):=vR (PW h) i
theorem aaB {E:List (ByteArray×Int)}(h:DW E)(nm:ByteArray):DW (kv E nm):=
 ⟨cu (CB _ _) h.1,λe y=>h.2.1 e (ni y),h.2.2.sublist List.filter_sublist⟩
theorem TP {E:List (ByteArray×Int)}(h:DW E){nm:ByteArray}{i:Int}(V:(DX E nm i).length<=24)(J:fN (bl nm)=true)(y:0<=i/\i<32):DW (DX E nm i):=by
 refine⟨V,λe G=> ?_,?_⟩
 ·rcases CD G with rfl|U
  ·exact⟨J,y.1,y.2⟩
  ·exact h.2.1 e (ni U)
 ·obtain⟨A,M,B,z⟩:=jF h.2.2 nm
  rw[vU z];exact z.rises h.2.2 _ (.inr ⟨i,rfl⟩)
def rK (X:List Int) (ex:List Nat) (M:Nat->Nd) (d:Nat) (nm:ByteArray) (i:Int) (r:Int) (qs:List (Int×Int)):Prop:=
 (r=7/\qs=[]/\(24<(DX (M d).E nm i).length\/(bb X).length<11))\/(r=0/\(DX (M d).E nm i).length<=24/\Goes X qs ex (rX M d (DX (M d).E nm i)) 100)
theorem lK.enter(h:lK X T own ex M){d:Nat}(G:(M d).K=2){nm:ByteArray}{i:Int}(V:fN (bl nm)=true)(Z:0<=i/\i<32)(J:(DX (M d).E nm i).length<=24){r:Int}{qs:List (Int×Int)}(W:pI X (d:Int) (kg (nT T d) (DX (M d).E nm i)) r qs):rK X ex M d nm i r qs:=by
 have U:=TP (h.ed G) J V Z;rcases h.edit G U W with ⟨z,y,h3⟩|⟨z,y,-⟩
 ·refine .inl ⟨z,y,.inr ?_⟩
  have :=qI (Fc (h.store (i:=d) (by omega)).right (by rw[h.kind];exact G) U);omega
 ·exact .inr ⟨z,J,y⟩
def aaC (X:List Int) (ex:List Nat) (M:Nat->Nd) (d:Nat) (nm:ByteArray) (r:Int) (qs:List (Int×Int)):Prop:=
 r=0/\Goes X qs ex (rX M d (kv (M d).E nm)) 100/\(bb X).length<=(bb (az X qs)).length
theorem lK.leave(h:lK X T own ex M){d:Nat}(y:(M d).K=2){nm:ByteArray}{r:Int}{qs:List (Int×Int)}(V:pI X (d:Int) (kg (nT T d) (kv (M d).E nm)) r qs):aaC X ex M d nm r qs:=by
 have W:=aaB (h.ed y) nm;obtain⟨A,N,B,J⟩:=jF (h.ed y).2.2 nm;have U:cN (kg (nT T d) (kv (M d).E nm))<=cN (nT T d):=by
  rw[rF J];exact PT (M:=N) (by rw[h.ents];exact J.eq)
 rcases h.edit y W V with ⟨G,z,Z⟩|⟨G,z,Z⟩
 ·omega
 ·exact⟨G,z,by omega⟩
end
structure rZ (X:List Int) (T:List (bM×Value)) (own:Nat->List Nat) (i:Nat) (l:List Nat) (M:Nat->Nd):Prop where
 st:nV X T (kY T i cB) own l
 abs:∀j,j≠i->M j=sB X (nT T j)
theorem TQ (own:Nat->List Nat)(i:Nat):Gq own i (own i)=own:=by
 funext j
 unfold Gq;split
 ·next e=>rw[e]
 ·rfl
section
variable {X:List Int} {T:List (bM×Value)} {own:Nat->List Nat} {ex l:List Nat} {M:Nat->Nd}
theorem lK.opened(h:lK X T own [] M){i:Nat}(z:i<32):rZ X T own i (cP (nT T i)) M:=by
 have y:=λj=>mg h.st.gots.len z cB j
 refine⟨⟨h.st.len,h.st.w64,h.st.sup,h.st.gots,h.st.all,λb U=> ?_,λc V=>h.st.rng z (bG _ V),λj Z=> ?_,by unfold kY;rw[cG];exact h.st.gots.len,λj=> ?_⟩,λj _=>h.abs j⟩
 ·have J:=(CG h.st.gots.len own z cB (own i) b 32).2 z
  have G:=h.st.once b U;rw[TQ,pC,bq] at J;unfold kx at J;rw[eK] at J;unfold sy at G ⊢;rw[List.count_nil,dH] at G;rw[show iB (kY T i cB) own 32 b+(cP (nT T i)).count b=iB T own 32 b by omega];exact G
 ·rw[y]
  split
  ·intro W;simp[cB] at W
  ·exact h.st.tails j Z
 ·rw[y]
  split
  ·exact .inr rfl
  ·exact .inl rfl
theorem rZ.vir{i:Nat}(_:rZ X T own i l M){j:Nat}(h:j≠i):nT (kY T i cB) j=nT T j:=by
 unfold kY nT;rw[aj,List.getElem?_set_ne (dx h),<-aj]
theorem rZ.step{i:Nat}(h:rZ X T own i l M){Y:List Int}{l' m:List Nat}(U:nV Y T (kY T i cB) own l')(V:nj X Y m)(W:∀c∈m,c∈l):rZ Y T own i l' M:=by
 refine⟨U,λj G=> ?_⟩;rw[h.abs j G];have :=h.st.nodes V (j:=j) λc z J=>by
  rcases dr j 32 with y|y
  ·exact h.st.apartEx y (bG _ z) (W c J)
  ·rw[h.vir G,h.st.gots.zero y,pC] at z;simp at z
 rw[h.vir G] at this;exact this.symm
theorem rZ.words{i:Nat}(h:rZ X T own i l M)(z:i<32){qs:List (Int×Int)}(J:∀p∈qs,1080<=p.1.toNat/\(p.1.toNat-1080)/8∈l)(eT:dD (az X qs)):rZ (az X qs) T own i l M/\bb (az X qs)=bb X/\∀k,k<1080->(az X qs).getD k 0=X.getD k 0:=by
 have U:nT (kY T i cB) i=cB:=by rw[mg h.st.gots.len z,aB rfl]
 obtain⟨W,V,h3,Z⟩:=h.st.words z (λp y=>⟨(J p y).1,.inr (J p y).2⟩) eT (by rw[U];intro hK;simp[cB] at hK);exact⟨h.step W V (λc G=>by rw[U,pC] at G;simpa using G),h3,Z⟩
theorem rZ.close{i:Nat}(h:rZ X T own i l M)(U:i<32){n:bM}(hB:n.B.length=13)(V:bP n)(G:dT X (i:Int) (nT T i) (own i)){r:Int}{qs:List (Int×Int)}(hp:pI X (i:Int) n r qs)
  (y:∀b,b<256->(cP n).count b=l.count b) (ht:iC X n):
  (r=7/\qs=[]/\(bb X).length+cN (nT T i)<cN n)\/(r=0/\Goes X qs [] (mN M i (sB X n)) 100):=by
 have ae:(bb (az X (bQ X (own i)))).length=(bb X).length+(own i).length:=qz G.mem G.nodup (λc y=>h.st.used U (bF _ y)) λc y ac=>(iu (own i) X h.st.w64 h.st.len).2.1 c y ac
 rw[G.ownLen] at ae;have hz:nT (kY T i cB) i=cB:=by rw[mg h.st.gots.len U,aB rfl]
 rcases hp.over G with ⟨-,z,-⟩|⟨z,-,h2,Z⟩|⟨z,-,h2,Z⟩
 ·exact absurd V z
 ·exact .inl ⟨z,Z,by omega⟩
 ·right
  rw[aH] at Z;subst Z;obtain⟨p1,p2,p3,p4⟩:=h.st.put U hB V h2 (ex':=[]) (λb hb=>by rw[hz,pC,y b hb];simp) (by simp) ht;have aa:kY (kY T i cB) i n=kY T i n:=by unfold kY;rw[List.set_set]
  rw[aa] at p1;have nM:((bb (az X (bQ X (own i)))).take (cN n)).length=cN n:=by rw[aI];omega
  have ag:=qI V;refine⟨z,_,_,⟨p1,λj=> ?_⟩,p4,mL.puts (L:=rY++((List.range 8).map (824+8*i+·)++CN ((bb (az X (bQ X (own i)))).take (cN n)))) ?_ λp hp=> ?_⟩
  ·rw[mg h.st.gots.len U]
   by_cases e:i=j
   ·subst e
    rw[ku,aB rfl];exact(CJ hB (λhK=>(rH V hK).2) λc W k hk=>by
     have h4:=oo hB V c W;have h5:c∈l:=by
      have :=y c h4.2;have J:0<(cP n).count c:=List.count_pos_iff.2 W;exact List.count_pos_iff.1 (by omega)
     exact p2 c h4.2 h4.1 (h.st.usedEx h5) (λh7=>h.st.apartEx U (bF _ h7) h5) k hk).symm
   ·rw[cV _ _ (dx e),aA e,h.abs j (dx e)]
    have :=h.st.nodes p2 (j:=j) λc y af=>by
     rcases dr j 32 with z|z
     ·exact h.st.apart z U (dx e) (bG _ y) (bF _ af)
     ·rw[h.vir (dx e),h.st.gots.zero z,pC] at y;simp at y
    rw[h.vir (dx e)] at this;exact this.symm
  ·rw[aF,aF,uq,nM]
   simp[rY];omega
  ·rw[aP,aP]
   rcases yL U V (own:=own i) rfl h2 hp with J|J|J
   ·exact .inl (qH J)
   ·exact .inr (.inl (CO J))
   ·exact .inr (.inr (yR J.1 J.2))
end
theorem CP:∀(qs:List (Int×Int)) (X:List Int) {k:Nat} {v:Int},k<X.length->(∀q∈qs,q.1.toNat=k->q.2=v)->((∃q∈qs,q.1.toNat=k)\/X.getD k 0=v)->(az X qs).getD k 0=v
 | [],X,k,v,_,_,he=>by
  rcases he with ⟨q,U,-⟩|h
  ·simp at U
  ·exact h
 |q::qs,X,k,v,hk,h,he=>by
  show(az (X.set q.1.toNat q.2) qs).getD k 0=v;refine CP qs _ (by rw[cG];exact hk) (λp y=>h p (by simp[y])) ?_;by_cases e:q.1.toNat=k
  ·right
   rw[iR _ _ _ _ (by omega),aB e];exact h q (by simp) e
  ·rcases he with ⟨p,y,G⟩|z
   ·rcases aS.1 y with rfl|y
    ·exact absurd G e
    ·exact .inl ⟨p,y,G⟩
   ·right
    by_cases J:q.1.toNat<X.length
    ·rw[iR _ _ _ _ J,aA e];exact z
    ·rw[gK (by omega)];exact z
def zN (c:List Int) (a:Nat):Int:=((jv (((c.drop a).take 8).map Int.toNat):Nat):Int)
def il (B c:List Int):Nat->List (Int×Int)
 |0=>[]
 |k+1=>il B c k++(if B.getD k 0=0 then [] else (List.range 8).map λw:Nat=>(gV (B.getD k 0)+(w:Int),zN c (64*k+8*w)))
def yS (c:List Int):Prop:=c.length=832/\∀x∈c,0<=x/\x<256
theorem yS.get(h:yS c)(k:Nat):0<=c.getD k 0/\c.getD k 0<256:=by
 by_cases y:k<c.length
 ·rw[aj,aD y]
  exact h.2 _ (bp y)
 ·rw[aj,aO (by omega)]
  decide
theorem PX (h:yS c)(a:Nat){j:Nat}(J:j<8):nO (zN c a).toNat j=(c.getD (a+j) 0).toNat:=by
 unfold zN;rw[aH,D4]
 ·rw[aj,bD,bN,aB J,bX,aj]
  cases c[a+j]? <;>rfl
 ·intro x G
  obtain⟨y,z,rfl⟩:=bB.1 G;have :=h.2 y (fL (bA z));omega
theorem PY (h:yS c)(a:Nat):0<=zN c a/\zN c a<18446744073709551616:=by
 have z:∀x∈((c.drop a).take 8).map Int.toNat,x<256:=λx J=>by
  obtain⟨y,G,rfl⟩:=bB.1 J;have :=h.2 y (fL (bA G));omega
 have U:=A5 z;have V:256^(((c.drop a).take 8).map Int.toNat).length<=256^8:=gM (by decide) (by simp;omega);unfold zN;omega
theorem o8 {B c:List Int}{p:Int×Int}:∀{m:Nat},p∈il B c m↔∃k:Nat,k<m/\B.getD k 0≠0/\∃w:Nat,w<8/\p=(gV (B.getD k 0)+(w:Int),zN c (64*k+8*w))
 |0=>by simp[il]
 |m+1=>by
  unfold il;rw[aP,o8 (m:=m)];constructor
  ·rintro (⟨k,G,z⟩|h)
   ·exact⟨k,by omega,z⟩
   ·split at h
    ·simp at h
    ·next h0=>
     obtain⟨w,y,rfl⟩:=bB.1 h;exact⟨m,by omega,h0,w,by simpa using y,rfl⟩
  ·rintro⟨k,G,z,w,y,rfl⟩
   by_cases e:k=m
   ·subst e
    right
    rw[aA z];exact bB.2 ⟨w,by simpa using y,rfl⟩
   ·exact .inl ⟨k,by omega,z,w,y,rfl⟩
theorem CQ (B c:List Int):∀m,(il B c m).length<=8*m
 |0=>by simp[il]
 |m+1=>by
  unfold il;have :=CQ B c m;rw[aF];split<;>simp<;>omega
theorem qJ (h:kp B){k:Nat}(y:k<13):0<=B.getD k 0/\B.getD k 0<256:=(h k y).1
theorem TR (z:kp B){j k:Nat}(J:j<13)(G:k<13)(h:B.getD k 0≠0)(e:B.getD j 0=B.getD k 0):j=k:=by
 rcases Nat.lt_trichotomy j k with y|y|y
 ·exact absurd e ((z k G).2 h j y)
 ·exact y
 ·exact absurd e.symm ((z j J).2 (by rw[e];exact h) k y)
theorem JH (y:n.B.length=13){k:Nat}(z:k<13)(h:n.B.getD k 0≠0):(n.B.getD k 0).toNat∈cP n:=by
 unfold cP dB;refine bB.2 ⟨n.B.getD k 0,List.mem_filter.2 ⟨?_,by simpa using h⟩,rfl⟩;rw[aQ (by omega),aj,aD (by omega)];exact bp _
section
variable {X:List Int} {n:bM} {c:List Int}
theorem JI (J:n.B.length=13)(G:kp n.B):∀p∈il n.B c 13,1080<=p.1.toNat/\(p.1.toNat-1080)/8∈cP n:=by
 intro p z;obtain⟨k,h,y,w,V,rfl⟩:=o8.1 z;have W:=qJ G h;have U:=JH J h y;have e:(gV (n.B.getD k 0)+(w:Int)).toNat=1080+8*(n.B.getD k 0).toNat+w:=by
  unfold gV;rw[aA (by omega)];omega
 dsimp only
 rw[e];refine⟨by omega,?_⟩;rwa[show(1080+8*(n.B.getD k 0).toNat+w-1080)/8=(n.B.getD k 0).toNat by omega]
theorem PZ (hX:X.length=3128)(y:kp n.B){k w:Nat}(z:k<13)(V:w<8)(U:n.B.getD k 0≠0):(az X (il n.B c 13)).getD (1080+8*(n.B.getD k 0).toNat+w) 0=zN c (64*k+8*w):=by
 have h1:=qJ y z;refine CP _ _ (by omega) (λq hq J=> ?_) (.inl ⟨_,o8.2 ⟨k,z,U,w,V,rfl⟩,?_⟩)
 ·obtain⟨h,G,aa,w',ac,rfl⟩:=o8.1 hq
  have h2:=qJ y G;have e:(gV (n.B.getD h 0)+(w':Int)).toNat=1080+8*(n.B.getD h 0).toNat+w':=by
   unfold gV;rw[aA (by omega)];omega
  dsimp only at J
  rw[e] at J;have W:h=k:=TR y G z U (by omega);subst W;have Z:w'=w:=by omega
  rw[Z]
 ·dsimp only
  unfold gV;rw[aA (by omega)];omega
theorem JJ (h:X.length=3128)(z:kp n.B)(J:yS c){k j:Nat}(G:k<13)(U:j<64)(y:n.B.getD k 0≠0):nO ((az X (il n.B c 13)).getD (1080+8*(n.B.getD k 0).toNat+j/8) 0).toNat (j%8)=(c.getD (64*k+j) 0).toNat:=by
 rw[PZ h z G (by omega) y,PX J _ (by omega)]
 congr 2
 omega
theorem Fe (h:dD X)(z:yS c):dD (az X (il n.B c 13)):=h.put λp y=>by
 obtain⟨k,U,G,w,J,rfl⟩:=o8.1 y;exact PY z _
theorem CR (z:X.length=3128)(G:kp n.B)(y:yS c){k:Nat}(J:k<832):kJ (az X (il n.B c 13)) n k=if n.B.getD (k/64) 0=0 then 0 else c.getD k 0:=by
 unfold kJ;split
 ·rfl
 ·next hb=>
  have h:=JJ z G y (k:=k/64) (j:=k%64) (by omega) (by omega) hb;rw[show k%64%8=k%8 by omega,show 64*(k/64)+k%64=k by omega] at h;rw[h];have :=y.get k;omega
theorem Ff (h:X.length=3128)(G:kp n.B)(U:yS c)(y:∀k:Nat,k<832->n.S<=(k:Int)->c.getD k 0=0):iC (az X (il n.B c 13)) n:=λ_ k J z j V W=>by
 rw[JJ h G U J V z,y _ (by omega) (by omega)];rfl
theorem JK (_:n.B.length=13)(_:kp n.B):mL X (az X (il n.B c 13)) 104:=
 mL.puts (L:=(il n.B c 13).map (λp=>p.1.toNat)) (by rw[bJ];exact CQ _ _ 13) λp h=>bB.2 ⟨p,h,rfl⟩
def qK (X:List Int) (n:bM):List Int:=(List.range 832).map (kJ X n)
theorem ur (X:List Int)(n:bM){k:Nat}(h:k<832):(qK X n).getD k 0=kJ X n k:=by simp[qK,h]
theorem zO (X:List Int)(n:bM):yS (qK X n):=⟨by simp[qK],λx h=>by
 obtain⟨k,-,rfl⟩:=bB.1 h;exact Fa X n k⟩
theorem yT (h:iC X n)(y:n.K=1){k:Nat}(z:k<832)(G:n.S<=(k:Int)):kJ X n k=0:=by
 unfold kJ;split
 ·rfl
 ·next hb=>
  have :=h y (k/64) (by omega) hb (k%64) (by omega) (by omega);rw[show k%64%8=k%8 by omega] at this;rw[this];rfl
end
def o9 (B:List Int) (a e:Nat):List Nat:=(List.range e).filter λk=>decide (a<=k)&&(B.getD k 0==0)
theorem P0{a e:Nat}:k∈o9 B a e↔k<e/\a<=k/\B.getD k 0=0:=by
 unfold o9;rw[List.mem_filter,bS];simp
theorem JL (B:List Int)(a e:Nat):(o9 B a e).Nodup:=List.nodup_range.sublist List.filter_sublist
theorem P4 (B:List Int)(a e:Nat):(o9 B a e).length<=e:=cu (eN _ _) (by simp)
theorem yU (h:l.Nodup){i j:Nat}(z:i<l.length)(G:j<l.length)(e:l[i]=l[j]):i=j:=by
 rcases Nat.lt_trichotomy i j with y|y|y
 ·exact absurd e (cz.1 h i j z G y)
 ·exact y
 ·exact absurd e.symm (cz.1 h j i G z y)
def pc (B:List Int) (h l:List Nat):Nat->List Int
 |0=>B
 |j+1=>(pc B h l j).set (h.getD j 0) ((l.getD j 0:Nat):Int)
theorem xA (B:List Int)(h l:List Nat):∀j,(pc B h l j).length=B.length
 |0=>rfl
 |j+1=>by unfold pc;rw[cG,xA B h l j]
theorem yV {B:List Int}{y l:List Nat}{k:Nat}:∀{j:Nat},j<=y.length->k∉y.take j->(pc B y l j).getD k 0=B.getD k 0
 |0,_,_=>rfl
 |j+1,hj,hk=>by
  unfold pc;have z:y.getD j 0=y[j]'(by omega):=by simp[show j<y.length by omega]
  rw[bt (by omega),aP,au] at hk;rw[aj,List.getElem?_set_ne (by rw[z];exact λe=>hk (.inr e.symm)),<-aj];exact yV (by omega) λh=>hk (.inl h)
theorem Nn {B:List Int}{y l:List Nat}(G:y.Nodup)(J:∀k∈y,k<B.length):∀{j m:Nat},j<=y.length->m<j->(pc B y l j).getD (y.getD m 0) 0=((l.getD m 0:Nat):Int)
 |0,_,_,h=>by omega
 |j+1,m,hj,hm=>by
  unfold pc;have z:y.getD j 0=y[j]'(by omega):=by simp[show j<y.length by omega]
  have U:y.getD m 0=y[m]'(by omega):=by simp[show m<y.length by omega]
  by_cases e:m=j
  ·subst e
   rw[aj,List.getElem?_set_self (by rw[xA,z];exact J _ (bp _))];rfl
  ·rw[aj,List.getElem?_set_ne,<-aj]
   ·exact Nn G J (by omega) (by omega)
   ·rw[z,U]
    intro V;exact e (yU G _ _ V).symm
theorem zP (h:B.length=13)(b:Nat):(dB B 13).count b=B.countP λx=>x != 0&&x.toNat==b:=by
 unfold dB;rw[aQ (by omega),List.count_eq_countP,List.countP_map,List.countP_filter]
 congr 1
 funext x
 simp[Bool.and_comm]
theorem P5 (y:B.length=13){k:Nat}(G:k<13)(z:B.getD k 0=0){x:Nat}(J:x≠0)(b:Nat):(dB (B.set k (x:Int)) 13).count b=(dB B 13).count b+[x].count b:=by
 rw[zP (by rw[cG];exact y),zP y,List.countP_set (by omega)];have e:B[k]'(by omega)=0:=by rw[<-z];simp[show k<B.length by omega]
 rw[e];by_cases h:x=b
 ·subst h
  rw[aA (by simp),aB (by simp;omega)];simp
 ·rw[aA (by simp),aA (by simp;omega)]
  simp[h]
theorem CS {B:List Int}{y l:List Nat}(Z:B.length=13)(V:y.Nodup)(W:∀k∈y,k<13/\B.getD k 0=0)(hl:l.length=y.length)(U:∀c∈l,c≠0)(b:Nat):∀{j:Nat},j<=y.length->(dB (pc B y l j) 13).count b=(dB B 13).count b+(l.take j).count b
 |0,_=>by simp[pc]
 |j+1,hj=>by
  have ih:=CS Z V W hl U b (j:=j) (by omega);have z:y.getD j 0=y[j]'(by omega):=by simp[show j<y.length by omega]
  have G:l.getD j 0=l[j]'(by omega):=by simp[show j<l.length by omega]
  have hm:=W (y[j]'(by omega)) (bp _);unfold pc;rw[P5 (by rw[xA];exact Z) (by rw[z];exact hm.1) (by
   rw[yV (by omega),z]
   ·exact hm.2
   ·rw[z]
    intro h;rw[List.mem_take_iff_getElem] at h;obtain⟨m,aa,J⟩:=h;have :=yU V _ _ J;omega) (by rw[G];exact U _ (bp _)),ih,bt (by omega),eK,G]
  omega
theorem WT (y:B.length=13){c:Nat}(z:c<=13)(h:∀k,c<=k->B.getD k 0=0):B=iz B c:=by
 apply cr (by rw[mr y z,y]);intro k V U;have J:=n4 y z k;rw[aj,aD U,eG] at J;rw[J];have G:B.getD k 0=B[k]:=by simp[V]
 split
 ·exact G.symm
 ·rw[<-G];exact h k (by omega)
theorem Fg (z:n.B.length=13)(h:mW n):∀k,bY n.S.toNat<=k->n.B.getD k 0=0:=λk G=>by
 have y:bY n.S.toNat<=13:=by unfold bY;have :=h.1;omega
 rw[h.2.2.1,n4 z y,aA (by omega)]
theorem CT (y:bP n)(z:n.K=1):mW n:=by
 rcases y.2.2 with ⟨-,h⟩|⟨h,-⟩
 ·exact h
 ·omega
theorem vV (y:bP n)(z:n.K=1)(hF:n'.F=n.F)(h:n'.K=n.K)(U:n'.L=n.L)(hE:n'.E=n.E)(Z:n'.B.length=13)(V:0<=n'.S/\n'.S<=832)(J:∀k,bY n'.S.toNat<=k->n'.B.getD k 0=0)(W:kp n'.B):bP n':=by
 have G:=CT y z;refine⟨by rw[hF];exact y.1,by rw[U];exact y.2.1,.inl ⟨by rw[h];exact z,V,by rw[hE];exact G.2.1,WT Z (by unfold bY;omega) J,W⟩⟩
section
variable {X:List Int} {T:List (bM×Value)} {own:Nat->List Nat} {M:Nat->Nd}
theorem lK.fileAt(h:lK X T own [] M){i:Nat}(J:(M i).K=1):dT X (i:Int) (nT T i) (own i)/\(nT T i).K=1/\mW (nT T i)/\iC X (nT T i)/\i<32/\(M i).D=qG X (nT T i)/\(nT T i).B.length=13:=by
 have z:=h.store (i:=i) (by omega);have y:(nT T i).K=1:=by rw[h.kind];exact J
 have G:=h.rng (i:=i) (by omega);refine⟨z,y,CT z.right y,h.st.tails i G,G,?_,z.len⟩;rw[h.abs i];show(if (nT T i).K=1 then _ else _)=_;rw[aB y]
theorem yX {l m:List Int}(h:l.length=m.length)(G:∀k,k<l.length->l.getD k 0=m.getD k 0):l=m:=by
 apply cr h;intro k y z;have :=G k y;rwa[aj,aD y,aj,aD z] at this
theorem JM (D:List Int)(n:Nat){k:Nat}(h:k<n):(vS D n).getD k 0=D.getD k 0:=by
 unfold vS;rw[aj];by_cases y:k<D.length
 ·rw[aW (by simp;omega),bN,aB h,aj]
 ·rw[aM (by simp;omega),aY,aj,aO (by omega:D.length<=k)]
  split<;>rfl
theorem CU {i:Nat}{n n':bM}{Y:List Int}{D:List Int}(h:M i=sB X n)(J:n.K=1)(y:n'.K=n.K)(z:n'.L=n.L)(U:n'.E=n.E)(G:qG Y n'=D):sB Y n'={ M i with D:=D }:=by
 rw[h];unfold sB;rw[y,z,U,aB J,G]
theorem lK.grow(h:lK X T own [] M){i:Nat}(hK:(M i).K=1){s:Nat}(hs:s<=832)(Ac:(nT T i).S<=(s:Int)){r:Int}{qs:List (Int×Int)}(hp:pI X (i:Int) { nT T i with S:=(s:Int) } r qs):
  r=0/\Goes X qs [] (mN M i { M i with D:=vS (M i).D s }) 100:=by
 obtain⟨z,W,hf,ht,hi,hd,hB⟩:=h.fileAt hK;have U:=hf.1.1;have hR:bP { nT T i with S:=(s:Int) }:=vV z.right W rfl rfl rfl rfl z.len ⟨by show(0:Int)<=(s:Int);omega,by show(s:Int)<=832;omega⟩ (λk y=>by
  refine Fg z.len hf k ?_;have y:bY (s:Int).toNat<=k:=y;rw[aH] at y;unfold bY at *;have J:(nT T i).S.toNat<=s:=by omega
  clear hd Ac U;omega) hf.2.2.2
 have V:iC X { nT T i with S:=(s:Int) }:=λy k Z hb j hj G=>ht y k Z hb j hj (by
  have G:(s:Int)<=_:=G;omega)
 have hn:sB X { nT T i with S:=(s:Int) }={ M i with D:=vS (M i).D s }:=by
  refine CU (h.abs i) W rfl rfl rfl ?_;rw[hd];have aa:(qG X { nT T i with S:=(s:Int) }).length=s:=by rw[lJ];exact aH s
  apply yX
  ·rw[aa,tP]
  ·intro k y
   rw[JM _ _ (by omega),ot _ _ (by rw[<-lJ];exact y)];show kJ X (nT T i) k=_;by_cases Kd:k<(nT T i).S.toNat
   ·exact(ot X (nT T i) Kd).symm
   ·rw[yT ht W (by omega) (by omega),aj,aO (by rw[lJ];omega)]
    rfl
 rcases h.put (i:=i) (by omega) (n:={ nT T i with S:=(s:Int) }) z.len hR hp (ex':=[]) (λb _=>rfl) (by simp) V with ⟨-,-,J⟩|⟨J,cD,p1,-,p3,p4,p5⟩
 ·have e:=LY (n:=nT T i) (n':={ nT T i with S:=(s:Int) }) rfl rfl rfl
  rw[e] at J;omega
 ·rw[hn] at p1
  exact⟨J,_,_,p1,p4,p5.mono (by have :=qI hR;revert this;generalize cN { nT T i with S:=(s:Int) }=a;omega)⟩
def xB (c:List Int) (o:Nat) (D:List Int):List Int:=c.take o++(D++c.drop (o+D.length))
theorem JN {c D:List Int}{o:Nat}(h:yS c)(J:o+D.length<=832)(G:∀x∈D,0<=x/\x<256):yS (xB c o D):=by
 refine⟨by unfold xB;simp[h.1];omega,λx z=> ?_⟩;unfold xB at z;simp only[aP] at z;rcases z with y|y|y
 ·exact h.2 x (bA y)
 ·exact G x y
 ·exact h.2 x (fL y)
theorem P6 {c D:List Int}{o:Nat}(h:c.length=832)(G:o+D.length<=832)(k:Nat):(xB c o D).getD k 0=if o<=k/\k<o+D.length then D.getD (k-o) 0 else c.getD k 0:=by
 unfold xB;rw[aj];by_cases y:k<o
 ·rw[aW (by simp;omega),bN,aB y,aA (by omega),aj]
 ·rw[aM (by simp;omega),aI,cy (by omega)]
  by_cases z:k<o+D.length
  ·rw[aW (by omega),aB (by omega),aj]
  ·rw[aM (by omega),aA (by omega),bX,aj]
   congr 2
   omega
theorem P7 {h D:List Int}{o:Nat}(k:Nat):(uS h o D).getD k 0=if o<=k/\k<o+D.length then D.getD (k-o) 0 else h.getD k 0:=by
 unfold uS;have G:((vS h (max h.length (o+D.length))).take o).length=o:=by rw[aI,tP];omega
 rw[aj];by_cases z:k<o
 ·rw[aW (by omega),bN,aB z,aA (by omega)]
  unfold vS;by_cases y:k<h.length
  ·rw[aW (by simp;omega),bN,aB (by omega),aj]
  ·rw[aM (by simp;omega),aY,aj,aO (by omega:h.length<=k)]
   split<;>rfl
 ·rw[aM (by omega),G]
  by_cases y:k<o+D.length
  ·rw[aW (by omega),aB (by omega),aj]
  ·rw[aM (by omega),aA (by omega),bX,aj]
   congr 2
   omega
def wrN (X:List Int) (n:bM) (o m:Nat):bM:=
 { n with B:=pc n.B (o9 n.B (o/64) (bY (o+m))) ((bb X).take (o9 n.B (o/64) (bY (o+m))).length) (o9 n.B (o/64) (bY (o+m))).length,S:=max n.S ((o+m:Nat):Int) }
theorem lK.write(h:lK X T own [] M){i:Nat}(hK:(M i).K=1){o:Nat}{D:List Int}(aN:D≠[])(ax:∀x∈D,0<=x/\x<256)(ho:o+D.length<=832)
  (uP:(o9 (nT T i).B (o/64) (bY (o+D.length))).length<=(bb X).length) {r:Int} {qs:List (Int×Int)}
  (hp:pI (az (az X (cL X ((bb X).take (o9 (nT T i).B (o/64) (bY (o+D.length))).length))) (il (wrN X (nT T i) o D.length).B (xB (qK X (nT T i)) o D) 13)) (i:Int) (wrN X (nT T i) o D.length) r qs):
  (r=7/\(bb X).length<40)\/(r=0/\Goes X (cL X ((bb X).take (o9 (nT T i).B (o/64) (bY (o+D.length))).length)++(il (wrN X (nT T i) o D.length).B (xB (qK X (nT T i)) o D) 13++qs)) [] (mN M i { M i with D:=uS (M i).D o D }) 400):=by
 obtain⟨av,hk,hf,ht,hi,hd,hB⟩:=h.fileAt hK;have hS:=hf.1;have aX:0<D.length:=List.length_pos_iff.2 aN;have aL:bY (o+D.length)<=13:=by unfold bY;omega
 generalize hn:nT T i=n at *;generalize Z:o9 n.B (o/64) (bY (o+D.length))=z at *;have W:∀k,k∈z↔k<bY (o+D.length)/\o/64<=k/\n.B.getD k 0=0:=λk=>by rw[<-Z];exact P0
 have CV:z.Nodup:=by rw[<-Z];exact JL _ _ _
 have BI:z.length<=13:=by rw[<-Z];exact cu (P4 _ _ _) aL
 have aa:=h.opened hi;rw[hn] at aa;obtain⟨t1,t2,t3,t4,t5⟩:=aa.st.take z.length;have WU:=aa.step t1 t2 (by simp);have Yd:∀c∈(bb X).take z.length,c≠0/\c<256:=oP;have ay:((bb X).take z.length).Nodup:=qu;have aK:∀c∈(bb X).take z.length,cT X c=false:=λc hc=>(iX.1 (bA hc)).2.2
 have lR:((bb X).take z.length).length=z.length:=by rw[aI];omega
 have hw:wrN X n o D.length={ n with B:=pc n.B z ((bb X).take z.length) z.length,S:=max n.S ((o+D.length:Nat):Int) }:=by unfold wrN;rw[Z]
 rw[hw] at hp ⊢;clear hw;have V3:∀k,k∉z->(pc n.B z ((bb X).take z.length) z.length).getD k 0=n.B.getD k 0:=λk y=>yV (aG _) (by rw[fz];exact y)
 have aC:∀m,m<z.length->(pc n.B z ((bb X).take z.length) z.length).getD (z.getD m 0) 0=((((bb X).take z.length).getD m 0:Nat):Int):=λm hm=>Nn CV (λk y=>by have :=((W k).1 y).1;omega) (aG _) hm
 have V:=xA n.B z ((bb X).take z.length) z.length;have MI:=λb=>CS (l:=(bb X).take z.length) hB CV (λk y=>by have :=(W k).1 y;exact⟨by omega,this.2.2⟩) lR (λc hc=>(Yd c hc).1) b (j:=z.length) (aG _)
 have au:mL X (az X (cL X ((bb X).take z.length))) 108:=mL.puts (L:=rY++CN ((bb X).take z.length)) (by rw[aF,uq,lR];simp[rY];omega) λp hp=>by
  rw[aP];rcases o6 _ _ p hp with h6|h6
  ·exact .inl (qH h6)
  ·exact .inr (yR h6.1 h6.2)
 generalize hl:(bb X).take z.length=l at *;generalize af:az X (cL X l)=X1 at *;generalize aT:pc n.B z l z.length=G at *;rw[aQ (by omega)] at MI
 -- what each place has
 have lZ:∀k,k<13->(G.getD k 0=n.B.getD k 0/\k∉z)\/(n.B.getD k 0=0/\∃m,m<z.length/\z.getD m 0=k/\G.getD k 0=((l.getD m 0:Nat):Int)/\l.getD m 0∈l):=λk y=>by
  by_cases hm:k∈z
  ·right
   obtain⟨m,ae,aS⟩:=bR hm;have U:z.getD m 0=k:=by rw[<-aS];simp[ae]
   refine⟨((W k).1 hm).2.2,m,ae,U,by rw[<-U];exact aC m ae,?_⟩;rw[aj,aD (by omega)];exact bp _
  ·exact .inl ⟨V3 k hm,hm⟩
 have I8:∀k,k<13->n.B.getD k 0≠0->(n.B.getD k 0).toNat∉l:=λk y hb hc=>by
  have J:=aK _ hc;have h2:=aa.st.usedEx (JH hB y hb);rw[J] at h2;cases h2
 have QP:kp G:=λk y=>by
  have hr:=qJ hf.2.2.2 y;rcases lZ k y with ⟨U,-⟩|⟨e0,m,hm,e2,U,IJ⟩
  ·refine⟨by rw[U];exact hr,λac j hj=> ?_⟩
   rw[U] at ac ⊢;rcases lZ j (by omega) with ⟨f1,-⟩|⟨-,m',-,-,f1,ak⟩
   ·rw[f1];exact(hf.2.2.2 k y).2 ac j hj
   ·rw[f1]
    intro e3;exact I8 k y ac (by rw[<-e3,aH];exact ak)
  ·have :=Yd _ IJ
   refine⟨by rw[U];omega,λac j hj=> ?_⟩;rw[U];rcases lZ j (by omega) with ⟨f1,-⟩|⟨-,m',Xo,f2,f1,ak⟩
   ·rw[f1]
    intro e3;exact I8 j (by omega) (by omega) (by rw[e3,aH];exact IJ)
   ·rw[f1]
    intro e3;have e4:l.getD m' 0=l.getD m 0:=by omega
    rw[aj,aD (by omega),aj,aD (by omega)] at e4;have :=yU ay _ _ e4;subst this;omega
 have TS:X1.length=3128:=t1.len;have ag:(max n.S ((o+D.length:Nat):Int)).toNat=max n.S.toNat (o+D.length):=by omega
 have hR:bP { n with B:=G,S:=max n.S ((o+D.length:Nat):Int) }:=by
  refine vV av.right hk rfl rfl rfl rfl (by rw[<-hB,<-V]) ⟨by dsimp only;omega,by dsimp only;omega⟩ (λk y=> ?_) QP
  dsimp only at y ⊢
  rw[ag] at y;have J:=Fg hB hf k (by unfold bY at *;omega);rw[V3 k λhm=>by have :=((W k).1 hm).1;unfold bY at *;omega];exact J
 have Yj:∀k,k<832->kJ X n k=(qK X n).getD k 0:=λk y=>(ur X n y).symm
 have ap:=zO X n;have ah:=JN ap ho ax;have ai:=P6 (D:=D) ap.1 ho;have ar:∀k:Nat,k<832->max n.S ((o+D.length:Nat):Int)<=(k:Int)->(xB (qK X n) o D).getD k 0=0:=λk y aW=>by
  rw[ai,aA (by omega),ur X n y];exact yT ht hk y (by omega)
 generalize xB (qK X n) o D=c at *;have zt:=JI (n:={ n with B:=G,S:=max n.S ((o+D.length:Nat):Int) }) (c:=c) (by rw[<-hB,<-V]) QP;have uy:∀b,b<256->(cP { n with B:=G,S:=max n.S ((o+D.length:Nat):Int) }).count b=(cP n++l).count b:=λb _=>by
  rw[eK];exact MI b
 have aM:∀x,x∈cP { n with B:=G,S:=max n.S ((o+D.length:Nat):Int) }->x∈cP n++l:=λx hx=>by
  have J:=oo (n:={ n with B:=G,S:=max n.S ((o+D.length:Nat):Int) }) (by rw[<-hB,<-V]) hR x hx;have h2:=uy x J.2;have h3:0<(cP { n with B:=G,S:=max n.S ((o+D.length:Nat):Int) }).count x:=List.count_pos_iff.2 hx;exact List.count_pos_iff.1 (by omega)
 have aR:dD (az X1 (il G c 13)):=Fe (n:={ n with B:=G,S:=max n.S ((o+D.length:Nat):Int) }) t1.w64 ah;obtain⟨TT,TU,Ej⟩:=WU.words hi (qs:=il G c 13) (λp hp=>⟨(zt p hp).1,aM _ (zt p hp).2⟩) aR;have OG:dT (az X1 (il G c 13)) (i:Int) (nT T i) (own i):=by
  rcases TT.st.each hi with ⟨-,J⟩|⟨-,J,-⟩
  ·exact J
  ·rw[hn] at J;rw[J] at hk;simp[cB] at hk
 have J9:=λk (y:k<832)=>CR (X:=X1) (n:={ n with B:=G,S:=max n.S ((o+D.length:Nat):Int) }) TS QP ah y
 have MN:=Ff (X:=X1) (n:={ n with B:=G,S:=max n.S ((o+D.length:Nat):Int) }) TS QP ah ar;have aw:=JK (X:=X1) (n:={ n with B:=G,S:=max n.S ((o+D.length:Nat):Int) }) (c:=c) (by rw[<-hB,<-V]) QP;have TV:sB (az X1 (il G c 13)) { n with B:=G,S:=max n.S ((o+D.length:Nat):Int) }={ M i with D:=uS (M i).D o D }:=by
  refine CU (n:=n) (X:=X) (by rw[h.abs i,hn]) hk rfl rfl rfl ?_;rw[hd];have aq:=lJ X n;apply yX
  ·rw[lJ,E0,aq];exact ag
  ·intro k y
   rw[lJ] at y;have aU:k<max n.S.toNat (o+D.length):=by rw[<-ag];exact y
   have qP:k<832:=by omega
   rw[ot _ _ y,J9 k qP,P7]
   dsimp only
   by_cases k6:o<=k/\k<o+D.length
   ·rw[aB k6,ai,aB k6]
    rw[aA];intro h0;rcases lZ (k/64) (by omega) with ⟨U,e2⟩|⟨-,m,-,-,U,e2⟩
    ·refine e2 ((W _).2 ⟨?_,?_,by rw[<-U];exact h0⟩)
     ·unfold bY;omega
     ·omega
    ·have :=(Yd _ e2).1;omega
   ·rw[aA k6,ai,aA k6,ur X n qP]
    have aJ:(qG X n).getD k 0=kJ X n k:=by
     by_cases Kd:k<n.S.toNat
     ·exact ot X n Kd
     ·rw[yT ht hk qP (by omega),aj,aO (by rw[aq];omega)]
      rfl
    rw[aJ];split
    ·next h0=>
     rcases lZ (k/64) (by omega) with ⟨U,-⟩|⟨-,m,-,-,U,e2⟩
     ·unfold kJ
      rw[aB (by rw[<-U];exact h0)]
     ·have :=(Yd _ e2).1;omega
    ·rfl
 have aV:(bb X1).length+z.length=(bb X).length:=by rw[t4,bu];omega
 rcases TT.close hi (by rw[<-hB,<-V]) hR OG hp uy MN with ⟨J,-,h3⟩|⟨J,T',cD,g1,g2,g3⟩
 ·refine .inl ⟨J,?_⟩
  have :=qI hR;rw[TU] at h3;omega
 ·refine .inr ⟨J,T',cD,?_,λk y=> ?_,?_⟩
  ·rw[bo,bo,af,<-TV];exact g1
  ·rw[bo,bo,af,g2 k y,Ej k (by omega),t5 k y]
  ·rw[bo,bo,af]
   exact((au.trans aw).trans g3).mono (by omega)
end
theorem LZ{v:Value}{g:Nat}{xs:List Value}(h:Reads w v g xs):v.oneCell'=true:=by
 obtain⟨a,cap,rfl,-⟩:=h;rfl
theorem P8{P:List ByteArray}(h:P.length=k+1):ct P=o7 P k:=by
 unfold ct o7;rw[List.getLastD_eq_getLast?,List.getLast?_eq_getElem?,h,fw,aj]
theorem L0 (M:Nat->Nd)(P:List ByteArray):(P=[]/\dh M P=(0,1))\/(P≠[]/\j6 P=false/\dh M P=(0,1))\/
  (P≠[]/\j6 P=true/\(((gG M 0 P.dropLast).2≠0/\dh M P=gG M 0 P.dropLast)\/((gG M 0 P.dropLast).2=0/\(M (gG M 0 P.dropLast).1).K≠2/\dh M P=(0,4))\/((gG M 0 P.dropLast).2=0/\(M (gG M 0 P.dropLast).1).K=2/\dh M P=gG M 0 P.dropLast))):=by
 unfold dh;by_cases z:P=[]
 ·exact .inl ⟨z,by rw[aB (.inl z)]⟩
 ·cases h2:j6 P with
  |false=>exact .inr (.inl ⟨z,rfl,by rw[aB (.inr rfl)]⟩)
  |true=>
   refine .inr (.inr ⟨z,rfl,?_⟩);rw[aA (by simp[z])];by_cases y:(gG M 0 P.dropLast).2=0
   ·by_cases G:(M (gG M 0 P.dropLast).1).K=2
    ·exact .inr (.inr ⟨y,G,by rw[aA (λh=>h.2 G)]⟩)
    ·exact .inr (.inl ⟨y,G,by rw[aB ⟨y,G⟩]⟩)
   ·exact .inl ⟨y,by rw[aA (λh=>y h.1)]⟩
theorem L3{b gp:Nat}{ps:List (Int×Int)}(h:fG w b gp B ps T own){M:Nat->Nd}(hA:LP M T){v:Value}{g:Nat}{P:List ByteArray}(hP:jQ w v g P)(hs:∀s∈P,s.size<=9223372036854775807):
  Calls Tryz.prog 152 #[.pointer (some ⟨b,0,none⟩),v] w (nW w (dh M P) (ct P)):=by
 have HG:=ar (LO hP hs);obtain⟨a,cap,rfl,nz,nB,uv⟩:=hP.open;have U:=ar (L0 M P);have Wz:Hid (∀e w',nW w (dh M P) (ct P) e w'->nW w (dh M P) (ct P) e w'):=λ_ _ h=>h
 rcases eC P.length with h0|h0
 ·have V:P=[]:=List.length_eq_zero_iff.1 h0
  have z:dh M P=(0,1):=by
   rcases U.out with y|y|y
   ·exact y.2
   ·exact absurd V y.1
   ·exact absurd V y.1
  have W:Hid (nW w (dh M P) (ct P) (.returned (.tuple #[.int .i64 0,.string ⟨#[]⟩,.int .i64 1])) w):=⟨ay.refl _ _,.inr ⟨by rw[z];decide,by rw[z]⟩⟩;clear U Wz h hA hP hs z HG;generalize nW w (dh M P) (ct P)=Q at *;rw[h0] at nz ⊢;clear V h0 uv;go_enter Tryz.func152,Tryz.ntmps152;go_wp2_with fail
  go_ret3
  exact W.out
 ·obtain⟨k,hk⟩:∃k,P.length=k+1:=⟨P.length-1,by omega⟩
  have aj:P≠[]:=λe=>by rw[e] at h0;simp at h0
  have hl:=P8 hk;have k6:=hP.init;rw[hk,fw] at k6;have HW:=ar (TE h hA k6);have HD:Hid (∀x:Nat,(M x).K≠0->∀wx,ay [] w wx->Calls Tryz.prog 179 #[.pointer (some ⟨b,0,none⟩),.int .i64 (x:Int)] wx (rG wx (nT T x))):=λx hx wx hk=>
   xw (h.keep0 hk) (hA.tree.rng hx) (hA.form x hx)
  have Z:Hid ((gG M 0 P.dropLast).2=0->(M (gG M 0 P.dropLast).1).K≠0):=λhe=>(yK hA.tree P.dropLast 0 (by rw[hA.tree.root];omega) he).1
  have Zk:Hid (∀x,(nT T x).K=(M x).K):=λx=>(hA.kind x).symm
  have Kc:Hid ((gG M 0 P.dropLast).2≠0->(gG M 0 P.dropLast).1=0):=Jy _ _;obtain⟨ue,off,rfl,c0⟩:=uv.out k (by omega);have UQ:Hid (∀wx,ay [] w wx->wx.cell? ⟨g,off+k,none⟩=some (.string (ct P))):=λwx K3=>by
   rw[hl];exact(aL (w:=w) (a:=⟨g,off+k,none⟩) (K3.block g ue (by simp))).trans c0
  have WV:Hid (∀w',ay [] w w'->dh M P=(0,1)->nW w (dh M P) (ct P) (.returned (.tuple #[.int .i64 0,.string ⟨#[]⟩,.int .i64 1])) w'):=λw' C5 z=>⟨C5,.inr ⟨by rw[z];decide,by rw[z]⟩⟩
  have J:Hid (∀w' r,ay [] w w'->(dh M P).2=r->r≠0->nW w (dh M P) (ct P) (.returned (.tuple #[.int .i64 0,.string ⟨#[]⟩,.int .i64 r])) w'):=λw' r C5 z hn=>⟨C5,.inr ⟨by rw[z];exact hn,by rw[z]⟩⟩
  have Yk:Hid (∀w' (x:Nat) nm,ay [] w w'->dh M P=(x,0)->nm=ct P->nW w (dh M P) (ct P) (.returned (.tuple #[.int .i64 (x:Int),.string nm,.int .i64 0])) w'):=λw' x nm C5 z hn=>⟨C5,.inl ⟨by rw[z],by rw[z,hn]⟩⟩
  have QS:=ar aj;rw[hk] at nz HG ⊢;unfold maxLen at nB;have ax:(((k+1:Nat):Int)==0)=false:=by simp;omega
  have xf:=eV;clear h hA hP hs k6 hl c0 h0 aj uv;generalize nW w (dh M P) (ct P)=Q at *;generalize dh M P=R at *;generalize gG M 0 P.dropLast=S at *;generalize ct P=ln at *;generalize ae:aU cB (.slice none 0 0)=Z0 at *;have AO:=ar ae;have Ja:Hid (Z0.size=18):=by show _=_;rw[<-ae];rfl
  clear ae;cases hgd:j6 P with
  |false=>
   rw[hgd] at HG;have z:R=(0,1):=by
    rcases U.out with y|y|y
    ·exact y.2
    ·exact y.2.2
    ·rw[hgd] at y;cases y.2.1
   have W:=ar (WV.out w (ay.refl _ _) z);clear hgd z U WV J Yk HW HD Z Zk Kc UQ Wz QS;go_enter Tryz.func152,Tryz.ntmps152;go_wp2_with fail;refine HG.out.mono ?_;rintro e w' ⟨rfl,rfl⟩;go_wp2_with fail
   go_ret3
   exact W.out
  |true=>
   rw[hgd] at HG;have HC:Hid ((S.2≠0/\R=S)\/(S.2=0/\(M S.1).K≠2/\R=(0,4))\/(S.2=0/\(M S.1).K=2/\R=S)):=by
    rcases U.out with y|y|y
    ·exact absurd y.1 QS.out
    ·rw[hgd] at y;cases y.2.1
    ·exact y.2.2
   obtain⟨x,ee⟩:=S;have av:IntKind.i64.wrap (k:Int)=(k:Int):=by rw[IntKind.wrap_i64];omega
   have dc:(0:Int)<=(k:Int):=by omega
   have az:(k:Int)<=(cap:Int):=by omega
   have aq:(k:Int)<((k+1:Nat):Int):=by omega
   have aw:(k:Int)<(k:Int)+1:=by omega
   clear hgd U WV Wz QS;go_enter Tryz.func152,Tryz.ntmps152;go_wp2_with fail;refine HG.out.mono ?_;rintro e w' ⟨rfl,rfl⟩;go_wp2_with fail;refine HW.out.mono ?_;rintro e w1 ⟨rfl,ak⟩;have iH:=ar ak;clear ak HW HG;by_cases he:ee=0
   ·subst he
    have ac:=ar (HD.out x (Z.out rfl) w1 iH.out);have aa:=Zk.out x;clear HD Z Zk Kc;generalize nT T x=n at *;go_wp2_with fail;refine ac.out.mono ?_;rintro e w2 ⟨WW,⟨hK,v,g1,rfl,hB,hE,ap⟩|⟨hK,rfl⟩⟩
    ·obtain⟨w3,p1,p2,p3⟩:=fF (n:=n) (v:=v) (bm.new w2 Z0 110) Ja.out hB hE.one
     have uf:=ar p1;have P9:ay [] w w3:=(iH.out.trans' WW).trans (((ay.refl [] w2).alloc _).trans p3 (by intro x hx;rw[au] at hx;omega)) (by simp);have af:Hid (∀G,ay [] w3 G->G.cell? ⟨g,off+k,none⟩=some (.string ln)):=λG hz=>UQ.out G (P9.trans' hz)
     have z:R=(x,0):=by
      rcases HC.out with y|y|y
      ·exact absurd rfl y.1
      ·exact absurd (aa.symm.trans hK) y.2.1
      ·exact y.2.2
     have W:Hid (∀G,ay [] w3 G->Q (.returned (.tuple #[.int .i64 (x:Int),.string ln,.int .i64 0])) G):=λG hz=>Yk.out G x ln (P9.trans' hz) z rfl
     clear p1 p2 p3 P9 WW hE hB ap z HC Yk J UQ aa hK ac;generalize aU n v=ZN at *;go_wp2_with(first|(with_reducible refine gS 110 uf.out ?_));refine dv (S:=λG=>ay [] w3 G) (by kernel_rfl) (by kernel_rfl) (λd _ _ _ _ h=>by cases d<;>exact h) ((ay.refl _ _).drew) (by kernel_rfl) ?_;repeat (first
      |(refine aJ.cons ?_ (ba.val rfl ?h) ?_;(case h=>(intro G hz;have q0:=af.out G hz;clear hz;go_simp;rfl));simp only[Act.put,ag,ah,ai]))
     refine aJ.done λG hz=> ?_
     have VS:=ar (W.out G hz);clear hz af W;go_wp2_with fail
     go_ret3
     exact VS.out
    ·obtain⟨w3,p1,p2,p3⟩:=fF (n:=cB) (v:= .slice none 0 0) (bm.new w2 Z0 110) Ja.out rfl rfl
     have uf:=ar p1;have P9:ay [] w w3:=(iH.out.trans' WW).trans (((ay.refl [] w2).alloc _).trans p3 (by intro x hx;rw[au] at hx;omega)) (by simp);have z:R=(0,4):=by
      rcases HC.out with y|y|y
      ·exact absurd rfl y.1
      ·exact y.2.2
      ·exact absurd (aa.trans y.2.1) hK
     have W:=ar (J.out w3 4 P9 (by rw[z]) (by omega));clear p1 p2 p3 P9 WW z HC Yk J UQ aa hK ac;go_wp2_with(first|(with_reducible refine gS 110 uf.out ?_))
     go_ret3
     exact W.out
   ·have z:R.2=ee:=by
     rcases HC.out with y|y|y
     ·rw[y.2]
     ·exact absurd y.1 he
     ·exact absurd y.1 he
    have W:=ar (J.out w1 ee iH.out z he);have aA:(ee==0)=false:=by simpa using he
    clear z HC Yk J UQ HD Z Zk Kc he;go_wp2_with fail
    go_ret3
    exact W.out
end Go.Proofs.YtcecbdeamjigiaaGreatDoor
