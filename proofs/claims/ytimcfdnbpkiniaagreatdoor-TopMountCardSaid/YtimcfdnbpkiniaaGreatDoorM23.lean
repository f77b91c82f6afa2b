/- Lemmas. -/
import Derived.Test.YtimcfdnbpkiniaaGreatDoorM22
set_option maxHeartbeats 1000000
namespace Go.Proofs.YtimcfdnbpkiniaaGreatDoor
open Go.RowKit
variable{B X Y c:List Int}{T:List (bT×Value)}{own:Nat->List Nat}{ex l z:List Nat}{M:Nat->Nd}{i k m:Nat}{n n':bT}
theorem mN.putOver(h:mN X T own ex M){i:Nat}(hi:(M i).K≠0){n:bT}(hB:n.B.length=13)(hR:ct n){r:Int}{qs:List (Int×Int)}(hp:nU X (i:Int) n r qs){ex':List Nat}
  (V:∀b,b<256->(dn n).count b+ex'.count b=(dn (nT T i)).count b+ex.count b) (hx:∀c∈ex',c≠0/\c<256) (ht:jX X n) (hM:dw (nu M i (tH X n))):
  (r=7/\qs=[]/\(aZ X).length+(own i).length<dx n)\/(r=0/\∃cX,mN (az X qs) (nW T i n) cX ex' (nu M i (tH X n))/\pd X (az X qs) (own i)/\(aZ (az X qs)).length+dx n=(aZ X).length+(own i).length/\(∀k,k<816->(az X qs).getD k 0=X.getD k 0)/\
   (∀p∈qs,(816<=p.1.toNat/\p.1.toNat<820)\/(824+8*i<=p.1.toNat/\p.1.toNat<824+8*i+8)\/(1080<=p.1.toNat/\(p.1.toNat-1080)/8∈cX i))/\(cX i).length=dx n):=by
 have z:=h.tree.rng hi;have U:eH X (i:Int) (nT T i) (own i):=by
  rcases h.st.each z with ⟨-,G⟩|⟨G,-,-⟩
  ·exact G
  ·exact absurd ((h.free z).1 G) hi
 have aa:(own i).Nodup:=U.nodup;have af:(aZ (az X (cm X (own i)))).length=(aZ X).length+(own i).length:=
  sA U.mem aa (λc V=>h.st.used z (bV _ V)) λc V ae=>(iB (own i) X h.st.w64 h.st.len).2.1 c V ae
 rcases hp.over U with ⟨-,G,-⟩|⟨G,-,h2,h3⟩|⟨G,-,h2,h3⟩
 ·exact absurd hR G
 ·exact .inl ⟨G,h3,by omega⟩
 ·right
  rw[aG] at h3;subst h3;obtain⟨p1,p2,p3,p4⟩:=h.st.put z hB hR h2 V hx ht;refine⟨G,_,⟨p1,λj=> ?_,hM⟩,p2,p3,p4,λp hp=> ?_,?_⟩
  ·have hn:tH (az X (mj X i n (own i))) n=tH X n:=by
    have ac:∀c∈dn n,c≠0/\c<256/\dG X c=true/\c∉own i:=λc J=>by
     have h4:=qC hB hR c J;have h5:=V c h4.2;have h6:0<(dn n).count c:=List.count_pos_iff.2 J;rcases dZ (ex.count c) with h7|h7
     ·have W:c∈dn (nT T i):=List.count_pos_iff.1 (by omega)
      exact⟨h4.1,h4.2,h.st.used z (bX _ W),λh9=>h.st.inner z h9 W⟩
     ·have W:c∈ex:=List.count_pos_iff.1 h7
      exact⟨h4.1,h4.2,h.st.usedEx W,λh9=>h.st.apartEx z (bV _ h9) W⟩
    exact BQ hB (λhK=>(tI hR hK).2) λc J k hk=>by
     have :=ac c J;exact p2 c this.2.1 this.1 this.2.2.1 this.2.2.2 k hk
   have :=h.st.nodesUp h.abs p2 z (λj _=>h.st.filesOwn z j) n j;rw[hn] at this;exact this
  ·have :=zb z hR (own:=own i) rfl h2 hp
   rw[I7,aB rfl];exact this
  ·rw[I7,aB rfl]
   exact uj h2
theorem Zp (X:List Int)(n:bT)(f:Int):tH X { n with F:=f }=tH X n:=rfl
theorem Zq{n:Nd}(h:n=M i):nu M i n=M:=by
 funext j
 unfold nu;split
 ·next e=>rw[e,h]
 ·rfl
theorem mN.heads{G:List Nat}(h:mN X T own G M){qs:List (Int×Int)}(hq:∀p∈qs,p.1=1\/p.1=2)(z:In64 (az X qs))(J:lu (az X qs)):
  mN (az X qs) T own G M/\aZ (az X qs)=aZ X:=by
 obtain⟨U,W,V⟩:=h.st.heads hq z J;exact⟨⟨U,λj=>by rw[h.abs,h.st.nodes W (by simp)],h.tree⟩,V⟩
theorem OH (h:lu X)(U:X.length=3128){f:Int}(J:f=1\/f=2):lu (az X [(1,f),(2,0)]):=by
 have e:az X [(1,f),(2,0)]=(X.set 1 f).set 2 0:=rfl;rw[e];have g:∀k,((X.set 1 f).set 2 0).getD k 0=if 2=k then 0 else if 1=k then f else X.getD k 0:=λk=>by
  rw[jl _ _ _ _ (by rw[cY];omega),jl _ _ _ _ (by omega)]
 refine⟨by rw[g];exact h.1,by rw[g];exact J,by rw[g,aB rfl];omega,λi z G=> ?_,λi z G=> ?_⟩
 ·rw[g,aA,aA];exact h.2.2.2.1 i z G
 ·rw[g,aA,aA];exact h.2.2.2.2 i z G
theorem BV (h:lu X)(U:X.length=3128){c:Int}(J:c<=32):lu (az X [(2,c)]):=by
 have e:az X [(2,c)]=X.set 2 c:=rfl;rw[e];have g:∀k,(X.set 2 c).getD k 0=if 2=k then c else X.getD k 0:=λk=>by rw[jl _ _ _ _ (by omega)]
 refine⟨by rw[g];exact h.1,by rw[g];exact h.2.1,by rw[g];exact J,λi z G=> ?_,λi z G=> ?_⟩
 ·rw[g,aA];exact h.2.2.2.1 i z G
 ·rw[g,aA];exact h.2.2.2.2 i z G
theorem ach{U:List Nat}(h:mN X T own U M){f r:Int}{qs:List (Int×Int)}(W:Dk X f r qs):
  (r=1/\¬(f=1\/f=2)/\qs=[])\/(r=0/\(f=1\/f=2)/\mN (az X qs) T own U M/\aZ (az X qs)=aZ X/\∀k,3<=k->(az X qs).getD k 0=X.getD k 0):=by
 rcases W with G|⟨G,J,⟨-,rfl⟩|⟨-,rfl⟩⟩
 ·exact .inl G
 ·exact .inr ⟨G,J,h,rfl,λ_ _=>rfl⟩
 ·right
  have h3:In64 (az X [(1,f),(2,0)]):=h.st.w64.put λp z=>by
   simp only[aL,aK,bC] at z;rcases z with rfl|rfl<;>dsimp only <;>omega
  obtain⟨V,h5⟩:=h.heads (qs:=[(1,f),(2,0)]) (by simp) h3 (OH h.st.sup h.st.len J);exact⟨G,J,V,h5,λk hk=>dX _ _ _ λp z=>by
   simp only[aL,aK,bC] at z;rcases z with rfl|rfl
   ·show(1:Int).toNat≠k;rw[show(1:Int).toNat=1 from rfl];omega
   ·show(2:Int).toNat≠k;rw[show(2:Int).toNat=2 from rfl];omega⟩
theorem Zr (h:mN X T own ex M){r:Int}{qs:List (Int×Int)}(hs:rh X T r qs):
  (r=7/\qs=[]/\(aZ X).length<32)\/(r=0/\∃T' cX,mN (az X qs) T' cX ex M/\(∀k,8<=k->k<816->(az X qs).getD k 0=X.getD k 0)/\∃L:List Nat,L.length<=300/\∀k,k<3128->(az X qs).getD k 0≠X.getD k 0->k∈L):=by
 rcases hs with ⟨-,V,rfl⟩|⟨c,hc,Hs,⟨-,V,rfl⟩|⟨⟨hf,hF⟩,r',G,z,hr⟩⟩
 ·exact .inr ⟨V,T,own,h,λ_ _ _=>rfl,[],by simp,λk _ U=>absurd rfl U⟩
 ·have h3:In64 (az X [(2,(c:Int)+1)]):=h.st.w64.put λp z=>by rw[au] at z;subst z;dsimp only;omega
  obtain⟨h4,h5⟩:=h.heads (qs:=[(2,(c:Int)+1)]) (by simp) h3 (BV h.st.sup h.st.len (by omega));have ho:∀k,k≠2->(az X [(2,(c:Int)+1)]).getD k 0=X.getD k 0:=λk U=>dX _ _ _ λp z=>by rw[au] at z;subst z;show(2:Int).toNat≠k;rw[show(2:Int).toNat=2 from rfl];omega
  exact .inr ⟨V,T,own,h4,λk U _=>ho k (by omega),[2],by simp,λk _ U=>by
   by_cases e:k=2
   ·rw[e];simp
   ·exact absurd (ho k e) U⟩
 ·have ag:(M c).K≠0:=λe=>hf ((h.free Hs).2 e)
  have W:eH X (c:Int) (nT T c) (own c):=by
   rcases h.st.each Hs with ⟨-,V⟩|⟨V,-,-⟩
   ·exact V
   ·exact absurd V hf
  have ht:=h.st.sup.2.1;have hR:ct { nT T c with F:=X.getD 1 0 }:=⟨ht,W.right.2⟩;have J:tH X { nT T c with F:=X.getD 1 0 }=M c:=by rw[Zp,h.abs]
  have hM:dw (nu M c (tH X { nT T c with F:=X.getD 1 0 })):=by rw[Zq J];exact h.tree
  rcases h.putOver ag (n:={ nT T c with F:=X.getD 1 0 }) W.len hR z (ex':=ex) (λb _=>rfl) h.st.exr (h.st.tails c Hs) hM with ⟨q1,q2,q3⟩|⟨q1,cX,q2,q3,q4,q5,q6,q7⟩
  ·rcases hr with ⟨-,r2,r3⟩|⟨r1,-,-⟩
   ·have :=vA hR
    exact .inl ⟨by omega,by rw[r3,q2],by omega⟩
   ·omega
  ·rcases hr with ⟨r1,-,-⟩|⟨-,r2,r3⟩
   ·exact absurd q1 r1
   ·subst r3
    rw[Zq J] at q2;have h3:In64 (az (az X G) [(2,(c:Int)+1)]):=q2.st.w64.put λp z=>by rw[au] at z;subst z;dsimp only;omega
    obtain⟨h4,h5⟩:=q2.heads (qs:=[(2,(c:Int)+1)]) (by simp) h3 (BV q2.st.sup q2.st.len (by omega));have ho:∀k,k≠2->(az (az X G) [(2,(c:Int)+1)]).getD k 0=(az X G).getD k 0:=λk U=>dX _ _ _ λp z=>by rw[au] at z;subst z;show(2:Int).toNat≠k;rw[show(2:Int).toNat=2 from rfl];omega
    rw[bz];refine .inr ⟨r2,_,_,h4,λk U ae=>by rw[ho k (by omega),q5 k ae],[2,816,817,818,819]++(List.range 8).map (824+8*c+·)++(cX c).flatMap (λb=>(List.range 8).map (1080+8*b+·)),?_,λk U aa=> ?_⟩
    ·have hl:=vA hR
     have ac:∀l:List Nat,(l.flatMap (λb=>(List.range 8).map (1080+8*b+·))).length=8*l.length:=by
      intro l;induction l with
      |nil=>rfl
      |cons b l ih=>rw[List.flatMap_cons,aC,ih];simp;omega
     rw[aC,aC,ac];simp;omega
    ·by_cases e2:k=2
     ·rw[e2];simp
     ·rw[ho k e2] at aa
      have af:∃p∈G,p.1.toNat=k:=by
       by_cases hh:∃p∈G,p.1.toNat=k
       ·exact hh
       ·exact absurd (dX _ _ _ λp z e=>hh ⟨p,z,e⟩) aa
      obtain⟨p,z,e⟩:=af;simp only[aT,aL,aK,bC,bH,b7,List.mem_flatMap];rcases q6 p z with h6|h6|h6
      ·left;left;omega
      ·left;right;exact⟨k-(824+8*c),by omega,by omega⟩
      ·right;exact⟨(p.1.toNat-1080)/8,h6.2,(p.1.toNat-1080)%8,by omega,by omega⟩
def og (X Y:List Int) (n:Nat):Prop:=∃L:List Nat,L.length<=n/\∀k,k<3128->Y.getD k 0≠X.getD k 0->k∈L
theorem og.refl(X:List Int)(n:Nat):og X X n:=⟨[],by simp,λ_ _ h=>absurd rfl h⟩
theorem og.trans{Z:List Int}{n:Nat}(h:og X Y n)(k:og Y Z m):og X Z (n+m):=by
 obtain⟨L,W,J⟩:=h;obtain⟨K,V,U⟩:=k;refine⟨L++K,by rw[aC];omega,λi G z=> ?_⟩;rw[aT];by_cases e:Y.getD i 0=X.getD i 0
 ·exact .inr (U i G (by rw[e];exact z))
 ·exact .inl (J i G e)
theorem og.mono{n:Nat}(h:og X Y n)(G:n<=m):og X Y m:=by
 obtain⟨L,J,z⟩:=h;exact⟨L,by omega,z⟩
theorem og.puts{qs:List (Int×Int)}{L:List Nat}{n:Nat}(U:L.length<=n)(h:∀p∈qs,p.1.toNat∈L):og X (az X qs) n:=by
 refine⟨L,U,λk _ G=> ?_⟩;by_cases J:∃p∈qs,p.1.toNat=k
 ·obtain⟨p,z,e⟩:=J
  rw[<-e];exact h p z
 ·exact absurd (dX _ _ _ λp z e=>J ⟨p,z,e⟩) G
def uy:List Nat:=[816,817,818,819]
def Es (l:List Nat):List Nat:=l.flatMap (λb=>(List.range 8).map (1080+8*b+·))
theorem vJ:∀l:List Nat,(Es l).length=8*l.length
 | []=>rfl
 |b::l=>by
  have :=vJ l;unfold Es at this ⊢;rw[List.flatMap_cons,aC,this];simp;omega
theorem sF (h:816<=k/\k<820):k∈uy:=by
 unfold uy;simp;omega
theorem zh (z:1080<=k)(h:(k-1080)/8∈l):k∈Es l:=by
 unfold Es;rw[List.mem_flatMap];refine⟨_,h,?_⟩;rw[bH];exact⟨(k-1080)%8,by simp;omega,by omega⟩
theorem Ht (h:824+8*i<=k/\k<824+8*i+8):k∈(List.range 8).map (824+8*i+·):=by
 rw[bH];exact⟨k-(824+8*i),by simp;omega,by omega⟩
structure nL (X:List Int) (T:List (bT×Value)) (own:Nat->List Nat) (ex:List Nat) (M:Nat->Nd):Prop where
 st:StX X T own ex
 abs:∀i,M i=tH X (nT T i)
theorem mN.nd(h:mN X T own z M):nL X T own z M:=⟨h.st,h.abs⟩
theorem nL.snd(h:nL X T own z M)(t:dw M):mN X T own z M:=⟨h.st,h.abs,t⟩
section
variable {X:List Int} {T:List (bT×Value)} {own:Nat->List Nat} {ex:List Nat} {M:Nat->Nd}
theorem nL.free(h:nL X T own ex M){i:Nat}(V:i<32):dS X (i:Int)↔(M i).K=0:=by
 rw[h.abs];show _↔(nT T i).K=0;rcases h.st.each V with ⟨G,z⟩|⟨G,z,-⟩
 ·refine⟨λJ=>absurd J z.notFree,λJ=> ?_⟩
  rcases z.right.2.2 with U|U<;>omega
 ·exact⟨λ_=>by rw[z];rfl,λ_=>G⟩
theorem nL.out(h:nL X T own ex M){i:Nat}(z:32<=i):M i=vU:=by rw[h.abs,h.st.gots.zero z];rfl
theorem nL.rng(h:nL X T own ex M){i:Nat}(G:(M i).K≠0):i<32:=by
 rcases dE i 32 with z|z
 ·exact z
 ·exact absurd (by rw[h.out z];rfl) G
theorem nL.store(h:nL X T own ex M){i:Nat}(z:(M i).K≠0):eH X (i:Int) (nT T i) (own i):=by
 rcases h.st.each (h.rng z) with ⟨-,G⟩|⟨G,-,-⟩
 ·exact G
 ·exact absurd ((h.free (h.rng z)).1 G) z
theorem nL.none(h:nL X T own ex M){i:Nat}(G:i<32)(J:(M i).K=0):nT T i=ck/\own i=[]:=by
 rcases h.st.each G with ⟨-,z⟩|⟨-,z⟩
 ·exact absurd ((h.free G).2 J) z.notFree
 ·exact z
theorem nL.kind(h:nL X T own ex M)(i:Nat):(nT T i).K=(M i).K:=by rw[h.abs];rfl
theorem nL.links(h:nL X T own ex M)(i:Nat):(nT T i).L=(M i).L:=by rw[h.abs];rfl
theorem nL.ents(h:nL X T own ex M)(i:Nat):(nT T i).E=(M i).E:=by rw[h.abs];rfl
theorem nL.putAt(h:nL X T own ex M){i:Nat}(G:i<32){n:bT}(hB:n.B.length=13)(hR:ct n)(h2:dx n<=(aZ (az X (cm X (own i)))).length){ex':List Nat}
  (hc:∀b,b<256->(dn n).count b+ex'.count b=(dn (nT T i)).count b+ex.count b) (hx:∀c∈ex',c≠0/\c<256) (ht:jX X n):
  ∃cX,nL (az X (mj X i n (own i))) (nW T i n) cX ex' (nu M i (tH X n))/\pd X (az X (mj X i n (own i))) (own i)/\(aZ (az X (mj X i n (own i)))).length+dx n=(aZ X).length+(own i).length/\(∀k,k<816->(az X (mj X i n (own i))).getD k 0=X.getD k 0)/\
   og X (az X (mj X i n (own i))) (12+8*dx n)/\(cX i).length=dx n/\∀j,j≠i->cX j=own j:=by
 obtain⟨p1,p2,p3,p4⟩:=h.st.put G hB hR h2 hc hx ht;have W:((aZ (az X (cm X (own i)))).take (dx n)).length=dx n:=by rw[aJ];omega
 refine⟨_,⟨p1,λj=> ?_⟩,p2,p3,p4,?_,by rw[I7,aB rfl];exact W,λj hj=>by rw[I7,aA hj]⟩
 ·have hn:tH (az X (mj X i n (own i))) n=tH X n:=by
   have aa:∀c∈dn n,c≠0/\c<256/\dG X c=true/\c∉own i:=λc z=>by
    have V:=qC hB hR c z;have h5:=hc c V.2;have J:0<(dn n).count c:=List.count_pos_iff.2 z;rcases dZ (ex.count c) with h7|h7
    ·have U:c∈dn (nT T i):=List.count_pos_iff.1 (by omega)
     exact⟨V.1,V.2,h.st.used G (bX _ U),λh9=>h.st.inner G h9 U⟩
    ·have U:c∈ex:=List.count_pos_iff.1 h7
     exact⟨V.1,V.2,h.st.usedEx U,λh9=>h.st.apartEx G (bV _ h9) U⟩
   exact BQ hB (λhK=>(tI hR hK).2) λc z k hk=>by
    have :=aa c z;exact p2 c this.2.1 this.1 this.2.2.1 this.2.2.2 k hk
  have :=h.st.nodesUp h.abs p2 G (λj _=>h.st.filesOwn G j) n j;rw[hn] at this;exact this
 ·refine og.puts (L:=uy++((List.range 8).map (824+8*i+·)++Es ((aZ (az X (cm X (own i)))).take (dx n)))) ?_ λp hp=> ?_
  ·rw[aC,aC,vJ,W]
   simp[uy];omega
  ·rw[aT,aT]
   rcases zb G hR (own:=own i) rfl h2 hp with J|J|J
   ·exact .inl (sF J)
   ·exact .inr (.inl (Ht J))
   ·exact .inr (.inr (zh J.1 J.2))
theorem nL.freeGive(h:nL X T own ex M){i:Nat}(U:i<32):(aZ (az X (cm X (own i)))).length=(aZ X).length+(own i).length:=by
 rcases h.st.each U with ⟨-,z⟩|⟨-,-,e⟩
 ·exact sA z.mem z.nodup (λc G=>h.st.used U (bV _ G)) λc G J=>(iB (own i) X h.st.w64 h.st.len).2.1 c G J
 ·rw[e];rfl
theorem nL.put(h:nL X T own ex M){i:Nat}(hi:(M i).K≠0){n:bT}(hB:n.B.length=13)(hR:ct n){r:Int}{qs:List (Int×Int)}(hp:nU X (i:Int) n r qs){ex':List Nat}
  (hc:∀b,b<256->(dn n).count b+ex'.count b=(dn (nT T i)).count b+ex.count b) (hx:∀c∈ex',c≠0/\c<256) (ht:jX X n):
  (r=7/\qs=[]/\(aZ X).length+dx (nT T i)<dx n)\/(r=0/\∃V,nL (az X qs) (nW T i n) V ex' (nu M i (tH X n))/\pd X (az X qs) (own i)/\(aZ (az X qs)).length+dx n=(aZ X).length+dx (nT T i)/\(∀k,k<816->(az X qs).getD k 0=X.getD k 0)/\
   og X (az X qs) (12+8*dx n)):=by
 have jD:=h.rng hi;have z:=h.store hi;have U:=h.freeGive jD;rw[z.ownLen] at U;rcases hp.over z with ⟨-,G,-⟩|⟨G,-,W,J⟩|⟨G,-,W,J⟩
 ·exact absurd hR G
 ·exact .inl ⟨G,J,by omega⟩
 ·right
  rw[aG] at J;subst J;obtain⟨V,p1,p2,p3,p4,p5,-,-⟩:=h.putAt jD hB hR W hc hx ht;rw[z.ownLen] at p3;exact⟨G,V,p1,p2,p3,p4,p5⟩
theorem nL.new(h:nL X T own ex M){n:bT}(hB:n.B.length=13)(hR:ct n)(hn:dx n=0)(hf:dn n=[])(ht:jX X n){i r:Int}{qs:List (Int×Int)}(hp:ab1 X n i r qs):
  (r=7/\qs=[]/\vE M=Option.none)\/(r=0/\∃j:Nat,i=(j:Int)/\vE M=some j/\j<32/\(M j).K=0/\∃cX,nL (az X qs) (nW T j n) cX ex (nu M j (tH X n))/\(aZ (az X qs)).length=(aZ X).length/\(∀k,k<816->(az X qs).getD k 0=X.getD k 0)/\og X (az X qs) 12):=by
 rcases hp with ⟨V,-,z,W⟩|⟨j,J,U,ae,V⟩
 ·refine .inl ⟨V,W,?_⟩
  unfold vE;rw[List.find?_eq_none];intro k G;rw[b7] at G;have :=(h.free G).2;simp;exact λe=>z k G (this e)
 ·have Ci:=(h.free J).1 U
  have aa:vE M=some j:=by
   unfold vE;rw[List.find?_range_eq_some];refine⟨by simpa using Ci,by simpa using J,λk G=> ?_⟩;have :=(h.free (i:=k) (by omega)).2;simp;exact λe=>ae k G (this e)
  obtain⟨e1,e2⟩:=h.none J Ci;rcases V with ⟨-,-,z,-⟩|⟨-,-,-,z,-⟩|⟨z,W,-,h4,h5⟩
  ·exact absurd hR z
  ·omega
  ·right
   subst h5;have ac:dx n<=(aZ (az X (cm X (own j)))).length:=by omega
   obtain⟨cX,p1,-,p3,p4,p5,-,-⟩:=h.putAt J hB hR ac (ex':=ex) (λb _=>by rw[hf,e1];rfl) h.st.exr ht;rw[e2] at p1 p3 p4 p5;rw[hn] at p3 p5;exact⟨z,j,W,aa,J,Ci,cX,p1,by simpa using p3,p4,p5⟩
theorem nL.drop(h:nL X T own ex M){i:Nat}(W:(M i).K≠0){r:Int}{qs:List (Int×Int)}(J:NZ X (i:Int) r qs):
  r=0/\∃cX,nL (az X qs) (nW T i ck) cX ex (nu M i vU)/\(aZ X).length<=(aZ (az X qs)).length/\(∀k,k<816->(az X qs).getD k 0=X.getD k 0)/\og X (az X qs) 12:=by
 have V:=h.rng W;have G:=h.store W;rcases J with ⟨-,z,-⟩|⟨-,-,z,-⟩|⟨-,-,-,z,-⟩|⟨z,n,o,hs,h2⟩
 ·exact absurd ⟨by omega,by omega⟩ z
 ·exact absurd z G.notFree
 ·exact absurd G (z _ _)
 ·obtain⟨e1,e2⟩:=G.uniq hs
  subst e1 e2;rw[aG] at h2;subst h2;obtain⟨p1,p2,p3,p4⟩:=h.st.drop V;refine⟨z,_,⟨p1,λj=> ?_⟩,by omega,p4,?_⟩
  ·exact h.st.nodesUp h.abs p2 V (λj _ c _=>by simp) ck j
  ·refine og.puts (L:=uy++(List.range 8).map (824+8*i+·)) (by simp[uy]) λp J=> ?_
   rw[aT];rcases aT.1 J with U|U
   ·exact .inl (sF (tG _ _ _ U))
   ·obtain⟨j,hj,h4,-⟩:=mh U
    exact .inr (Ht (by omega))
end
theorem Tk:∀E:List (ByteArray×Int),(eB E 0).length+(eB E 1).length+(eB E 2).length+(eB E 3).length=E.length
 | []=>rfl
 |p::E=>by
  have J:=Tk E;have G:=Qo p;have z:∀b,(eB (p::E) b).length=(eB E b).length+(if K4 p=b then 1 else 0):=λb=>by
   unfold eB;rw[fE];by_cases h:K4 p=b
   ·simp[h]
   ·simp[h]
  rw[z,z,z,z,cu];rcases (show K4 p=0\/K4 p=1\/K4 p=2\/K4 p=3 by omega) with h|h|h|h<;>rw[h]<;>simp<;>omega
theorem nJ (n:bT):eW n=(if 6<(fw n.B).length then 1 else 0)+((eB n.E 0).length+2)/3+((eB n.E 1).length+2)/3+((eB n.E 2).length+2)/3+((eB n.E 3).length+2)/3:=rfl
theorem Rm (z:ct n):n.E.length<=24:=by
 rcases z.2.2 with ⟨-,h⟩|⟨-,h⟩
 ·have :=h.2.1;omega
 ·exact h.1
theorem sG (h:ct n):dx n<=11:=by
 have G:=NT h;have U:=Rm h;have J:=Tk n.E;have z:=nJ n;unfold dx;split
 ·rw[z];split<;>omega
 ·omega
theorem VP (hF:n'.F=n.F)(J:n'.B=n.B)(z:∀b,(eB n'.E b).length<=(eB n.E b).length)(hl:n'.E.length<=n.E.length):dx n'<=dx n:=by
 have W:=z 0;have V:=z 1;have h2:=z 2;have h3:=z 3;unfold dx;rw[hF];split
 ·rw[nJ,nJ,J];omega
 ·unfold eY bp
  rw[J];by_cases G:n.B.drop 5≠List.replicate 8 0
  ·rw[aB (.inr G),aB (.inr G)];omega
  ·by_cases U:5<(n'.E.length+3)/4
   ·rw[aB (.inl U),aB (.inl (by omega))];omega
   ·rw[aA (λh=>h.elim U G)]
    split<;>omega
theorem LU (A B:List (ByteArray×Int))(b:Nat):eB (A++B) b=eB A b++eB B b:=eJ ..
theorem VQ{A M B:List (ByteArray×Int)}(h:n.E=A++(M++B)):dx (lA n (A++B))<=dx n:=by
 refine VP rfl rfl (λb=> ?_) ?_
 ·show(eB (A++B) b).length<=_
  rw[h,LU,LU,LU,aC,aC,aC];omega
 ·show(A++B).length<=_
  rw[h];simp
theorem BX {l l':List Int}:∀k,(∀j,j<k->sP l' j->sP l j)->(gD l' k).length<=(gD l k).length
 |0,_=>by simp[gD]
 |k+1,h=>by
  have G:=BX (l:=l) (l':=l') k λj J=>h j (by omega)
  unfold gD;by_cases z:sP l' k
  ·rw[aB z,aB (h k (by omega) z)]
   simp;omega
  ·rw[aA z]
   split
   ·simp;omega
   ·exact G
theorem VR{c:Nat}(hF:n'.F=n.F)(hE:n'.E=n.E)(W:n'.B.length=13)(G:∀k,n'.B.getD k 0=if k<c then n.B.getD k 0 else 0):dx n'<=dx n:=by
 unfold dx;rw[hF];split
 ·rw[nJ,nJ,hE]
  have :=BX (l:=n.B) (l':=n'.B) 13 λj hj hs=>by
   obtain⟨h,h2⟩:=hs;by_cases V:j<c
   ·rw[G,aB V] at h
    refine⟨h,λJ=>h2 ?_⟩;obtain⟨a1,a2,a3,a4,a5⟩:=J;unfold mg;rw[G,G,aB V,aB (by omega:j-1<c)];exact⟨a1,a2,a3,a4,a5⟩
   ·rw[G,aA V] at h
    unfold DZ at h;omega
  unfold fw;split
  ·next h6=>rw[aB];omega
  ·omega
 ·unfold eY
  rw[hE];by_cases z:n.B.drop 5≠List.replicate 8 0
  ·rw[aB (c:=5<bp n.E.length\/n.B.drop 5≠List.replicate 8 0) (.inr z)]
   split<;>omega
  ·have z:n.B.drop 5=List.replicate 8 0:=by simpa using z
   have U:n'.B.drop 5=List.replicate 8 0:=by
    apply cV
    ·simp[W]
    ·intro k h h2
     have J:=G (5+k);have h4:(n.B.drop 5).getD k 0=0:=by
      rw[z,aj,bj];split<;>rfl
     rw[bM] at h;have h5:n'.B[5+k]'(by omega)=n'.B.getD (5+k) 0:=by simp[show 5+k<n'.B.length by omega]
     have h6:(n.B.drop 5).getD k 0=n.B.getD (5+k) 0:=by simp
     rw[List.getElem_drop,h5,J,List.getElem_replicate];split
     ·omega
     ·rfl
   rw[z,U];exact aH _
theorem Hu (hF:n'.F=n.F)(z:n'.E=n.E)(h:n'.B=n.B):dx n'=dx n:=by
 unfold dx eY;rw[hF,nJ,nJ,z,h]
theorem VS{a b:ByteArray}(h:J2 a b):leB b a=false:=by
 have G:¬J2 b a:=λz=>mH _ (vC h z)
 have z:b≠a:=λe=>by subst e;exact mH _ h
 unfold leB;rw[Bool.or_eq_false_iff];refine⟨?_,?_⟩
 ·cases h3:Op.bytesLess b.toList a.toList
  ·rfl
  ·exact absurd h3 G
 ·cases h3:(b.toList==a.toList)
  ·rfl
  ·exact absurd (J3 (by simpa using h3)) z
def Je (E:List (ByteArray×Int)):Prop:=E.length<=24/\(∀e∈E,iu (bl e.1)=true/\0<=e.2/\e.2<32)/\yq E
theorem Tm{E:List (ByteArray×Int)}(h:Je E):∀k,k<E.length->ED E k:=λk z=>by
 have G:eX E k=E[k].1:=by simp[eX,z]
 have U:jm E k=E[k].2:=by simp[jm,z]
 obtain⟨J,h2,h3⟩:=h.2.1 E[k] (bF z);refine⟨by rw[G];exact J,by rw[U];omega,λW=> ?_⟩;have V:eX E (k-1)=(E[k-1]'(by omega)).1:=by simp[eX,show k-1<E.length by omega]
 rw[G,V];exact VS (dg.1 h.2.2 (k-1) k (by omega) z (by omega))
theorem aeK (W:ct n)(hK:n.K=2):Je n.E:=by
 rcases W.2.2 with ⟨h,-⟩|⟨-,h⟩
 ·omega
 ·refine⟨h.1,λe U=> ?_,J4 h⟩
  obtain⟨k,z,rfl⟩:=bW U;have G:=h.2.2.2 k z;have V:eX n.E k=n.E[k].1:=by simp[eX,z]
  have J:jm n.E k=n.E[k].2:=by simp[jm,z]
  rw[ED,V,J] at G;exact⟨G.1,by omega,by omega⟩
theorem Km (z:ct n)(U:n.K=2){E:List (ByteArray×Int)}(h:Je E):ct (lA n E):=by
 rcases z.2.2 with ⟨G,-⟩|⟨G,J⟩
 ·omega
 ·exact⟨z.1,z.2.1,.inr ⟨G,h.1,rfl,J.2.2.1,Tm h⟩⟩
section
variable {X:List Int} {T:List (bT×Value)} {own:Nat->List Nat} {ex:List Nat} {M:Nat->Nd}
theorem nL.node(h:nL X T own ex M){i:Nat}(z:(M i).K=2):(M i).D=[]:=by
 have e:=h.abs i;have G:=h.kind i;rw[e];show(if (nT T i).K=1 then _ else [])=[];rw[aA]
theorem nL.ed(h:nL X T own ex M){d:Nat}(z:(M d).K=2):Je (M d).E:=by
 rw[<-h.ents];exact aeK (h.store (by omega)).right (by rw[h.kind];exact z)
def Goes (X:List Int) (qs:List (Int×Int)) (ex:List Nat) (M':Nat->Nd) (n:Nat):Prop:=
 ∃z h,nL (az X qs) z h ex M'/\(∀k,k<816->(az X qs).getD k 0=X.getD k 0)/\og X (az X qs) n
theorem nL.edit(h:nL X T own ex M){d:Nat}(V:(M d).K=2){E:List (ByteArray×Int)}(hE:Je E){r:Int}{qs:List (Int×Int)}(hp:nU X (d:Int) (lA (nT T d) E) r qs):
  (r=7/\qs=[]/\(aZ X).length+dx (nT T d)<dx (lA (nT T d) E))\/(r=0/\Goes X qs ex (oM M d E) 100/\(aZ (az X qs)).length+dx (lA (nT T d) E)=(aZ X).length+dx (nT T d)):=by
 have z:=h.store (i:=d) (by omega);have J:(nT T d).K=2:=by rw[h.kind];exact V
 have W:=Km z.right J hE;have hn:tH X (lA (nT T d) E)={ M d with E:=E }:=by
  unfold tH;have U:(lA (nT T d) E).K=(M d).K:=h.kind d;have e2:(lA (nT T d) E).L=(M d).L:=h.links d;rw[U,e2,aA];show({ K:=(M d).K,L:=(M d).L,D:=[],E:=E }:Nd)={ K:=(M d).K,L:=(M d).L,D:=(M d).D,E:=E };rw[h.node V]
 rcases h.put (i:=d) (by omega) (n:=lA (nT T d) E) z.len W hp (ex':=ex) (λb _=>rfl) h.st.exr (λG=>by
   have U:(lA (nT T d) E).K=(M d).K:=h.kind d;omega) with G|⟨G,cX,p1,-,p3,p4,p5⟩
 ·exact .inl G
 ·rw[hn] at p1
  exact .inr ⟨G,⟨_,_,p1,p4,p5.mono (by have :=sG W;omega)⟩,p3⟩
def wT (E:List (ByteArray×Int)) (nm:ByteArray) (i:Int):List (ByteArray×Int):=xA (iY E nm) (nm,i)
theorem VT {E A M B:List (ByteArray×Int)}{nm:ByteArray}(h:iO E A M B nm):iO (iY E nm) A [] B nm:=⟨by rw[tF h];rfl,h.ahead,h.behind,.inl rfl⟩
theorem AQ {E A M B:List (ByteArray×Int)}{nm:ByteArray}(h:iO E A M B nm)(i:Int):wT E nm i=A++([(nm,i)]++B):=AL (VT h) i
theorem Zu {E:List (ByteArray×Int)}(h:Je E)(nm:ByteArray):Je (iY E nm):=
 ⟨cG (vF _ _) h.1,λe z=>h.2.1 e (pV z),h.2.2.sublist List.filter_sublist⟩
theorem Zv {E:List (ByteArray×Int)}(h:Je E){nm:ByteArray}{i:Int}(V:(wT E nm i).length<=24)(J:iu (bl nm)=true)(G:0<=i/\i<32):Je (wT E nm i):=by
 refine⟨V,λe W=> ?_,?_⟩
 ·rcases Hj W with rfl|U
  ·exact⟨J,G.1,G.2⟩
  ·exact h.2.1 e (pV U)
 ·obtain⟨A,M,B,z⟩:=lJ h.2.2 nm
  rw[AQ z];exact z.rises h.2.2 _ (.inr ⟨i,rfl⟩)
def tK (X:List Int) (ex:List Nat) (M:Nat->Nd) (d:Nat) (nm:ByteArray) (i:Int) (r:Int) (qs:List (Int×Int)):Prop:=
 (r=7/\qs=[]/\(24<(wT (M d).E nm i).length\/(aZ X).length<11))\/(r=0/\(wT (M d).E nm i).length<=24/\Goes X qs ex (oM M d (wT (M d).E nm i)) 100)
theorem nL.enter(h:nL X T own ex M){d:Nat}(G:(M d).K=2){nm:ByteArray}{i:Int}(W:iu (bl nm)=true)(hi:0<=i/\i<32)(U:(wT (M d).E nm i).length<=24){r:Int}{qs:List (Int×Int)}(hp:nU X (d:Int) (lA (nT T d) (wT (M d).E nm i)) r qs):tK X ex M d nm i r qs:=by
 have V:=Zv (h.ed G) U W hi;rcases h.edit G V hp with ⟨z,J,h3⟩|⟨z,J,-⟩
 ·refine .inl ⟨z,J,.inr ?_⟩
  have :=sG (Km (h.store (i:=d) (by omega)).right (by rw[h.kind];exact G) V);omega
 ·exact .inr ⟨z,U,J⟩
def AR (X:List Int) (ex:List Nat) (M:Nat->Nd) (d:Nat) (nm:ByteArray) (r:Int) (qs:List (Int×Int)):Prop:=
 r=0/\Goes X qs ex (oM M d (iY (M d).E nm)) 100/\(aZ X).length<=(aZ (az X qs)).length
theorem nL.leave(h:nL X T own ex M){d:Nat}(z:(M d).K=2){nm:ByteArray}{r:Int}{qs:List (Int×Int)}(V:nU X (d:Int) (lA (nT T d) (iY (M d).E nm)) r qs):AR X ex M d nm r qs:=by
 have hE:=Zu (h.ed z) nm;obtain⟨A,N,B,G⟩:=lJ (h.ed z).2.2 nm;have aa:dx (lA (nT T d) (iY (M d).E nm))<=dx (nT T d):=by
  rw[tF G];exact VQ (M:=N) (by rw[h.ents];exact G.eq)
 rcases h.edit z hE V with ⟨J,U,W⟩|⟨J,U,W⟩
 ·omega
 ·exact⟨J,U,by omega⟩
def Hv (n:Nd):Nd:=if n.L=1 then vU else { n with L:=n.L-1 }
def rX (X:List Int) (ex:List Nat) (M:Nat->Nd) (i:Nat) (r:Int) (qs:List (Int×Int)):Prop:=
 r=0/\Goes X qs ex (nu M i (Hv (M i))) 100/\(aZ X).length<=(aZ (az X qs)).length
theorem nL.unlinkDrop(h:nL X T own ex M){i:Nat}(W:(M i).K≠0)(U:(M i).L=1){r:Int}{qs:List (Int×Int)}(V:NZ X (i:Int) r qs):rX X ex M i r qs:=by
 obtain⟨G,cX,J,p2,p3,z⟩:=h.drop W V;refine⟨G,⟨nW T i ck,cX,?_,p3,z.mono (by omega)⟩,p2⟩;unfold Hv;rw[aB U];exact J
theorem Rn {n:bT}(h:ct n){l:Int}(z:0<=l/\l<=65535):ct { n with L:=l }:=⟨h.1,z,h.2.2⟩
theorem nL.links'(h:nL X T own ex M){i:Nat}(G:(M i).K≠0){l:Int}(hl:0<=l/\l<=65535){r:Int}{qs:List (Int×Int)}(hp:nU X (i:Int) { nT T i with L:=l } r qs):
  r=0/\Goes X qs ex (nu M i { M i with L:=l }) 100/\(aZ X).length=(aZ (az X qs)).length:=by
 have z:=h.store G;have V:=Rn z.right hl;have e:dx { nT T i with L:=l }=dx (nT T i):=Hu rfl rfl rfl;have hn:tH X { nT T i with L:=l }={ M i with L:=l }:=by rw[h.abs i];rfl
 rcases h.put G (n:={ nT T i with L:=l }) z.len V hp (ex':=ex) (λb _=>rfl) h.st.exr (h.st.tails i (h.rng G)) with ⟨-,-,J⟩|⟨J,cX,U,-,p3,W,p5⟩
 ·omega
 ·rw[hn] at U
  exact⟨J,⟨_,_,U,W,p5.mono (by have :=sG V;revert this;generalize dx { nT T i with L:=l }=a;omega)⟩,by omega⟩
theorem nL.unlinkPut(h:nL X T own ex M){i:Nat}(z:(M i).K≠0)(W:1<(M i).L){r:Int}{qs:List (Int×Int)}(J:nU X (i:Int) { nT T i with L:=(M i).L-1 } r qs):rX X ex M i r qs:=by
 have V:=(h.store z).right.2.1;rw[h.links] at V;obtain⟨G,U,h3⟩:=h.links' z (l:=(M i).L-1) (by omega) J;refine⟨G,?_,by omega⟩;unfold Hv;rw[aA];exact U
end
structure xm (X:List Int) (T:List (bT×Value)) (own:Nat->List Nat) (i:Nat) (l:List Nat) (M:Nat->Nd):Prop where
 st:rB X T (nW T i ck) own l
 abs:∀j,j≠i->M j=tH X (nT T j)
theorem Zw (own:Nat->List Nat)(i:Nat):I7 own i (own i)=own:=by
 funext j
 unfold I7;split
 ·next e=>rw[e]
 ·rfl
section
variable {X:List Int} {T:List (bT×Value)} {own:Nat->List Nat} {ex l:List Nat} {M:Nat->Nd}
theorem nL.opened(h:nL X T own [] M){i:Nat}(G:i<32):xm X T own i (dn (nT T i)) M:=by
 have z:=λj=>pW h.st.gots.len G ck j
 refine⟨⟨h.st.len,h.st.w64,h.st.sup,h.st.gots,h.st.all,λb hb=> ?_,λc V=>h.st.rng G (bX _ V),λj W=> ?_,by unfold nW;rw[cY];exact h.st.gots.len,λj=> ?_⟩,λj _=>h.abs j⟩
 ·have J:=(Hk h.st.gots.len own G ck (own i) b 32).2 G
  have U:=h.st.once b hb;rw[Zw,uu,br] at J;unfold nH at J;rw[fM] at J;unfold xz at U ⊢;rw[List.count_nil,dC] at U;rw[show km (nW T i ck) own 32 b+(dn (nT T i)).count b=km T own 32 b by omega];exact U
 ·rw[z]
  split
  ·intro hK;simp[ck] at hK
  ·exact h.st.tails j W
 ·rw[z]
  split
  ·exact .inr rfl
  ·exact .inl rfl
theorem xm.vir{i:Nat}(_:xm X T own i l M){j:Nat}(h:j≠i):nT (nW T i ck) j=nT T j:=by
 unfold nW nT;rw[aj,List.getElem?_set_ne (cZ h),<-aj]
theorem xm.step{i:Nat}(h:xm X T own i l M){Y:List Int}{l' m:List Nat}(W:rB Y T (nW T i ck) own l')(V:pd X Y m)(hm:∀c∈m,c∈l):xm Y T own i l' M:=by
 refine⟨W,λj U=> ?_⟩;rw[h.abs j U];have :=h.st.nodes V (j:=j) λc J z=>by
  rcases dE j 32 with G|G
  ·exact h.st.apartEx G (bX _ J) (hm c z)
  ·rw[h.vir U,h.st.gots.zero G,uu] at J;simp at J
 rw[h.vir U] at this;exact this.symm
theorem xm.words{i:Nat}(h:xm X T own i l M)(U:i<32){qs:List (Int×Int)}(W:∀p∈qs,1080<=p.1.toNat/\(p.1.toNat-1080)/8∈l)(z:In64 (az X qs)):xm (az X qs) T own i l M/\aZ (az X qs)=aZ X/\∀k,k<1080->(az X qs).getD k 0=X.getD k 0:=by
 have V:nT (nW T i ck) i=ck:=by rw[pW h.st.gots.len U,aB rfl]
 obtain⟨h1,h2,h3,h4⟩:=h.st.words U (λp J=>⟨(W p J).1,.inr (W p J).2⟩) z (by rw[V];intro hK;simp[ck] at hK);exact⟨h.step h1 h2 (λc G=>by rw[V,uu] at G;simpa using G),h3,h4⟩
theorem xm.close{i:Nat}(h:xm X T own i l M)(U:i<32){n:bT}(hB:n.B.length=13)(W:ct n)(J:eH X (i:Int) (nT T i) (own i)){r:Int}{qs:List (Int×Int)}(hp:nU X (i:Int) n r qs)
  (z:∀b,b<256->(dn n).count b=l.count b) (ht:jX X n):
  (r=7/\qs=[]/\(aZ X).length+dx (nT T i)<dx n)\/(r=0/\Goes X qs [] (nu M i (tH X n)) 100):=by
 have ae:(aZ (az X (cm X (own i)))).length=(aZ X).length+(own i).length:=sA J.mem J.nodup (λc z=>h.st.used U (bV _ z)) λc z ag=>(iB (own i) X h.st.w64 h.st.len).2.1 c z ag
 rw[J.ownLen] at ae;have hz:nT (nW T i ck) i=ck:=by rw[pW h.st.gots.len U,aB rfl]
 rcases hp.over J with ⟨-,G,-⟩|⟨G,-,h2,h3⟩|⟨G,-,h2,h3⟩
 ·exact absurd W G
 ·exact .inl ⟨G,h3,by omega⟩
 ·right
  rw[aG] at h3;subst h3;obtain⟨p1,p2,p3,p4⟩:=h.st.put U hB W h2 (ex':=[]) (λb hb=>by rw[hz,uu,z b hb];simp) (by simp) ht;have ah:nW (nW T i ck) i n=nW T i n:=by unfold nW;rw[List.set_set]
  rw[ah] at p1;have ac:((aZ (az X (cm X (own i)))).take (dx n)).length=dx n:=by rw[aJ];omega
  have ai:=sG W;refine⟨G,_,_,⟨p1,λj=> ?_⟩,p4,og.puts (L:=uy++((List.range 8).map (824+8*i+·)++Es ((aZ (az X (cm X (own i)))).take (dx n)))) ?_ λp hp=> ?_⟩
  ·rw[pW h.st.gots.len U]
   by_cases e:i=j
   ·subst e
    rw[nG,aB rfl];exact(BQ hB (λhK=>(tI W hK).2) λc aa k hk=>by
     have h4:=qC hB W c aa;have h5:c∈l:=by
      have :=z c h4.2;have V:0<(dn n).count c:=List.count_pos_iff.2 aa;exact List.count_pos_iff.1 (by omega)
     exact p2 c h4.2 h4.1 (h.st.usedEx h5) (λh7=>h.st.apartEx U (bV _ h7) h5) k hk).symm
   ·rw[dJ _ _ (cZ e),aA e,h.abs j (cZ e)]
    have :=h.st.nodes p2 (j:=j) λc z af=>by
     rcases dE j 32 with G|G
     ·exact h.st.apart G U (cZ e) (bX _ z) (bV _ af)
     ·rw[h.vir (cZ e),h.st.gots.zero G,uu] at z;simp at z
    rw[h.vir (cZ e)] at this;exact this.symm
  ·rw[aC,aC,vJ,ac]
   simp[uy];omega
  ·rw[aT,aT]
   rcases zb U W (own:=own i) rfl h2 hp with V|V|V
   ·exact .inl (sF V)
   ·exact .inr (.inl (Ht V))
   ·exact .inr (.inr (zh V.1 V.2))
end
theorem Hw:∀(qs:List (Int×Int)) (X:List Int) {k:Nat} {v:Int},k<X.length->(∀q∈qs,q.1.toNat=k->q.2=v)->((∃q∈qs,q.1.toNat=k)\/X.getD k 0=v)->(az X qs).getD k 0=v
 | [],X,k,v,_,_,he=>by
  rcases he with ⟨q,V,-⟩|h
  ·simp at V
  ·exact h
 |q::qs,X,k,v,hk,h,he=>by
  show(az (X.set q.1.toNat q.2) qs).getD k 0=v;refine Hw qs _ (by rw[cY];exact hk) (λp G=>h p (by simp[G])) ?_;by_cases e:q.1.toNat=k
  ·right
   rw[jl _ _ _ _ (by omega),aB e];exact h q (by simp) e
  ·rcases he with ⟨p,G,z⟩|J
   ·rcases aL.1 G with rfl|G
    ·exact absurd z e
    ·exact .inl ⟨p,G,z⟩
   ·right
    by_cases U:q.1.toNat<X.length
    ·rw[jl _ _ _ _ U,aA e];exact J
    ·rw[jd (by omega)];exact J
def rP (c:List Int) (a:Nat):Int:=((l7 (((c.drop a).take 8).map Int.toNat):Nat):Int)
def fu (B c:List Int):Nat->List (Int×Int)
 |0=>[]
 |k+1=>fu B c k++(if B.getD k 0=0 then [] else (List.range 8).map λw:Nat=>(iN (B.getD k 0)+(w:Int),rP c (64*k+8*w)))
def AU (c:List Int):Prop:=c.length=832/\∀x∈c,0<=x/\x<256
theorem AU.get(h:AU c)(k:Nat):0<=c.getD k 0/\c.getD k 0<256:=by
 by_cases z:k<c.length
 ·rw[aj,aD z]
  exact h.2 _ (bF z)
 ·rw[aj,aP (by omega)]
  decide
theorem VU (h:AU c)(a:Nat){j:Nat}(J:j<8):rJ (rP c a).toNat j=(c.getD (a+j) 0).toNat:=by
 unfold rP;rw[aG,Jo]
 ·rw[aj,bJ,bU,aB J,b9,aj]
  cases c[a+j]? <;>rfl
 ·intro x G
  obtain⟨y,z,rfl⟩:=bH.1 G;have :=h.2 y (gA (bO z));omega
theorem VV (h:AU c)(a:Nat):0<=rP c a/\rP c a<18446744073709551616:=by
 have z:∀x∈((c.drop a).take 8).map Int.toNat,x<256:=λx J=>by
  obtain⟨y,G,rfl⟩:=bH.1 J;have :=h.2 y (gA (bO G));omega
 have V:=FA z;have U:256^(((c.drop a).take 8).map Int.toNat).length<=256^8:=jf (by decide) (by simp;omega);unfold rP;omega
theorem tL {B c:List Int}{p:Int×Int}:∀{m:Nat},p∈fu B c m↔∃k:Nat,k<m/\B.getD k 0≠0/\∃w:Nat,w<8/\p=(iN (B.getD k 0)+(w:Int),rP c (64*k+8*w))
 |0=>by simp[fu]
 |m+1=>by
  unfold fu;rw[aT,tL (m:=m)];constructor
  ·rintro (⟨k,J,G⟩|h)
   ·exact⟨k,by omega,G⟩
   ·split at h
    ·simp at h
    ·next h0=>
     obtain⟨w,z,rfl⟩:=bH.1 h;exact⟨m,by omega,h0,w,by simpa using z,rfl⟩
  ·rintro⟨k,J,G,w,z,rfl⟩
   by_cases e:k=m
   ·subst e
    right
    rw[aA G];exact bH.2 ⟨w,by simpa using z,rfl⟩
   ·exact .inl ⟨k,by omega,G,w,z,rfl⟩
theorem tM (B c:List Int):∀m,(fu B c m).length<=8*m
 |0=>by simp[fu]
 |m+1=>by
  unfold fu;have :=tM B c m;rw[aC];split<;>simp<;>omega
theorem mQ (h:lD B){k:Nat}(z:k<13):0<=B.getD k 0/\B.getD k 0<256:=(h k z).1
theorem Zx (G:lD B){j k:Nat}(U:j<13)(J:k<13)(h:B.getD k 0≠0)(e:B.getD j 0=B.getD k 0):j=k:=by
 rcases Nat.lt_trichotomy j k with z|z|z
 ·exact absurd e ((G k J).2 h j z)
 ·exact z
 ·exact absurd e.symm ((G j U).2 (by rw[e];exact h) k z)
theorem Hx (z:n.B.length=13){k:Nat}(G:k<13)(h:n.B.getD k 0≠0):(n.B.getD k 0).toNat∈dn n:=by
 unfold dn ez;refine bH.2 ⟨n.B.getD k 0,List.mem_filter.2 ⟨?_,by simpa using h⟩,rfl⟩;rw[aW (by omega),aj,aD (by omega)];exact bF _
section
variable {X:List Int} {n:bT} {c:List Int}
theorem OI (G:n.B.length=13)(J:lD n.B):∀p∈fu n.B c 13,1080<=p.1.toNat/\(p.1.toNat-1080)/8∈dn n:=by
 intro p z;obtain⟨k,h,U,w,W,rfl⟩:=tL.1 z;have V:=mQ J h;have h2:=Hx G h U;have e:(iN (n.B.getD k 0)+(w:Int)).toNat=1080+8*(n.B.getD k 0).toNat+w:=by
  unfold iN;rw[aA];omega
 dsimp only
 rw[e];refine⟨by omega,?_⟩;rwa[show(1080+8*(n.B.getD k 0).toNat+w-1080)/8=(n.B.getD k 0).toNat by omega]
theorem VW (hX:X.length=3128)(J:lD n.B){k w:Nat}(z:k<13)(hw:w<8)(U:n.B.getD k 0≠0):(az X (fu n.B c 13)).getD (1080+8*(n.B.getD k 0).toNat+w) 0=rP c (64*k+8*w):=by
 have h1:=mQ J z;refine Hw _ _ (by omega) (λq hq V=> ?_) (.inl ⟨_,tL.2 ⟨k,z,U,w,hw,rfl⟩,?_⟩)
 ·obtain⟨G,h,W,w',aa,rfl⟩:=tL.1 hq
  have h2:=mQ J h;have e:(iN (n.B.getD G 0)+(w':Int)).toNat=1080+8*(n.B.getD G 0).toNat+w':=by
   unfold iN;rw[aA];omega
  dsimp only at V
  rw[e] at V;have e1:G=k:=Zx J h z U (by omega);subst e1;have e2:w'=w:=by omega
  rw[e2]
 ·dsimp only
  unfold iN;rw[aA];omega
theorem OJ (J:X.length=3128)(G:lD n.B)(z:AU c){k j:Nat}(h:k<13)(V:j<64)(U:n.B.getD k 0≠0):rJ ((az X (fu n.B c 13)).getD (1080+8*(n.B.getD k 0).toNat+j/8) 0).toNat (j%8)=(c.getD (64*k+j) 0).toNat:=by
 rw[VW J G h (by omega) U,VU z _ (by omega)]
 congr 2
 omega
theorem zi (h:In64 X)(z:AU c):In64 (az X (fu n.B c 13)):=h.put λp G=>by
 obtain⟨k,J,V,w,U,rfl⟩:=tL.1 G;exact VV z _
theorem Hy (J:X.length=3128)(G:lD n.B)(z:AU c){k:Nat}(U:k<832):mq (az X (fu n.B c 13)) n k=if n.B.getD (k/64) 0=0 then 0 else c.getD k 0:=by
 unfold mq;split
 ·rfl
 ·next hb=>
  have h:=OJ J G z (k:=k/64) (j:=k%64) (by omega) (by omega) hb;rw[show k%64%8=k%8 by omega,show 64*(k/64)+k%64=k by omega] at h;rw[h];have :=z.get k;omega
theorem Kn (V:X.length=3128)(J:lD n.B)(G:AU c)(z:∀k:Nat,k<832->n.S<=(k:Int)->c.getD k 0=0):jX (az X (fu n.B c 13)) n:=λ_ k h W j U hS=>by
 rw[OJ V J G h U W,z _ (by omega) (by omega)];rfl
theorem OL (_:n.B.length=13)(_:lD n.B):og X (az X (fu n.B c 13)) 104:=
 og.puts (L:=(fu n.B c 13).map (λp=>p.1.toNat)) (by rw[bY];exact tM _ _ 13) λp h=>bH.2 ⟨p,h,rfl⟩
def iT (X:List Int) (n:bT):List Int:=(List.range 832).map (mq X n)
theorem zj (X:List Int)(n:bT){k:Nat}(h:k<832):(iT X n).getD k 0=mq X n k:=by simp[iT,h]
theorem kP (X:List Int)(n:bT):AU (iT X n):=⟨by simp[iT],λx h=>by
 obtain⟨k,-,rfl⟩:=bH.1 h;exact Kj X n k⟩
theorem Dl (h:jX X n)(z:n.K=1){k:Nat}(J:k<832)(G:n.S<=(k:Int)):mq X n k=0:=by
 unfold mq;split
 ·rfl
 ·next hb=>
  have :=h z (k/64) (by omega) hb (k%64) (by omega) (by omega);rw[show k%64%8=k%8 by omega] at this;rw[this];rfl
end
def fK (B:List Int) (a e:Nat):List Nat:=(List.range e).filter λk=>decide (a<=k)&&(B.getD k 0==0)
theorem Ro (B:List Int)(a e:Nat):fK B a (e+1)=fK B a e++(if a<=e/\B.getD e 0=0 then [e] else []):=by
 unfold fK;rw[dV,eJ]
 congr 1
 by_cases h:a<=e/\B.getD e 0=0
 ·have z:(decide (a<=e)&&(B.getD e 0==0))=true:=by rw[h.2];simp[h.1]
  rw[aB h,fE,aB z,List.filter_nil]
 ·have z:¬(decide (a<=e)&&(B.getD e 0==0))=true:=λG=>h (by
   rw[gj,decide_eq_true_eq,beq_iff_eq] at G;exact G)
  rw[aA h,fE,aA z,List.filter_nil]
theorem zk{a e:Nat}:k∈fK B a e↔k<e/\a<=k/\B.getD k 0=0:=by
 unfold fK;rw[List.mem_filter,b7];simp
theorem Et (B:List Int)(a e:Nat):(fK B a e).Nodup:=List.nodup_range.sublist List.filter_sublist
theorem vK (B:List Int)(a e:Nat):(fK B a e).length<=e:=cG (fR _ _) (by simp)
theorem zm (h:l.Nodup){i j:Nat}(J:i<l.length)(G:j<l.length)(e:l[i]=l[j]):i=j:=by
 rcases Nat.lt_trichotomy i j with z|z|z
 ·exact absurd e (dg.1 h i j J G z)
 ·exact z
 ·exact absurd e.symm (dg.1 h j i G J z)
def jF (B:List Int) (h l:List Nat):Nat->List Int
 |0=>B
 |j+1=>(jF B h l j).set (h.getD j 0) ((l.getD j 0:Nat):Int)
theorem oF (B:List Int)(h l:List Nat):∀j,(jF B h l j).length=B.length
 |0=>rfl
 |j+1=>by unfold jF;rw[cY,oF B h l j]
theorem zn {B:List Int}{z l:List Nat}{k:Nat}:∀{j:Nat},j<=z.length->k∉z.take j->(jF B z l j).getD k 0=B.getD k 0
 |0,_,_=>rfl
 |j+1,hj,hk=>by
  unfold jF;have G:z.getD j 0=z[j]'(by omega):=by simp[show j<z.length by omega]
  rw[bP (by omega),aT,au] at hk;rw[aj,List.getElem?_set_ne (by rw[G];exact λe=>hk (.inr e.symm)),<-aj];exact zn (by omega) λh=>hk (.inl h)
theorem LV {B:List Int}{z l:List Nat}(U:z.Nodup)(V:∀k∈z,k<B.length):∀{j m:Nat},j<=z.length->m<j->(jF B z l j).getD (z.getD m 0) 0=((l.getD m 0:Nat):Int)
 |0,_,_,h=>by omega
 |j+1,m,hj,hm=>by
  unfold jF;have G:z.getD j 0=z[j]'(by omega):=by simp[show j<z.length by omega]
  have J:z.getD m 0=z[m]'(by omega):=by simp[show m<z.length by omega]
  by_cases e:m=j
  ·subst e
   rw[aj,List.getElem?_set_self (by rw[oF,G];exact V _ (bF _))];rfl
  ·rw[aj,List.getElem?_set_ne,<-aj]
   ·exact LV U V (by omega) (by omega)
   ·rw[G,J]
    intro W;exact e (zm U _ _ W).symm
theorem Eu (h:B.length=13)(b:Nat):(ez B 13).count b=B.countP λx=>x != 0&&x.toNat==b:=by
 unfold ez;rw[aW (by omega),List.count_eq_countP,List.countP_map,List.countP_filter]
 congr 1
 funext x
 simp[Bool.and_comm]
theorem VX (h:B.length=13){k:Nat}(J:k<13)(G:B.getD k 0=0){x:Nat}(U:x≠0)(b:Nat):(ez (B.set k (x:Int)) 13).count b=(ez B 13).count b+[x].count b:=by
 rw[Eu (by rw[cY];exact h),Eu h,List.countP_set (by omega)];have e:B[k]'(by omega)=0:=by rw[<-G];simp[show k<B.length by omega]
 rw[e];by_cases z:x=b
 ·subst z
  rw[aA (by simp),aB (by simp;omega)];simp
 ·rw[aA (by simp),aA (by simp;omega)]
  simp[z]
theorem AV {B:List Int}{z l:List Nat}(hB:B.length=13)(V:z.Nodup)(hh:∀k∈z,k<13/\B.getD k 0=0)(hl:l.length=z.length)(W:∀c∈l,c≠0)(b:Nat):∀{j:Nat},j<=z.length->(ez (jF B z l j) 13).count b=(ez B 13).count b+(l.take j).count b
 |0,_=>by simp[jF]
 |j+1,hj=>by
  have ih:=AV hB V hh hl W b (j:=j) (by omega);have G:z.getD j 0=z[j]'(by omega):=by simp[show j<z.length by omega]
  have J:l.getD j 0=l[j]'(by omega):=by simp[show j<l.length by omega]
  have hm:=hh (z[j]'(by omega)) (bF _);unfold jF;rw[VX (by rw[oF];exact hB) (by rw[G];exact hm.1) (by
   rw[zn (by omega),G]
   ·exact hm.2
   ·rw[G]
    intro h;rw[List.mem_take_iff_getElem] at h;obtain⟨m,WW,U⟩:=h;have :=zm V _ _ U;omega) (by rw[J];exact W _ (bF _)),ih,bP (by omega),fM,J]
  omega
theorem aci (z:B.length=13){c:Nat}(J:c<=13)(h:∀k,c<=k->B.getD k 0=0):B=jh B c:=by
 apply cV (by rw[nQ z J,z]);intro k V W;have U:=qo z J k;rw[aj,aD W,fc] at U;rw[U];have G:B.getD k 0=B[k]:=by simp[V]
 split
 ·exact G.symm
 ·rw[<-G];exact h k (by omega)
theorem Ko (G:n.B.length=13)(h:qT n):∀k,bL n.S.toNat<=k->n.B.getD k 0=0:=λk J=>by
 have z:bL n.S.toNat<=13:=by unfold bL;have :=h.1;omega
 rw[h.2.2.1,qo G z,aA]
theorem Hz (z:ct n)(G:n.K=1):qT n:=by
 rcases z.2.2 with ⟨-,h⟩|⟨h,-⟩
 ·exact h
 ·omega
theorem AW (z:ct n)(G:n.K=1)(hF:n'.F=n.F)(h:n'.K=n.K)(V:n'.L=n.L)(hE:n'.E=n.E)(hB:n'.B.length=13)(J:0<=n'.S/\n'.S<=832)(U:∀k,bL n'.S.toNat<=k->n'.B.getD k 0=0)(hN:lD n'.B):ct n':=by
 have W:=Hz z G;refine⟨by rw[hF];exact z.1,by rw[V];exact z.2.1,.inl ⟨by rw[h];exact G,J,by rw[hE];exact W.2.1,aci hB (by unfold bL;omega) U,hN⟩⟩
section
variable {X:List Int} {T:List (bT×Value)} {own:Nat->List Nat} {M:Nat->Nd}
theorem nL.fileAt(h:nL X T own [] M){i:Nat}(U:(M i).K=1):eH X (i:Int) (nT T i) (own i)/\(nT T i).K=1/\qT (nT T i)/\jX X (nT T i)/\i<32/\(M i).D=qc X (nT T i)/\(nT T i).B.length=13:=by
 have z:=h.store (i:=i) (by omega);have G:(nT T i).K=1:=by rw[h.kind];exact U
 have J:=h.rng (i:=i) (by omega);refine⟨z,G,Hz z.right G,h.st.tails i J,J,?_,z.len⟩;rw[h.abs i];show(if (nT T i).K=1 then _ else _)=_;rw[aB G]
theorem Dm {l m:List Int}(h:l.length=m.length)(G:∀k,k<l.length->l.getD k 0=m.getD k 0):l=m:=by
 apply cV h;intro k z J;have :=G k z;rwa[aj,aD z,aj,aD J] at this
theorem OM (D:List Int)(n:Nat){k:Nat}(h:k<n):(yA D n).getD k 0=D.getD k 0:=by
 unfold yA;rw[aj];by_cases z:k<D.length
 ·rw[ba (by simp;omega),bU,aB h,aj]
 ·rw[aR (by simp;omega),bj,aj,aP (by omega:D.length<=k)]
  split<;>rfl
theorem H5 {i:Nat}{n n':bT}{Y:List Int}{D:List Int}(h:M i=tH X n)(U:n.K=1)(z:n'.K=n.K)(J:n'.L=n.L)(V:n'.E=n.E)(G:qc Y n'=D):tH Y n'={ M i with D:=D }:=by
 rw[h];unfold tH;rw[z,J,V,aB U,G]
theorem nL.grow(h:nL X T own [] M){i:Nat}(hK:(M i).K=1){s:Nat}(hs:s<=832)(ag:(nT T i).S<=(s:Int)){r:Int}{qs:List (Int×Int)}(hp:nU X (i:Int) { nT T i with S:=(s:Int) } r qs):
  r=0/\Goes X qs [] (nu M i { M i with D:=yA (M i).D s }) 100:=by
 obtain⟨G,V,hf,ht,hi,hd,hB⟩:=h.fileAt hK;have ac:=hf.1.1;have hR:ct { nT T i with S:=(s:Int) }:=AW G.right V rfl rfl rfl rfl G.len ⟨by show(0:Int)<=(s:Int);omega,by show(s:Int)<=832;omega⟩ (λk z=>by
  refine Ko G.len hf k ?_;have z:bL (s:Int).toNat<=k:=z;rw[aG] at z;unfold bL at *;have U:(nT T i).S.toNat<=s:=by omega
  clear hd ag ac;omega) hf.2.2.2
 have aa:jX X { nT T i with S:=(s:Int) }:=λz k W hb j hj J=>ht z k W hb j hj (by
  have J:(s:Int)<=_:=J;omega)
 have hn:tH X { nT T i with S:=(s:Int) }={ M i with D:=yA (M i).D s }:=by
  refine H5 (h.abs i) V rfl rfl rfl ?_;rw[hd];have af:(qc X { nT T i with S:=(s:Int) }).length=s:=by rw[nX];exact aG s
  apply Dm
  ·rw[af,yC]
  ·intro k z
   rw[OM _ _ (by omega),sD _ _ (by rw[<-nX];exact z)];show mq X (nT T i) k=_;by_cases ae:k<(nT T i).S.toNat
   ·exact(sD X (nT T i) ae).symm
   ·rw[Dl ht V (by omega) (by omega),aj,aP (by rw[nX];omega)]
    rfl
 rcases h.put (i:=i) (by omega) (n:={ nT T i with S:=(s:Int) }) G.len hR hp (ex':=[]) (λb _=>rfl) (by simp) aa with ⟨-,-,U⟩|⟨U,cX,p1,-,p3,p4,p5⟩
 ·have e:=Hu (n:=nT T i) (n':={ nT T i with S:=(s:Int) }) rfl rfl rfl
  rw[e] at U;omega
 ·rw[hn] at p1
  exact⟨U,_,_,p1,p4,p5.mono (by have :=sG hR;revert this;generalize dx { nT T i with S:=(s:Int) }=a;omega)⟩
def tN (c:List Int) (o:Nat) (D:List Int):List Int:=c.take o++(D++c.drop (o+D.length))
theorem Ev {c D:List Int}{o:Nat}(h:AU c)(U:o+D.length<=832)(J:∀x∈D,0<=x/\x<256):AU (tN c o D):=by
 refine⟨by unfold tN;simp[h.1];omega,λx G=> ?_⟩;unfold tN at G;simp only[aT] at G;rcases G with z|z|z
 ·exact h.2 x (bO z)
 ·exact J x z
 ·exact h.2 x (gA z)
theorem VY {c D:List Int}{o:Nat}(h:c.length=832)(G:o+D.length<=832)(k:Nat):(tN c o D).getD k 0=if o<=k/\k<o+D.length then D.getD (k-o) 0 else c.getD k 0:=by
 unfold tN;rw[aj];by_cases z:k<o
 ·rw[ba (by simp;omega),bU,aB z,aA,aj]
 ·rw[aR (by simp;omega),aJ,cT (by omega)]
  by_cases J:k<o+D.length
  ·rw[ba (by omega),aB,aj]
  ·rw[aR (by omega),aA,b9,aj]
   congr 2
   omega
theorem VZ {h D:List Int}{o:Nat}(k:Nat):(xk h o D).getD k 0=if o<=k/\k<o+D.length then D.getD (k-o) 0 else h.getD k 0:=by
 unfold xk;have G:((yA h (max h.length (o+D.length))).take o).length=o:=by rw[aJ,yC];omega
 rw[aj];by_cases z:k<o
 ·rw[ba (by omega),bU,aB z,aA]
  unfold yA;by_cases J:k<h.length
  ·rw[ba (by simp;omega),bU,aB,aj]
  ·rw[aR (by simp;omega),bj,aj,aP (by omega:h.length<=k)]
   split<;>rfl
 ·rw[aR (by omega),G]
  by_cases J:k<o+D.length
  ·rw[ba (by omega),aB,aj]
  ·rw[aR (by omega),aA,b9,aj]
   congr 2
   omega
def Tn (X:List Int) (n:bT) (o m:Nat):bT:=
 { n with B:=jF n.B (fK n.B (o/64) (bL (o+m))) ((aZ X).take (fK n.B (o/64) (bL (o+m))).length) (fK n.B (o/64) (bL (o+m))).length,S:=max n.S ((o+m:Nat):Int) }
theorem nL.write(h:nL X T own [] M){i:Nat}(hK:(M i).K=1){o:Nat}{D:List Int}(Zy:D≠[])(aM:∀x∈D,0<=x/\x<256)(ho:o+D.length<=832)
  (po:(fK (nT T i).B (o/64) (bL (o+D.length))).length<=(aZ X).length) {r:Int} {qs:List (Int×Int)}
  (hp:nU (az (az X (dm X ((aZ X).take (fK (nT T i).B (o/64) (bL (o+D.length))).length))) (fu (Tn X (nT T i) o D.length).B (tN (iT X (nT T i)) o D) 13)) (i:Int) (Tn X (nT T i) o D.length) r qs):
  (r=7/\(aZ X).length<40)\/(r=0/\Goes X (dm X ((aZ X).take (fK (nT T i).B (o/64) (bL (o+D.length))).length)++(fu (Tn X (nT T i) o D.length).B (tN (iT X (nT T i)) o D) 13++qs)) [] (nu M i { M i with D:=xk (M i).D o D }) 400):=by
 obtain⟨bc,hk,hf,ht,hi,hd,hB⟩:=h.fileAt hK;have hS:=hf.1;have bg:0<D.length:=List.length_pos_iff.2 Zy;have aO:bL (o+D.length)<=13:=by unfold bL;omega
 generalize hn:nT T i=n at *;generalize Rp:fK n.B (o/64) (bL (o+D.length))=G at *;have aa:∀k,k∈G↔k<bL (o+D.length)/\o/64<=k/\n.B.getD k 0=0:=λk=>by rw[<-Rp];exact zk
 have EY:G.Nodup:=by rw[<-Rp];exact Et _ _ _
 have bl:G.length<=13:=by rw[<-Rp];exact cG (vK _ _ _) aO
 have ah:=h.opened hi;rw[hn] at ah;obtain⟨t1,t2,t3,t4,t5⟩:=ah.st.take G.length;have Zz:=ah.step t1 t2 (by simp);have af:∀c∈(aZ X).take G.length,c≠0/\c<256:=qy;have K5:((aZ X).take G.length).Nodup:=sx;have aQ:∀c∈(aZ X).take G.length,dG X c=false:=λc hc=>(ku.1 (bO hc)).2.2
 have ay:((aZ X).take G.length).length=G.length:=by rw[aJ];omega
 have hw:Tn X n o D.length={ n with B:=jF n.B G ((aZ X).take G.length) G.length,S:=max n.S ((o+D.length:Nat):Int) }:=by unfold Tn;rw[Rp]
 rw[hw] at hp ⊢;clear hw;have aL:∀k,k∉G->(jF n.B G ((aZ X).take G.length) G.length).getD k 0=n.B.getD k 0:=λk z=>zn (aH _) (by rw[gy];exact z)
 have aV:∀m,m<G.length->(jF n.B G ((aZ X).take G.length) G.length).getD (G.getD m 0) 0=((((aZ X).take G.length).getD m 0:Nat):Int):=λm hm=>LV EY (λk z=>by have :=((aa k).1 z).1;omega) (aH _) hm
 have ac:=oF n.B G ((aZ X).take G.length) G.length;have aK:=λb=>AV (l:=(aZ X).take G.length) hB EY (λk z=>by have :=(aa k).1 z;exact⟨by omega,this.2.2⟩) ay (λc hc=>(af c hc).1) b (j:=G.length) (aH _)
 have bf:og X (az X (dm X ((aZ X).take G.length))) 108:=og.puts (L:=uy++Es ((aZ X).take G.length)) (by rw[aC,vJ,ay];simp[uy];omega) λp hp=>by
  rw[aT];rcases qD _ _ p hp with h6|h6
  ·exact .inl (sF h6)
  ·exact .inr (zh h6.1 h6.2)
 generalize hl:(aZ X).take G.length=l at *;generalize av:az X (dm X l)=X1,bk:jF n.B G l G.length=J at *;rw[aW (by omega)] at aK
 -- what each place has
 have U:∀k,k<13->(J.getD k 0=n.B.getD k 0/\k∉G)\/(n.B.getD k 0=0/\∃m,m<G.length/\G.getD m 0=k/\J.getD k 0=((l.getD m 0:Nat):Int)/\l.getD m 0∈l):=λk z=>by
  by_cases hm:k∈G
  ·right
   obtain⟨m,WW,aN⟩:=bW hm;have V:G.getD m 0=k:=by rw[<-aN];simp[WW]
   refine⟨((aa k).1 hm).2.2,m,WW,V,by rw[<-V];exact aV m WW,?_⟩;rw[aj,aD (by omega)];exact bF _
  ·exact .inl ⟨aL k hm,hm⟩
 have Ek:∀k,k<13->n.B.getD k 0≠0->(n.B.getD k 0).toNat∉l:=λk z hb hc=>by
  have W:=aQ _ hc;have h2:=ah.st.usedEx (Hx hB z hb);rw[W] at h2;cases h2
 have ae:lD J:=λk z=>by
  have hr:=mQ hf.2.2.2 z;rcases U k z with ⟨V,-⟩|⟨e0,m,hm,e2,V,JU⟩
  ·refine⟨by rw[V];exact hr,λai j hj=> ?_⟩
   rw[V] at ai ⊢;rcases U j (by omega) with ⟨f1,-⟩|⟨-,m',-,-,f1,aF⟩
   ·rw[f1];exact(hf.2.2.2 k z).2 ai j hj
   ·rw[f1]
    intro e3;exact Ek k z ai (by rw[<-e3,aG];exact aF)
  ·have :=af _ JU
   refine⟨by rw[V];omega,λai j hj=> ?_⟩;rw[V];rcases U j (by omega) with ⟨f1,-⟩|⟨-,m',bo,f2,f1,aF⟩
   ·rw[f1]
    intro e3;exact Ek j (by omega) (by omega) (by rw[e3,aG];exact JU)
   ·rw[f1]
    intro e3;have e4:l.getD m' 0=l.getD m 0:=by omega
    rw[aj,aD (by omega),aj,aD (by omega)] at e4;have :=zm K5 _ _ e4;subst this;omega
 have ZF:X1.length=3128:=t1.len;have ar:(max n.S ((o+D.length:Nat):Int)).toNat=max n.S.toNat (o+D.length):=by omega
 have hR:ct { n with B:=J,S:=max n.S ((o+D.length:Nat):Int) }:=by
  refine AW bc.right hk rfl rfl rfl rfl (by rw[<-hB,<-ac]) ⟨by dsimp only;omega,by dsimp only;omega⟩ (λk z=> ?_) ae
  dsimp only at z ⊢
  rw[ar] at z;have W:=Ko hB hf k (by unfold bL at *;omega);rw[aL k λhm=>by have :=((aa k).1 hm).1;unfold bL at *;omega];exact W
 have bh:∀k,k<832->mq X n k=(iT X n).getD k 0:=λk z=>(zj X n z).symm
 have ax:=kP X n;have ak:=Ev ax ho aM;have au:=VY (D:=D) ax.1 ho;have aX:∀k:Nat,k<832->max n.S ((o+D.length:Nat):Int)<=(k:Int)->(tN (iT X n) o D).getD k 0=0:=λk z bn=>by
  rw[au,aA,zj X n z];exact Dl ht hk z (by omega)
 generalize tN (iT X n) o D=c at *;have zT:=OI (n:={ n with B:=J,S:=max n.S ((o+D.length:Nat):Int) }) (c:=c) (by rw[<-hB,<-ac]) ae;have zF:∀b,b<256->(dn { n with B:=J,S:=max n.S ((o+D.length:Nat):Int) }).count b=(dn n++l).count b:=λb _=>by
  rw[fM];exact aK b
 have bb:∀x,x∈dn { n with B:=J,S:=max n.S ((o+D.length:Nat):Int) }->x∈dn n++l:=λx hx=>by
  have W:=qC (n:={ n with B:=J,S:=max n.S ((o+D.length:Nat):Int) }) (by rw[<-hB,<-ac]) hR x hx;have h2:=zF x W.2;have h3:0<(dn { n with B:=J,S:=max n.S ((o+D.length:Nat):Int) }).count x:=List.count_pos_iff.2 hx;exact List.count_pos_iff.1 (by omega)
 have aY:In64 (az X1 (fu J c 13)):=zi (n:={ n with B:=J,S:=max n.S ((o+D.length:Nat):Int) }) t1.w64 ak;obtain⟨ZG,ZH,JB⟩:=Zz.words hi (qs:=fu J c 13) (λp hp=>⟨(zT p hp).1,bb _ (zT p hp).2⟩) aY;have UO:eH (az X1 (fu J c 13)) (i:Int) (nT T i) (own i):=by
  rcases ZG.st.each hi with ⟨-,W⟩|⟨-,W,-⟩
  ·exact W
  ·rw[hn] at W;rw[W] at hk;simp[ck] at hk
 have Qk:=λk (z:k<832)=>Hy (X:=X1) (n:={ n with B:=J,S:=max n.S ((o+D.length:Nat):Int) }) ZF ae ak z
 have aS:=Kn (X:=X1) (n:={ n with B:=J,S:=max n.S ((o+D.length:Nat):Int) }) ZF ae ak aX;have aR:=OL (X:=X1) (n:={ n with B:=J,S:=max n.S ((o+D.length:Nat):Int) }) (c:=c) (by rw[<-hB,<-ac]) ae;have ZJ:tH (az X1 (fu J c 13)) { n with B:=J,S:=max n.S ((o+D.length:Nat):Int) }={ M i with D:=xk (M i).D o D }:=by
  refine H5 (n:=n) (X:=X) (by rw[h.abs i,hn]) hk rfl rfl rfl ?_;rw[hd];have aI:=nX X n;apply Dm
  ·rw[nX,Kh,aI];exact ar
  ·intro k z
   rw[nX] at z;have bj:k<max n.S.toNat (o+D.length):=by rw[<-ar];exact z
   have uA:k<832:=by omega
   rw[sD _ _ z,Qk k uA,VZ]
   dsimp only
   by_cases ag:o<=k/\k<o+D.length
   ·rw[aB ag,au,aB ag]
    rw[aA ?_];intro h0;rcases U (k/64) (by omega) with ⟨V,e2⟩|⟨-,m,-,-,V,e2⟩
    ·refine e2 ((aa _).2 ⟨?_,?_,by rw[<-V];exact h0⟩)
     ·unfold bL;omega
     ·omega
    ·have :=(af _ e2).1;omega
   ·rw[aA ag,au,aA ag,zj X n uA]
    have ba:(qc X n).getD k 0=mq X n k:=by
     by_cases aU:k<n.S.toNat
     ·exact sD X n aU
     ·rw[Dl ht hk uA (by omega),aj,aP (by rw[aI];omega)]
      rfl
    rw[ba];split
    ·next h0=>
     rcases U (k/64) (by omega) with ⟨V,-⟩|⟨-,m,-,-,V,e2⟩
     ·unfold mq
      rw[aB (by rw[<-V];exact h0)]
     ·have :=(af _ e2).1;omega
    ·rfl
 have bp:(aZ X1).length+G.length=(aZ X).length:=by rw[t4,bM];omega
 rcases ZG.close hi (by rw[<-hB,<-ac]) hR UO hp zF aS with ⟨W,-,h3⟩|⟨W,T',cX,g1,g2,g3⟩
 ·refine .inl ⟨W,?_⟩
  have :=sG hR;rw[ZH] at h3;omega
 ·refine .inr ⟨W,T',cX,?_,λk z=> ?_,?_⟩
  ·rw[bz,bz,av,<-ZJ];exact g1
  ·rw[bz,bz,av,g2 k z,JB k (by omega),t5 k z]
  ·rw[bz,bz,av]
   exact((bf.trans aR).trans g3).mono (by omega)
end
theorem Rs{w:World}{v:Value}{g:Nat}{xs:List Value}(h:Reads w v g xs):v.oneCell'=true:=by
 obtain⟨a,cap,rfl,-⟩:=h;rfl
end Go.Proofs.YtimcfdnbpkiniaaGreatDoor
