/- Lemmas. -/
import Derived.Test.YtepbpdipenedhaaGreatDoorM22
set_option maxHeartbeats 1000000
namespace Go.Proofs.YtepbpdipenedhaaGreatDoor
open Go.RowKit
variable{B X Y c:List Int}{T:List (bT×Value)}{own:Nat->List Nat}{ex l z:List Nat}{M:Nat->Nd}{i k m:Nat}{n n':bT}
theorem mN.putOver(h:mN X T own ex M){i:Nat}(hi:(M i).K≠0){n:bT}(hB:n.B.length=13)(W:cm n){r:Int}{qs:List (Int×Int)}(hp:nV X (i:Int) n r qs){ex':List Nat}
  (V:∀b,b<256->(dm n).count b+ex'.count b=(dm (nT T i)).count b+ex.count b) (hx:∀c∈ex',c≠0/\c<256) (ht:j5 X n) (hM:dw (nv M i (tK X n))):
  (r=7/\qs=[]/\(aZ X).length+(own i).length<dv n)\/(r=0/\∃cW,mN (az X qs) (nX T i n) cW ex' (nv M i (tK X n))/\pg X (az X qs) (own i)/\(aZ (az X qs)).length+dv n=(aZ X).length+(own i).length/\(∀k,k<816->(az X qs).getD k 0=X.getD k 0)/\
   (∀p∈qs,(816<=p.1.toNat/\p.1.toNat<820)\/(824+8*i<=p.1.toNat/\p.1.toNat<824+8*i+8)\/(1080<=p.1.toNat/\(p.1.toNat-1080)/8∈cW i))/\(cW i).length=dv n):=by
 have z:=h.tree.rng hi;have U:eH X (i:Int) (nT T i) (own i):=by
  rcases h.st.each z with ⟨-,J⟩|⟨J,-,-⟩
  ·exact J
  ·exact absurd ((h.free z).1 J) hi
 have ae:(own i).Nodup:=U.nodup;have af:(aZ (az X (cj X (own i)))).length=(aZ X).length+(own i).length:=
  sF U.mem ae (λc V=>h.st.used z (bV _ V)) λc V ac=>(iD (own i) X h.st.w64 h.st.len).2.1 c V ac
 rcases hp.over U with ⟨-,J,-⟩|⟨J,-,h2,h3⟩|⟨J,-,h2,h3⟩
 ·exact absurd W J
 ·exact .inl ⟨J,h3,by omega⟩
 ·right
  rw[aG] at h3;subst h3;obtain⟨p1,p2,p3,p4⟩:=h.st.put z hB W h2 V hx ht;refine⟨J,_,⟨p1,λj=> ?_,hM⟩,p2,p3,p4,λp hp=> ?_,?_⟩
  ·have hn:tK (az X (mi X i n (own i))) n=tK X n:=by
    have aa:∀c∈dm n,c≠0/\c<256/\dF X c=true/\c∉own i:=λc G=>by
     have h4:=qC hB W c G;have h5:=V c h4.2;have h6:0<(dm n).count c:=List.count_pos_iff.2 G;rcases dY (ex.count c) with h7|h7
     ·have h8:c∈dm (nT T i):=List.count_pos_iff.1 (by omega)
      exact⟨h4.1,h4.2,h.st.used z (bX _ h8),λh9=>h.st.inner z h9 h8⟩
     ·have h8:c∈ex:=List.count_pos_iff.1 h7
      exact⟨h4.1,h4.2,h.st.usedEx h8,λh9=>h.st.apartEx z (bV _ h9) h8⟩
    exact BN hB (λhK=>(tL W hK).2) λc G k hk=>by
     have :=aa c G;exact p2 c this.2.1 this.1 this.2.2.1 this.2.2.2 k hk
   have :=h.st.nodesUp h.abs p2 z (λj _=>h.st.filesOwn z j) n j;rw[hn] at this;exact this
  ·have :=zb z W (own:=own i) rfl h2 hp
   rw[Ja,aB rfl];exact this
  ·rw[Ja,aB rfl]
   exact uw h2
theorem Zi (X:List Int)(n:bT)(f:Int):tK X { n with F:=f }=tK X n:=rfl
theorem Zj{n:Nd}(h:n=M i):nv M i n=M:=by
 funext j
 unfold nv;split
 ·next e=>rw[e,h]
 ·rfl
theorem mN.heads{G:List Nat}(h:mN X T own G M){qs:List (Int×Int)}(U:∀p∈qs,p.1=1\/p.1=2)(z:In64 (az X qs))(W:lq (az X qs)):
  mN (az X qs) T own G M/\aZ (az X qs)=aZ X:=by
 obtain⟨h1,V,J⟩:=h.st.heads U z W;exact⟨⟨h1,λj=>by rw[h.abs,h.st.nodes V (by simp)],h.tree⟩,J⟩
theorem OJ (h:lq X)(U:X.length=3128){f:Int}(J:f=1\/f=2):lq (az X [(1,f),(2,0)]):=by
 have e:az X [(1,f),(2,0)]=(X.set 1 f).set 2 0:=rfl;rw[e];have g:∀k,((X.set 1 f).set 2 0).getD k 0=if 2=k then 0 else if 1=k then f else X.getD k 0:=λk=>by
  rw[jo _ _ _ _ (by rw[cX];omega),jo _ _ _ _ (by omega)]
 refine⟨by rw[g];exact h.1,by rw[g];exact J,by rw[g,aB rfl];omega,λi G z=> ?_,λi G z=> ?_⟩
 ·rw[g,aA,aA];exact h.2.2.2.1 i G z
 ·rw[g,aA,aA];exact h.2.2.2.2 i G z
theorem BR (h:lq X)(U:X.length=3128){c:Int}(J:c<=32):lq (az X [(2,c)]):=by
 have e:az X [(2,c)]=X.set 2 c:=rfl;rw[e];have g:∀k,(X.set 2 c).getD k 0=if 2=k then c else X.getD k 0:=λk=>by rw[jo _ _ _ _ (by omega)]
 refine⟨by rw[g];exact h.1,by rw[g];exact h.2.1,by rw[g];exact J,λi G z=> ?_,λi G z=> ?_⟩
 ·rw[g,aA];exact h.2.2.2.1 i G z
 ·rw[g,aA];exact h.2.2.2.2 i G z
theorem ab9{U:List Nat}(h:mN X T own U M){f r:Int}{qs:List (Int×Int)}(V:Df X f r qs):
  (r=1/\¬(f=1\/f=2)/\qs=[])\/(r=0/\(f=1\/f=2)/\mN (az X qs) T own U M/\aZ (az X qs)=aZ X/\∀k,3<=k->(az X qs).getD k 0=X.getD k 0):=by
 rcases V with G|⟨G,J,⟨-,rfl⟩|⟨-,rfl⟩⟩
 ·exact .inl G
 ·exact .inr ⟨G,J,h,rfl,λ_ _=>rfl⟩
 ·right
  have W:In64 (az X [(1,f),(2,0)]):=h.st.w64.put λp z=>by
   simp only[aL,aK,bC] at z;rcases z with rfl|rfl<;>dsimp only <;>omega
  obtain⟨h4,h5⟩:=h.heads (qs:=[(1,f),(2,0)]) (by simp) W (OJ h.st.sup h.st.len J);exact⟨G,J,h4,h5,λk hk=>dW _ _ _ λp z=>by
   simp only[aL,aK,bC] at z;rcases z with rfl|rfl
   ·show(1:Int).toNat≠k;rw[show(1:Int).toNat=1 from rfl];omega
   ·show(2:Int).toNat≠k;rw[show(2:Int).toNat=2 from rfl];omega⟩
theorem Zk (h:mN X T own ex M){r:Int}{qs:List (Int×Int)}(hs:ra X T r qs):
  (r=7/\qs=[]/\(aZ X).length<32)\/(r=0/\∃T' cW,mN (az X qs) T' cW ex M/\(∀k,8<=k->k<816->(az X qs).getD k 0=X.getD k 0)/\∃L:List Nat,L.length<=300/\∀k,k<3128->(az X qs).getD k 0≠X.getD k 0->k∈L):=by
 rcases hs with ⟨-,V,rfl⟩|⟨c,hc,Hs,⟨-,V,rfl⟩|⟨⟨hf,hF⟩,r',G,z,hr⟩⟩
 ·exact .inr ⟨V,T,own,h,λ_ _ _=>rfl,[],by simp,λk _ U=>absurd rfl U⟩
 ·have h3:In64 (az X [(2,(c:Int)+1)]):=h.st.w64.put λp z=>by rw[au] at z;subst z;dsimp only;omega
  obtain⟨h4,h5⟩:=h.heads (qs:=[(2,(c:Int)+1)]) (by simp) h3 (BR h.st.sup h.st.len (by omega));have ho:∀k,k≠2->(az X [(2,(c:Int)+1)]).getD k 0=X.getD k 0:=λk U=>dW _ _ _ λp z=>by rw[au] at z;subst z;show(2:Int).toNat≠k;rw[show(2:Int).toNat=2 from rfl];omega
  exact .inr ⟨V,T,own,h4,λk U _=>ho k (by omega),[2],by simp,λk _ U=>by
   by_cases e:k=2
   ·rw[e];simp
   ·exact absurd (ho k e) U⟩
 ·have af:(M c).K≠0:=λe=>hf ((h.free Hs).2 e)
  have aa:eH X (c:Int) (nT T c) (own c):=by
   rcases h.st.each Hs with ⟨-,V⟩|⟨V,-,-⟩
   ·exact V
   ·exact absurd V hf
  have ht:=h.st.sup.2.1;have hR:cm { nT T c with F:=X.getD 1 0 }:=⟨ht,aa.right.2⟩;have J:tK X { nT T c with F:=X.getD 1 0 }=M c:=by rw[Zi,h.abs]
  have hM:dw (nv M c (tK X { nT T c with F:=X.getD 1 0 })):=by rw[Zj J];exact h.tree
  rcases h.putOver af (n:={ nT T c with F:=X.getD 1 0 }) aa.len hR z (ex':=ex) (λb _=>rfl) h.st.exr (h.st.tails c Hs) hM with ⟨q1,q2,q3⟩|⟨q1,cW,q2,q3,q4,q5,q6,q7⟩
  ·rcases hr with ⟨-,r2,r3⟩|⟨r1,-,-⟩
   ·have :=vH hR
    exact .inl ⟨by omega,by rw[r3,q2],by omega⟩
   ·omega
  ·rcases hr with ⟨r1,-,-⟩|⟨-,r2,r3⟩
   ·exact absurd q1 r1
   ·subst r3
    rw[Zj J] at q2;have h3:In64 (az (az X G) [(2,(c:Int)+1)]):=q2.st.w64.put λp z=>by rw[au] at z;subst z;dsimp only;omega
    obtain⟨h4,h5⟩:=q2.heads (qs:=[(2,(c:Int)+1)]) (by simp) h3 (BR q2.st.sup q2.st.len (by omega));have ho:∀k,k≠2->(az (az X G) [(2,(c:Int)+1)]).getD k 0=(az X G).getD k 0:=λk U=>dW _ _ _ λp z=>by rw[au] at z;subst z;show(2:Int).toNat≠k;rw[show(2:Int).toNat=2 from rfl];omega
    rw[bz];refine .inr ⟨r2,_,_,h4,λk U ac=>by rw[ho k (by omega),q5 k ac],[2,816,817,818,819]++(List.range 8).map (824+8*c+·)++(cW c).flatMap (λb=>(List.range 8).map (1080+8*b+·)),?_,λk U W=> ?_⟩
    ·have hl:=vH hR
     have ag:∀l:List Nat,(l.flatMap (λb=>(List.range 8).map (1080+8*b+·))).length=8*l.length:=by
      intro l;induction l with
      |nil=>rfl
      |cons b l ih=>rw[List.flatMap_cons,aC,ih];simp;omega
     rw[aC,aC,ag];simp;omega
    ·by_cases e2:k=2
     ·rw[e2];simp
     ·rw[ho k e2] at W
      have ae:∃p∈G,p.1.toNat=k:=by
       by_cases hh:∃p∈G,p.1.toNat=k
       ·exact hh
       ·exact absurd (dW _ _ _ λp z e=>hh ⟨p,z,e⟩) W
      obtain⟨p,z,e⟩:=ae;simp only[aT,aL,aK,bC,bF,bW,List.mem_flatMap];rcases q6 p z with h6|h6|h6
      ·left;left;omega
      ·left;right;exact⟨k-(824+8*c),by omega,by omega⟩
      ·right;exact⟨(p.1.toNat-1080)/8,h6.2,(p.1.toNat-1080)%8,by omega,by omega⟩
def og (X Y:List Int) (n:Nat):Prop:=∃L:List Nat,L.length<=n/\∀k,k<3128->Y.getD k 0≠X.getD k 0->k∈L
theorem og.refl(X:List Int)(n:Nat):og X X n:=⟨[],by simp,λ_ _ h=>absurd rfl h⟩
theorem og.trans{Z:List Int}{n:Nat}(h:og X Y n)(k:og Y Z m):og X Z (n+m):=by
 obtain⟨L,W,U⟩:=h;obtain⟨K,V,J⟩:=k;refine⟨L++K,by rw[aC];omega,λi G z=> ?_⟩;rw[aT];by_cases e:Y.getD i 0=X.getD i 0
 ·exact .inr (J i G (by rw[e];exact z))
 ·exact .inl (U i G e)
theorem og.mono{n:Nat}(h:og X Y n)(G:n<=m):og X Y m:=by
 obtain⟨L,J,z⟩:=h;exact⟨L,by omega,z⟩
theorem og.puts{qs:List (Int×Int)}{L:List Nat}{n:Nat}(U:L.length<=n)(h:∀p∈qs,p.1.toNat∈L):og X (az X qs) n:=by
 refine⟨L,U,λk _ G=> ?_⟩;by_cases J:∃p∈qs,p.1.toNat=k
 ·obtain⟨p,z,e⟩:=J
  rw[<-e];exact h p z
 ·exact absurd (dW _ _ _ λp z e=>J ⟨p,z,e⟩) G
def uE:List Nat:=[816,817,818,819]
def Eh (l:List Nat):List Nat:=l.flatMap (λb=>(List.range 8).map (1080+8*b+·))
theorem vQ:∀l:List Nat,(Eh l).length=8*l.length
 | []=>rfl
 |b::l=>by
  have :=vQ l;unfold Eh at this ⊢;rw[List.flatMap_cons,aC,this];simp;omega
theorem sI (h:816<=k/\k<820):k∈uE:=by
 unfold uE;simp;omega
theorem zh (z:1080<=k)(h:(k-1080)/8∈l):k∈Eh l:=by
 unfold Eh;rw[List.mem_flatMap];refine⟨_,h,?_⟩;rw[bF];exact⟨(k-1080)%8,by simp;omega,by omega⟩
theorem Ht (h:824+8*i<=k/\k<824+8*i+8):k∈(List.range 8).map (824+8*i+·):=by
 rw[bF];exact⟨k-(824+8*i),by simp;omega,by omega⟩
structure nM (X:List Int) (T:List (bT×Value)) (own:Nat->List Nat) (ex:List Nat) (M:Nat->Nd):Prop where
 st:StX X T own ex
 abs:∀i,M i=tK X (nT T i)
theorem mN.nd(h:mN X T own z M):nM X T own z M:=⟨h.st,h.abs⟩
theorem nM.snd(h:nM X T own z M)(t:dw M):mN X T own z M:=⟨h.st,h.abs,t⟩
section
variable {X:List Int} {T:List (bT×Value)} {own:Nat->List Nat} {ex:List Nat} {M:Nat->Nd}
theorem nM.free(h:nM X T own ex M){i:Nat}(V:i<32):dR X (i:Int)↔(M i).K=0:=by
 rw[h.abs];show _↔(nT T i).K=0;rcases h.st.each V with ⟨J,z⟩|⟨J,z,-⟩
 ·refine⟨λG=>absurd G z.notFree,λG=> ?_⟩
  rcases z.right.2.2 with U|U<;>omega
 ·exact⟨λ_=>by rw[z];rfl,λ_=>J⟩
theorem nM.out(h:nM X T own ex M){i:Nat}(z:32<=i):M i=wh:=by rw[h.abs,h.st.gots.zero z];rfl
theorem nM.rng(h:nM X T own ex M){i:Nat}(G:(M i).K≠0):i<32:=by
 rcases dE i 32 with z|z
 ·exact z
 ·exact absurd (by rw[h.out z];rfl) G
theorem nM.store(h:nM X T own ex M){i:Nat}(G:(M i).K≠0):eH X (i:Int) (nT T i) (own i):=by
 rcases h.st.each (h.rng G) with ⟨-,z⟩|⟨z,-,-⟩
 ·exact z
 ·exact absurd ((h.free (h.rng G)).1 z) G
theorem nM.none(h:nM X T own ex M){i:Nat}(G:i<32)(J:(M i).K=0):nT T i=cg/\own i=[]:=by
 rcases h.st.each G with ⟨-,z⟩|⟨-,z⟩
 ·exact absurd ((h.free G).2 J) z.notFree
 ·exact z
theorem nM.kind(h:nM X T own ex M)(i:Nat):(nT T i).K=(M i).K:=by rw[h.abs];rfl
theorem nM.links(h:nM X T own ex M)(i:Nat):(nT T i).L=(M i).L:=by rw[h.abs];rfl
theorem nM.ents(h:nM X T own ex M)(i:Nat):(nT T i).E=(M i).E:=by rw[h.abs];rfl
theorem nM.putAt(h:nM X T own ex M){i:Nat}(G:i<32){n:bT}(hB:n.B.length=13)(hR:cm n)(h2:dv n<=(aZ (az X (cj X (own i)))).length){ex':List Nat}
  (hc:∀b,b<256->(dm n).count b+ex'.count b=(dm (nT T i)).count b+ex.count b) (hx:∀c∈ex',c≠0/\c<256) (ht:j5 X n):
  ∃cW,nM (az X (mi X i n (own i))) (nX T i n) cW ex' (nv M i (tK X n))/\pg X (az X (mi X i n (own i))) (own i)/\(aZ (az X (mi X i n (own i)))).length+dv n=(aZ X).length+(own i).length/\(∀k,k<816->(az X (mi X i n (own i))).getD k 0=X.getD k 0)/\
   og X (az X (mi X i n (own i))) (12+8*dv n)/\(cW i).length=dv n/\∀j,j≠i->cW j=own j:=by
 obtain⟨p1,p2,p3,p4⟩:=h.st.put G hB hR h2 hc hx ht;have U:((aZ (az X (cj X (own i)))).take (dv n)).length=dv n:=by rw[aJ];omega
 refine⟨_,⟨p1,λj=> ?_⟩,p2,p3,p4,?_,by rw[Ja,aB rfl];exact U,λj hj=>by rw[Ja,aA hj]⟩
 ·have hn:tK (az X (mi X i n (own i))) n=tK X n:=by
   have aa:∀c∈dm n,c≠0/\c<256/\dF X c=true/\c∉own i:=λc z=>by
    have W:=qC hB hR c z;have h5:=hc c W.2;have J:0<(dm n).count c:=List.count_pos_iff.2 z;rcases dY (ex.count c) with h7|h7
    ·have V:c∈dm (nT T i):=List.count_pos_iff.1 (by omega)
     exact⟨W.1,W.2,h.st.used G (bX _ V),λh9=>h.st.inner G h9 V⟩
    ·have V:c∈ex:=List.count_pos_iff.1 h7
     exact⟨W.1,W.2,h.st.usedEx V,λh9=>h.st.apartEx G (bV _ h9) V⟩
   exact BN hB (λhK=>(tL hR hK).2) λc z k hk=>by
    have :=aa c z;exact p2 c this.2.1 this.1 this.2.2.1 this.2.2.2 k hk
  have :=h.st.nodesUp h.abs p2 G (λj _=>h.st.filesOwn G j) n j;rw[hn] at this;exact this
 ·refine og.puts (L:=uE++((List.range 8).map (824+8*i+·)++Eh ((aZ (az X (cj X (own i)))).take (dv n)))) ?_ λp hp=> ?_
  ·rw[aC,aC,vQ,U]
   simp[uE];omega
  ·rw[aT,aT]
   rcases zb G hR (own:=own i) rfl h2 hp with J|J|J
   ·exact .inl (sI J)
   ·exact .inr (.inl (Ht J))
   ·exact .inr (.inr (zh J.1 J.2))
theorem nM.freeGive(h:nM X T own ex M){i:Nat}(U:i<32):(aZ (az X (cj X (own i)))).length=(aZ X).length+(own i).length:=by
 rcases h.st.each U with ⟨-,z⟩|⟨-,-,e⟩
 ·exact sF z.mem z.nodup (λc J=>h.st.used U (bV _ J)) λc J G=>(iD (own i) X h.st.w64 h.st.len).2.1 c J G
 ·rw[e];rfl
theorem nM.put(h:nM X T own ex M){i:Nat}(hi:(M i).K≠0){n:bT}(hB:n.B.length=13)(W:cm n){r:Int}{qs:List (Int×Int)}(hp:nV X (i:Int) n r qs){ex':List Nat}
  (hc:∀b,b<256->(dm n).count b+ex'.count b=(dm (nT T i)).count b+ex.count b) (hx:∀c∈ex',c≠0/\c<256) (ht:j5 X n):
  (r=7/\qs=[]/\(aZ X).length+dv (nT T i)<dv n)\/(r=0/\∃U,nM (az X qs) (nX T i n) U ex' (nv M i (tK X n))/\pg X (az X qs) (own i)/\(aZ (az X qs)).length+dv n=(aZ X).length+dv (nT T i)/\(∀k,k<816->(az X qs).getD k 0=X.getD k 0)/\
   og X (az X qs) (12+8*dv n)):=by
 have jG:=h.rng hi;have z:=h.store hi;have V:=h.freeGive jG;rw[z.ownLen] at V;rcases hp.over z with ⟨-,G,-⟩|⟨G,-,h2,J⟩|⟨G,-,h2,J⟩
 ·exact absurd W G
 ·exact .inl ⟨G,J,by omega⟩
 ·right
  rw[aG] at J;subst J;obtain⟨U,p1,p2,p3,p4,p5,-,-⟩:=h.putAt jG hB W h2 hc hx ht;rw[z.ownLen] at p3;exact⟨G,U,p1,p2,p3,p4,p5⟩
theorem nM.new(h:nM X T own ex M){n:bT}(hB:n.B.length=13)(hR:cm n)(hn:dv n=0)(hf:dm n=[])(ht:j5 X n){i r:Int}{qs:List (Int×Int)}(hp:abV X n i r qs):
  (r=7/\qs=[]/\vL M=Option.none)\/(r=0/\∃j:Nat,i=(j:Int)/\vL M=some j/\j<32/\(M j).K=0/\∃cW,nM (az X qs) (nX T j n) cW ex (nv M j (tK X n))/\(aZ (az X qs)).length=(aZ X).length/\(∀k,k<816->(az X qs).getD k 0=X.getD k 0)/\og X (az X qs) 12):=by
 rcases hp with ⟨U,-,z,V⟩|⟨j,G,ac,ae,U⟩
 ·refine .inl ⟨U,V,?_⟩
  unfold vL;rw[List.find?_eq_none];intro k J;rw[bW] at J;have :=(h.free J).2;simp;exact λe=>z k J (this e)
 ·have Cf:=(h.free G).1 ac
  have W:vL M=some j:=by
   unfold vL;rw[List.find?_range_eq_some];refine⟨by simpa using Cf,by simpa using G,λk J=> ?_⟩;have :=(h.free (i:=k) (by omega)).2;simp;exact λe=>ae k J (this e)
  obtain⟨e1,e2⟩:=h.none G Cf;rcases U with ⟨-,-,z,-⟩|⟨-,-,-,z,-⟩|⟨z,V,-,h4,h5⟩
  ·exact absurd hR z
  ·omega
  ·right
   subst h5;have aa:dv n<=(aZ (az X (cj X (own j)))).length:=by omega
   obtain⟨cW,p1,-,p3,p4,p5,-,-⟩:=h.putAt G hB hR aa (ex':=ex) (λb _=>by rw[hf,e1];rfl) h.st.exr ht;rw[e2] at p1 p3 p4 p5;rw[hn] at p3 p5;exact⟨z,j,V,W,G,Cf,cW,p1,by simpa using p3,p4,p5⟩
theorem nM.drop(h:nM X T own ex M){i:Nat}(hi:(M i).K≠0){r:Int}{qs:List (Int×Int)}(J:NZ X (i:Int) r qs):
  r=0/\∃cW,nM (az X qs) (nX T i cg) cW ex (nv M i wh)/\(aZ X).length<=(aZ (az X qs)).length/\(∀k,k<816->(az X qs).getD k 0=X.getD k 0)/\og X (az X qs) 12:=by
 have W:=h.rng hi;have G:=h.store hi;rcases J with ⟨-,z,-⟩|⟨-,-,z,-⟩|⟨-,-,-,z,-⟩|⟨z,n,o,hs,V⟩
 ·exact absurd ⟨by omega,by omega⟩ z
 ·exact absurd z G.notFree
 ·exact absurd G (z _ _)
 ·obtain⟨e1,e2⟩:=G.uniq hs
  subst e1 e2;rw[aG] at V;subst V;obtain⟨p1,p2,p3,p4⟩:=h.st.drop W;refine⟨z,_,⟨p1,λj=> ?_⟩,by omega,p4,?_⟩
  ·exact h.st.nodesUp h.abs p2 W (λj _ c _=>by simp) cg j
  ·refine og.puts (L:=uE++(List.range 8).map (824+8*i+·)) (by simp[uE]) λp J=> ?_
   rw[aT];rcases aT.1 J with U|U
   ·exact .inl (sI (tJ _ _ _ U))
   ·obtain⟨j,hj,h4,-⟩:=mg U
    exact .inr (Ht (by omega))
end
theorem Ti:∀E:List (ByteArray×Int),(eB E 0).length+(eB E 1).length+(eB E 2).length+(eB E 3).length=E.length
 | []=>rfl
 |p::E=>by
  have J:=Ti E;have G:=Qo p;have z:∀b,(eB (p::E) b).length=(eB E b).length+(if K7 p=b then 1 else 0):=λb=>by
   unfold eB;rw[fD];by_cases h:K7 p=b
   ·simp[h]
   ·simp[h]
  rw[z,z,z,z,cr];rcases (show K7 p=0\/K7 p=1\/K7 p=2\/K7 p=3 by omega) with h|h|h|h<;>rw[h]<;>simp<;>omega
theorem nK (n:bT):eW n=(if 6<(fu n.B).length then 1 else 0)+((eB n.E 0).length+2)/3+((eB n.E 1).length+2)/3+((eB n.E 2).length+2)/3+((eB n.E 3).length+2)/3:=rfl
theorem Rn (z:cm n):n.E.length<=24:=by
 rcases z.2.2 with ⟨-,h⟩|⟨-,h⟩
 ·have :=h.2.1;omega
 ·exact h.1
theorem sJ (h:cm n):dv n<=11:=by
 have U:=NT h;have J:=Rn h;have G:=Ti n.E;have z:=nK n;unfold dv;split
 ·rw[z];split<;>omega
 ·omega
theorem VP (hF:n'.F=n.F)(J:n'.B=n.B)(z:∀b,(eB n'.E b).length<=(eB n.E b).length)(V:n'.E.length<=n.E.length):dv n'<=dv n:=by
 have W:=z 0;have h1:=z 1;have h2:=z 2;have h3:=z 3;unfold dv;rw[hF];split
 ·rw[nK,nK,J];omega
 ·unfold eY bp
  rw[J];by_cases G:n.B.drop 5≠List.replicate 8 0
  ·rw[aB (.inr G),aB (.inr G)];omega
  ·by_cases U:5<(n'.E.length+3)/4
   ·rw[aB (.inl U),aB (.inl (by omega))];omega
   ·rw[aA (λh=>h.elim U G)]
    split<;>omega
theorem LV (A B:List (ByteArray×Int))(b:Nat):eB (A++B) b=eB A b++eB B b:=eJ ..
theorem VQ{A M B:List (ByteArray×Int)}(h:n.E=A++(M++B)):dv (lA n (A++B))<=dv n:=by
 refine VP rfl rfl (λb=> ?_) ?_
 ·show(eB (A++B) b).length<=_
  rw[h,LV,LV,LV,aC,aC,aC];omega
 ·show(A++B).length<=_
  rw[h];simp
theorem BS {l l':List Int}:∀k,(∀j,j<k->sS l' j->sS l j)->(gD l' k).length<=(gD l k).length
 |0,_=>by simp[gD]
 |k+1,h=>by
  have G:=BS (l:=l) (l':=l') k λj J=>h j (by omega)
  unfold gD;by_cases z:sS l' k
  ·rw[aB z,aB (h k (by omega) z)]
   simp;omega
  ·rw[aA z]
   split
   ·simp;omega
   ·exact G
theorem VR{c:Nat}(hF:n'.F=n.F)(hE:n'.E=n.E)(W:n'.B.length=13)(z:∀k,n'.B.getD k 0=if k<c then n.B.getD k 0 else 0):dv n'<=dv n:=by
 unfold dv;rw[hF];split
 ·rw[nK,nK,hE]
  have :=BS (l:=n.B) (l':=n'.B) 13 λj hj hs=>by
   obtain⟨h,h2⟩:=hs;by_cases U:j<c
   ·rw[z,aB U] at h
    refine⟨h,λJ=>h2 ?_⟩;obtain⟨a1,a2,a3,a4,a5⟩:=J;unfold mf;rw[z,z,aB U,aB (by omega:j-1<c)];exact⟨a1,a2,a3,a4,a5⟩
   ·rw[z,aA U] at h
    unfold DR at h;omega
  unfold fu;split
  ·next h6=>rw[aB];omega
  ·omega
 ·unfold eY
  rw[hE];by_cases G:n.B.drop 5≠List.replicate 8 0
  ·rw[aB (c:=5<bp n.E.length\/n.B.drop 5≠List.replicate 8 0) (.inr G)]
   split<;>omega
  ·have G:n.B.drop 5=List.replicate 8 0:=by simpa using G
   have V:n'.B.drop 5=List.replicate 8 0:=by
    apply cU
    ·simp[W]
    ·intro k h h2
     have J:=z (5+k);have h4:(n.B.drop 5).getD k 0=0:=by
      rw[G,aj,bj];split<;>rfl
     rw[bM] at h;have h5:n'.B[5+k]'(by omega)=n'.B.getD (5+k) 0:=by simp[show 5+k<n'.B.length by omega]
     have h6:(n.B.drop 5).getD k 0=n.B.getD (5+k) 0:=by simp
     rw[List.getElem_drop,h5,J,List.getElem_replicate];split
     ·omega
     ·rfl
   rw[G,V];exact aH _
theorem Hu (hF:n'.F=n.F)(h:n'.E=n.E)(z:n'.B=n.B):dv n'=dv n:=by
 unfold dv eY;rw[hF,nK,nK,h,z]
theorem VS{a b:ByteArray}(h:J5 a b):leB b a=false:=by
 have G:¬J5 b a:=λz=>mG _ (vJ h z)
 have z:b≠a:=λe=>by subst e;exact mG _ h
 unfold leB;rw[Bool.or_eq_false_iff];refine⟨?_,?_⟩
 ·cases h3:Op.bytesLess b.toList a.toList
  ·rfl
  ·exact absurd h3 G
 ·cases h3:(b.toList==a.toList)
  ·rfl
  ·exact absurd (J6 (by simpa using h3)) z
def Jh (E:List (ByteArray×Int)):Prop:=E.length<=24/\(∀e∈E,iy (bl e.1)=true/\0<=e.2/\e.2<32)/\yt E
theorem Tj{E:List (ByteArray×Int)}(h:Jh E):∀k,k<E.length->Ey E k:=λk z=>by
 have G:eX E k=E[k].1:=by simp[eX,z]
 have U:jq E k=E[k].2:=by simp[jq,z]
 obtain⟨V,h2,W⟩:=h.2.1 E[k] (bG z);refine⟨by rw[G];exact V,by rw[U];omega,λh0=> ?_⟩;have J:eX E (k-1)=(E[k-1]'(by omega)).1:=by simp[eX,show k-1<E.length by omega]
 rw[G,J];exact VS (df.1 h.2.2 (k-1) k (by omega) z (by omega))
theorem aeE (U:cm n)(hK:n.K=2):Jh n.E:=by
 rcases U.2.2 with ⟨h,-⟩|⟨-,h⟩
 ·omega
 ·refine⟨h.1,λe V=> ?_,J7 h⟩
  obtain⟨k,z,rfl⟩:=bY V;have G:=h.2.2.2 k z;have W:eX n.E k=n.E[k].1:=by simp[eX,z]
  have J:jq n.E k=n.E[k].2:=by simp[jq,z]
  rw[Ey,W,J] at G;exact⟨G.1,by omega,by omega⟩
theorem Kp (z:cm n)(U:n.K=2){E:List (ByteArray×Int)}(h:Jh E):cm (lA n E):=by
 rcases z.2.2 with ⟨G,-⟩|⟨G,J⟩
 ·omega
 ·exact⟨z.1,z.2.1,.inr ⟨G,h.1,rfl,J.2.2.1,Tj h⟩⟩
section
variable {X:List Int} {T:List (bT×Value)} {own:Nat->List Nat} {ex:List Nat} {M:Nat->Nd}
theorem nM.node(h:nM X T own ex M){i:Nat}(G:(M i).K=2):(M i).D=[]:=by
 have e:=h.abs i;have z:=h.kind i;rw[e];show(if (nT T i).K=1 then _ else [])=[];rw[aA]
theorem nM.ed(h:nM X T own ex M){d:Nat}(z:(M d).K=2):Jh (M d).E:=by
 rw[<-h.ents];exact aeE (h.store (by omega)).right (by rw[h.kind];exact z)
def Goes (X:List Int) (qs:List (Int×Int)) (ex:List Nat) (M':Nat->Nd) (n:Nat):Prop:=
 ∃h z,nM (az X qs) h z ex M'/\(∀k,k<816->(az X qs).getD k 0=X.getD k 0)/\og X (az X qs) n
theorem nM.edit(h:nM X T own ex M){d:Nat}(V:(M d).K=2){E:List (ByteArray×Int)}(hE:Jh E){r:Int}{qs:List (Int×Int)}(hp:nV X (d:Int) (lA (nT T d) E) r qs):
  (r=7/\qs=[]/\(aZ X).length+dv (nT T d)<dv (lA (nT T d) E))\/(r=0/\Goes X qs ex (oN M d E) 100/\(aZ (az X qs)).length+dv (lA (nT T d) E)=(aZ X).length+dv (nT T d)):=by
 have z:=h.store (i:=d) (by omega);have J:(nT T d).K=2:=by rw[h.kind];exact V
 have U:=Kp z.right J hE;have hn:tK X (lA (nT T d) E)={ M d with E:=E }:=by
  unfold tK;have W:(lA (nT T d) E).K=(M d).K:=h.kind d;have e2:(lA (nT T d) E).L=(M d).L:=h.links d;rw[W,e2,aA];show({ K:=(M d).K,L:=(M d).L,D:=[],E:=E }:Nd)={ K:=(M d).K,L:=(M d).L,D:=(M d).D,E:=E };rw[h.node V]
 rcases h.put (i:=d) (by omega) (n:=lA (nT T d) E) z.len U hp (ex':=ex) (λb _=>rfl) h.st.exr (λG=>by
   have W:(lA (nT T d) E).K=(M d).K:=h.kind d;omega) with G|⟨G,cW,p1,-,p3,p4,p5⟩
 ·exact .inl G
 ·rw[hn] at p1
  exact .inr ⟨G,⟨_,_,p1,p4,p5.mono (by have :=sJ U;omega)⟩,p3⟩
def wZ (E:List (ByteArray×Int)) (nm:ByteArray) (i:Int):List (ByteArray×Int):=xG (ja E nm) (nm,i)
theorem VT {E A M B:List (ByteArray×Int)}{nm:ByteArray}(h:iP E A M B nm):iP (ja E nm) A [] B nm:=⟨by rw[tI h];rfl,h.ahead,h.behind,.inl rfl⟩
theorem AK {E A M B:List (ByteArray×Int)}{nm:ByteArray}(h:iP E A M B nm)(i:Int):wZ E nm i=A++([(nm,i)]++B):=AJ (VT h) i
theorem Zl {E:List (ByteArray×Int)}(h:Jh E)(nm:ByteArray):Jh (ja E nm):=
 ⟨cE (vM _ _) h.1,λe z=>h.2.1 e (pW z),h.2.2.sublist List.filter_sublist⟩
theorem Zo {E:List (ByteArray×Int)}(h:Jh E){nm:ByteArray}{i:Int}(J:(wZ E nm i).length<=24)(V:iy (bl nm)=true)(G:0<=i/\i<32):Jh (wZ E nm i):=by
 refine⟨J,λe U=> ?_,?_⟩
 ·rcases Hf U with rfl|W
  ·exact⟨V,G.1,G.2⟩
  ·exact h.2.1 e (pW W)
 ·obtain⟨A,M,B,z⟩:=lL h.2.2 nm
  rw[AK z];exact z.rises h.2.2 _ (.inr ⟨i,rfl⟩)
def tN (X:List Int) (ex:List Nat) (M:Nat->Nd) (d:Nat) (nm:ByteArray) (i:Int) (r:Int) (qs:List (Int×Int)):Prop:=
 (r=7/\qs=[]/\(24<(wZ (M d).E nm i).length\/(aZ X).length<11))\/(r=0/\(wZ (M d).E nm i).length<=24/\Goes X qs ex (oN M d (wZ (M d).E nm i)) 100)
theorem nM.enter(h:nM X T own ex M){d:Nat}(z:(M d).K=2){nm:ByteArray}{i:Int}(hn:iy (bl nm)=true)(hi:0<=i/\i<32)(U:(wZ (M d).E nm i).length<=24){r:Int}{qs:List (Int×Int)}(W:nV X (d:Int) (lA (nT T d) (wZ (M d).E nm i)) r qs):tN X ex M d nm i r qs:=by
 have V:=Zo (h.ed z) U hn hi;rcases h.edit z V W with ⟨J,G,h3⟩|⟨J,G,-⟩
 ·refine .inl ⟨J,G,.inr ?_⟩
  have :=sJ (Kp (h.store (i:=d) (by omega)).right (by rw[h.kind];exact z) V);omega
 ·exact .inr ⟨J,U,G⟩
def AL (X:List Int) (ex:List Nat) (M:Nat->Nd) (d:Nat) (nm:ByteArray) (r:Int) (qs:List (Int×Int)):Prop:=
 r=0/\Goes X qs ex (oN M d (ja (M d).E nm)) 100/\(aZ X).length<=(aZ (az X qs)).length
theorem nM.leave(h:nM X T own ex M){d:Nat}(z:(M d).K=2){nm:ByteArray}{r:Int}{qs:List (Int×Int)}(V:nV X (d:Int) (lA (nT T d) (ja (M d).E nm)) r qs):AL X ex M d nm r qs:=by
 have hE:=Zl (h.ed z) nm;obtain⟨A,N,B,J⟩:=lL (h.ed z).2.2 nm;have aa:dv (lA (nT T d) (ja (M d).E nm))<=dv (nT T d):=by
  rw[tI J];exact VQ (M:=N) (by rw[h.ents];exact J.eq)
 rcases h.edit z hE V with ⟨U,G,W⟩|⟨U,G,W⟩
 ·omega
 ·exact⟨U,G,by omega⟩
def Hv (n:Nd):Nd:=if n.L=1 then wh else { n with L:=n.L-1 }
def rY (X:List Int) (ex:List Nat) (M:Nat->Nd) (i:Nat) (r:Int) (qs:List (Int×Int)):Prop:=
 r=0/\Goes X qs ex (nv M i (Hv (M i))) 100/\(aZ X).length<=(aZ (az X qs)).length
theorem nM.unlinkDrop(h:nM X T own ex M){i:Nat}(U:(M i).K≠0)(J:(M i).L=1){r:Int}{qs:List (Int×Int)}(G:NZ X (i:Int) r qs):rY X ex M i r qs:=by
 obtain⟨h1,V,p1,z,p3,W⟩:=h.drop U G;refine⟨h1,⟨nX T i cg,V,?_,p3,W.mono (by omega)⟩,z⟩;unfold Hv;rw[aB J];exact p1
theorem Ro {n:bT}(h:cm n){l:Int}(z:0<=l/\l<=65535):cm { n with L:=l }:=⟨h.1,z,h.2.2⟩
theorem nM.links'(h:nM X T own ex M){i:Nat}(G:(M i).K≠0){l:Int}(hl:0<=l/\l<=65535){r:Int}{qs:List (Int×Int)}(hp:nV X (i:Int) { nT T i with L:=l } r qs):
  r=0/\Goes X qs ex (nv M i { M i with L:=l }) 100/\(aZ X).length=(aZ (az X qs)).length:=by
 have z:=h.store G;have U:=Ro z.right hl;have e:dv { nT T i with L:=l }=dv (nT T i):=Hu rfl rfl rfl;have hn:tK X { nT T i with L:=l }={ M i with L:=l }:=by rw[h.abs i];rfl
 rcases h.put G (n:={ nT T i with L:=l }) z.len U hp (ex':=ex) (λb _=>rfl) h.st.exr (h.st.tails i (h.rng G)) with ⟨-,-,J⟩|⟨J,cW,V,-,p3,p4,W⟩
 ·omega
 ·rw[hn] at V
  exact⟨J,⟨_,_,V,p4,W.mono (by have :=sJ U;revert this;generalize dv { nT T i with L:=l }=a;omega)⟩,by omega⟩
theorem nM.unlinkPut(h:nM X T own ex M){i:Nat}(z:(M i).K≠0)(hL:1<(M i).L){r:Int}{qs:List (Int×Int)}(G:nV X (i:Int) { nT T i with L:=(M i).L-1 } r qs):rY X ex M i r qs:=by
 have J:=(h.store z).right.2.1;rw[h.links] at J;obtain⟨V,U,W⟩:=h.links' z (l:=(M i).L-1) (by omega) G;refine⟨V,?_,by omega⟩;unfold Hv;rw[aA];exact U
end
structure xu (X:List Int) (T:List (bT×Value)) (own:Nat->List Nat) (i:Nat) (l:List Nat) (M:Nat->Nd):Prop where
 st:rA X T (nX T i cg) own l
 abs:∀j,j≠i->M j=tK X (nT T j)
theorem Zp (own:Nat->List Nat)(i:Nat):Ja own i (own i)=own:=by
 funext j
 unfold Ja;split
 ·next e=>rw[e]
 ·rfl
section
variable {X:List Int} {T:List (bT×Value)} {own:Nat->List Nat} {ex l:List Nat} {M:Nat->Nd}
theorem nM.opened(h:nM X T own [] M){i:Nat}(G:i<32):xu X T own i (dm (nT T i)) M:=by
 have z:=λj=>pX h.st.gots.len G cg j
 refine⟨⟨h.st.len,h.st.w64,h.st.sup,h.st.gots,h.st.all,λb W=> ?_,λc hc=>h.st.rng G (bX _ hc),λj hj=> ?_,by unfold nX;rw[cX];exact h.st.gots.len,λj=> ?_⟩,λj _=>h.abs j⟩
 ·have U:=(Hg h.st.gots.len own G cg (own i) b 32).2 G
  have J:=h.st.once b W;rw[Zp,uC,br] at U;unfold nI at U;rw[fL] at U;unfold xE at J ⊢;rw[List.count_nil,dB] at J;rw[show kr (nX T i cg) own 32 b+(dm (nT T i)).count b=kr T own 32 b by omega];exact J
 ·rw[z]
  split
  ·intro V;simp[cg] at V
  ·exact h.st.tails j hj
 ·rw[z]
  split
  ·exact .inr rfl
  ·exact .inl rfl
theorem xu.vir{i:Nat}(_:xu X T own i l M){j:Nat}(h:j≠i):nT (nX T i cg) j=nT T j:=by
 unfold nX nT;rw[aj,List.getElem?_set_ne (cY h),<-aj]
theorem xu.step{i:Nat}(h:xu X T own i l M){Y:List Int}{l' m:List Nat}(hs:rA Y T (nX T i cg) own l')(V:pg X Y m)(W:∀c∈m,c∈l):xu Y T own i l' M:=by
 refine⟨hs,λj z=> ?_⟩;rw[h.abs j z];have :=h.st.nodes V (j:=j) λc J G=>by
  rcases dE j 32 with U|U
  ·exact h.st.apartEx U (bX _ J) (W c G)
  ·rw[h.vir z,h.st.gots.zero U,uC] at J;simp at J
 rw[h.vir z] at this;exact this.symm
theorem xu.words{i:Nat}(h:xu X T own i l M)(W:i<32){qs:List (Int×Int)}(U:∀p∈qs,1080<=p.1.toNat/\(p.1.toNat-1080)/8∈l)(z:In64 (az X qs)):xu (az X qs) T own i l M/\aZ (az X qs)=aZ X/\∀k,k<1080->(az X qs).getD k 0=X.getD k 0:=by
 have J:nT (nX T i cg) i=cg:=by rw[pX h.st.gots.len W,aB rfl]
 obtain⟨h1,h2,h3,h4⟩:=h.st.words W (λp G=>⟨(U p G).1,.inr (U p G).2⟩) z (by rw[J];intro hK;simp[cg] at hK);exact⟨h.step h1 h2 (λc V=>by rw[J,uC] at V;simpa using V),h3,h4⟩
theorem xu.close{i:Nat}(h:xu X T own i l M)(U:i<32){n:bT}(hB:n.B.length=13)(W:cm n)(G:eH X (i:Int) (nT T i) (own i)){r:Int}{qs:List (Int×Int)}(hp:nV X (i:Int) n r qs)
  (z:∀b,b<256->(dm n).count b=l.count b) (ht:j5 X n):
  (r=7/\qs=[]/\(aZ X).length+dv (nT T i)<dv n)\/(r=0/\Goes X qs [] (nv M i (tK X n)) 100):=by
 have ah:(aZ (az X (cj X (own i)))).length=(aZ X).length+(own i).length:=sF G.mem G.nodup (λc z=>h.st.used U (bV _ z)) λc z ac=>(iD (own i) X h.st.w64 h.st.len).2.1 c z ac
 rw[G.ownLen] at ah;have hz:nT (nX T i cg) i=cg:=by rw[pX h.st.gots.len U,aB rfl]
 rcases hp.over G with ⟨-,J,-⟩|⟨J,-,h2,h3⟩|⟨J,-,h2,h3⟩
 ·exact absurd W J
 ·exact .inl ⟨J,h3,by omega⟩
 ·right
  rw[aG] at h3;subst h3;obtain⟨p1,p2,p3,p4⟩:=h.st.put U hB W h2 (ex':=[]) (λb hb=>by rw[hz,uC,z b hb];simp) (by simp) ht;have af:nX (nX T i cg) i n=nX T i n:=by unfold nX;rw[List.set_set]
  rw[af] at p1;have ae:((aZ (az X (cj X (own i)))).take (dv n)).length=dv n:=by rw[aJ];omega
  have ai:=sJ W;refine⟨J,_,_,⟨p1,λj=> ?_⟩,p4,og.puts (L:=uE++((List.range 8).map (824+8*i+·)++Eh ((aZ (az X (cj X (own i)))).take (dv n)))) ?_ λp hp=> ?_⟩
  ·rw[pX h.st.gots.len U]
   by_cases e:i=j
   ·subst e
    rw[nH,aB rfl];exact(BN hB (λhK=>(tL W hK).2) λc aa k hk=>by
     have h4:=qC hB W c aa;have h5:c∈l:=by
      have :=z c h4.2;have V:0<(dm n).count c:=List.count_pos_iff.2 aa;exact List.count_pos_iff.1 (by omega)
     exact p2 c h4.2 h4.1 (h.st.usedEx h5) (λh7=>h.st.apartEx U (bV _ h7) h5) k hk).symm
   ·rw[dI _ _ (cY e),aA e,h.abs j (cY e)]
    have :=h.st.nodes p2 (j:=j) λc z ag=>by
     rcases dE j 32 with J|J
     ·exact h.st.apart J U (cY e) (bX _ z) (bV _ ag)
     ·rw[h.vir (cY e),h.st.gots.zero J,uC] at z;simp at z
    rw[h.vir (cY e)] at this;exact this.symm
  ·rw[aC,aC,vQ,ae]
   simp[uE];omega
  ·rw[aT,aT]
   rcases zb U W (own:=own i) rfl h2 hp with V|V|V
   ·exact .inl (sI V)
   ·exact .inr (.inl (Ht V))
   ·exact .inr (.inr (zh V.1 V.2))
end
theorem Hw:∀(qs:List (Int×Int)) (X:List Int) {k:Nat} {v:Int},k<X.length->(∀q∈qs,q.1.toNat=k->q.2=v)->((∃q∈qs,q.1.toNat=k)\/X.getD k 0=v)->(az X qs).getD k 0=v
 | [],X,k,v,_,_,he=>by
  rcases he with ⟨q,V,-⟩|h
  ·simp at V
  ·exact h
 |q::qs,X,k,v,hk,h,he=>by
  show(az (X.set q.1.toNat q.2) qs).getD k 0=v;refine Hw qs _ (by rw[cX];exact hk) (λp z=>h p (by simp[z])) ?_;by_cases e:q.1.toNat=k
  ·right
   rw[jo _ _ _ _ (by omega),aB e];exact h q (by simp) e
  ·rcases he with ⟨p,z,G⟩|J
   ·rcases aL.1 z with rfl|z
    ·exact absurd G e
    ·exact .inl ⟨p,z,G⟩
   ·right
    by_cases U:q.1.toNat<X.length
    ·rw[jo _ _ _ _ U,aA e];exact J
    ·rw[jf (by omega)];exact J
def rQ (c:List Int) (a:Nat):Int:=((l7 (((c.drop a).take 8).map Int.toNat):Nat):Int)
def ft (B c:List Int):Nat->List (Int×Int)
 |0=>[]
 |k+1=>ft B c k++(if B.getD k 0=0 then [] else (List.range 8).map λw:Nat=>(iO (B.getD k 0)+(w:Int),rQ c (64*k+8*w)))
def AO (c:List Int):Prop:=c.length=832/\∀x∈c,0<=x/\x<256
theorem AO.get(h:AO c)(k:Nat):0<=c.getD k 0/\c.getD k 0<256:=by
 by_cases z:k<c.length
 ·rw[aj,aD z]
  exact h.2 _ (bG z)
 ·rw[aj,aP (by omega)]
  decide
theorem VU (h:AO c)(a:Nat){j:Nat}(G:j<8):rJ (rQ c a).toNat j=(c.getD (a+j) 0).toNat:=by
 unfold rQ;rw[aG,Jr]
 ·rw[aj,bJ,bU,aB G,b8,aj]
  cases c[a+j]? <;>rfl
 ·intro x J
  obtain⟨y,z,rfl⟩:=bF.1 J;have :=h.2 y (gA (bO z));omega
theorem VV (h:AO c)(a:Nat):0<=rQ c a/\rQ c a<18446744073709551616:=by
 have J:∀x∈((c.drop a).take 8).map Int.toNat,x<256:=λx G=>by
  obtain⟨y,z,rfl⟩:=bF.1 G;have :=h.2 y (gA (bO z));omega
 have V:=Fv J;have U:256^(((c.drop a).take 8).map Int.toNat).length<=256^8:=jh (by decide) (by simp;omega);unfold rQ;omega
theorem tO {B c:List Int}{p:Int×Int}:∀{m:Nat},p∈ft B c m↔∃k:Nat,k<m/\B.getD k 0≠0/\∃w:Nat,w<8/\p=(iO (B.getD k 0)+(w:Int),rQ c (64*k+8*w))
 |0=>by simp[ft]
 |m+1=>by
  unfold ft;rw[aT,tO (m:=m)];constructor
  ·rintro (⟨k,J,z⟩|h)
   ·exact⟨k,by omega,z⟩
   ·split at h
    ·simp at h
    ·next h0=>
     obtain⟨w,G,rfl⟩:=bF.1 h;exact⟨m,by omega,h0,w,by simpa using G,rfl⟩
  ·rintro⟨k,J,z,w,G,rfl⟩
   by_cases e:k=m
   ·subst e
    right
    rw[aA z];exact bF.2 ⟨w,by simpa using G,rfl⟩
   ·exact .inl ⟨k,by omega,z,w,G,rfl⟩
theorem tP (B c:List Int):∀m,(ft B c m).length<=8*m
 |0=>by simp[ft]
 |m+1=>by
  unfold ft;have :=tP B c m;rw[aC];split<;>simp<;>omega
theorem mQ (z:lF B){k:Nat}(h:k<13):0<=B.getD k 0/\B.getD k 0<256:=(z k h).1
theorem Zq (G:lF B){j k:Nat}(U:j<13)(J:k<13)(h:B.getD k 0≠0)(e:B.getD j 0=B.getD k 0):j=k:=by
 rcases Nat.lt_trichotomy j k with z|z|z
 ·exact absurd e ((G k J).2 h j z)
 ·exact z
 ·exact absurd e.symm ((G j U).2 (by rw[e];exact h) k z)
theorem Hx (G:n.B.length=13){k:Nat}(z:k<13)(h:n.B.getD k 0≠0):(n.B.getD k 0).toNat∈dm n:=by
 unfold dm ey;refine bF.2 ⟨n.B.getD k 0,List.mem_filter.2 ⟨?_,by simpa using h⟩,rfl⟩;rw[aW (by omega),aj,aD (by omega)];exact bG _
section
variable {X:List Int} {n:bT} {c:List Int}
theorem OL (J:n.B.length=13)(U:lF n.B):∀p∈ft n.B c 13,1080<=p.1.toNat/\(p.1.toNat-1080)/8∈dm n:=by
 intro p z;obtain⟨k,h,G,w,W,rfl⟩:=tO.1 z;have h1:=mQ U h;have V:=Hx J h G;have e:(iO (n.B.getD k 0)+(w:Int)).toNat=1080+8*(n.B.getD k 0).toNat+w:=by
  unfold iO;rw[aA];omega
 dsimp only
 rw[e];refine⟨by omega,?_⟩;rwa[show(1080+8*(n.B.getD k 0).toNat+w-1080)/8=(n.B.getD k 0).toNat by omega]
theorem VW (hX:X.length=3128)(J:lF n.B){k w:Nat}(z:k<13)(hw:w<8)(V:n.B.getD k 0≠0):(az X (ft n.B c 13)).getD (1080+8*(n.B.getD k 0).toNat+w) 0=rQ c (64*k+8*w):=by
 have h1:=mQ J z;refine Hw _ _ (by omega) (λq hq U=> ?_) (.inl ⟨_,tO.2 ⟨k,z,V,w,hw,rfl⟩,?_⟩)
 ·obtain⟨G,h,aa,w',W,rfl⟩:=tO.1 hq
  have h2:=mQ J h;have e:(iO (n.B.getD G 0)+(w':Int)).toNat=1080+8*(n.B.getD G 0).toNat+w':=by
   unfold iO;rw[aA];omega
  dsimp only at U
  rw[e] at U;have e1:G=k:=Zq J h z V (by omega);subst e1;have e2:w'=w:=by omega
  rw[e2]
 ·dsimp only
  unfold iO;rw[aA];omega
theorem OM (z:X.length=3128)(G:lF n.B)(U:AO c){k j:Nat}(h:k<13)(V:j<64)(J:n.B.getD k 0≠0):rJ ((az X (ft n.B c 13)).getD (1080+8*(n.B.getD k 0).toNat+j/8) 0).toNat (j%8)=(c.getD (64*k+j) 0).toNat:=by
 rw[VW z G h (by omega) J,VU U _ (by omega)]
 congr 2
 omega
theorem zi (h:In64 X)(G:AO c):In64 (az X (ft n.B c 13)):=h.put λp z=>by
 obtain⟨k,J,V,w,U,rfl⟩:=tO.1 z;exact VV G _
theorem Hy (G:X.length=3128)(J:lF n.B)(h:AO c){k:Nat}(U:k<832):mo (az X (ft n.B c 13)) n k=if n.B.getD (k/64) 0=0 then 0 else c.getD k 0:=by
 unfold mo;split
 ·rfl
 ·next hb=>
  have z:=OM G J h (k:=k/64) (j:=k%64) (by omega) (by omega) hb;rw[show k%64%8=k%8 by omega,show 64*(k/64)+k%64=k by omega] at z;rw[z];have :=h.get k;omega
theorem Kq (G:X.length=3128)(J:lF n.B)(W:AO c)(z:∀k:Nat,k<832->n.S<=(k:Int)->c.getD k 0=0):j5 (az X (ft n.B c 13)) n:=λ_ k h U j V hS=>by
 rw[OM G J W h V U,z _ (by omega) (by omega)];rfl
theorem OO (_:n.B.length=13)(_:lF n.B):og X (az X (ft n.B c 13)) 104:=
 og.puts (L:=(ft n.B c 13).map (λp=>p.1.toNat)) (by rw[bZ];exact tP _ _ 13) λp h=>bF.2 ⟨p,h,rfl⟩
def iT (X:List Int) (n:bT):List Int:=(List.range 832).map (mo X n)
theorem zj (X:List Int)(n:bT){k:Nat}(h:k<832):(iT X n).getD k 0=mo X n k:=by simp[iT,h]
theorem kP (X:List Int)(n:bT):AO (iT X n):=⟨by simp[iT],λx h=>by
 obtain⟨k,-,rfl⟩:=bF.1 h;exact Km X n k⟩
theorem Dg (h:j5 X n)(z:n.K=1){k:Nat}(G:k<832)(J:n.S<=(k:Int)):mo X n k=0:=by
 unfold mo;split
 ·rfl
 ·next hb=>
  have :=h z (k/64) (by omega) hb (k%64) (by omega) (by omega);rw[show k%64%8=k%8 by omega] at this;rw[this];rfl
end
def fJ (B:List Int) (a e:Nat):List Nat:=(List.range e).filter λk=>decide (a<=k)&&(B.getD k 0==0)
theorem Rp (B:List Int)(a e:Nat):fJ B a (e+1)=fJ B a e++(if a<=e/\B.getD e 0=0 then [e] else []):=by
 unfold fJ;rw[dU,eJ]
 congr 1
 by_cases h:a<=e/\B.getD e 0=0
 ·have z:(decide (a<=e)&&(B.getD e 0==0))=true:=by rw[h.2];simp[h.1]
  rw[aB h,fD,aB z,List.filter_nil]
 ·have z:¬(decide (a<=e)&&(B.getD e 0==0))=true:=λG=>h (by
   rw[gj,decide_eq_true_eq,beq_iff_eq] at G;exact G)
  rw[aA h,fD,aA z,List.filter_nil]
theorem zk{a e:Nat}:k∈fJ B a e↔k<e/\a<=k/\B.getD k 0=0:=by
 unfold fJ;rw[List.mem_filter,bW];simp
theorem Ei (B:List Int)(a e:Nat):(fJ B a e).Nodup:=List.nodup_range.sublist List.filter_sublist
theorem vR (B:List Int)(a e:Nat):(fJ B a e).length<=e:=cE (fQ _ _) (by simp)
theorem zm (h:l.Nodup){i j:Nat}(J:i<l.length)(G:j<l.length)(e:l[i]=l[j]):i=j:=by
 rcases Nat.lt_trichotomy i j with z|z|z
 ·exact absurd e (df.1 h i j J G z)
 ·exact z
 ·exact absurd e.symm (df.1 h j i G J z)
def jI (B:List Int) (h l:List Nat):Nat->List Int
 |0=>B
 |j+1=>(jI B h l j).set (h.getD j 0) ((l.getD j 0:Nat):Int)
theorem oF (B:List Int)(h l:List Nat):∀j,(jI B h l j).length=B.length
 |0=>rfl
 |j+1=>by unfold jI;rw[cX,oF B h l j]
theorem zn {B:List Int}{z l:List Nat}{k:Nat}:∀{j:Nat},j<=z.length->k∉z.take j->(jI B z l j).getD k 0=B.getD k 0
 |0,_,_=>rfl
 |j+1,hj,hk=>by
  unfold jI;have G:z.getD j 0=z[j]'(by omega):=by simp[show j<z.length by omega]
  rw[bP (by omega),aT,au] at hk;rw[aj,List.getElem?_set_ne (by rw[G];exact λe=>hk (.inr e.symm)),<-aj];exact zn (by omega) λh=>hk (.inl h)
theorem LW {B:List Int}{z l:List Nat}(V:z.Nodup)(U:∀k∈z,k<B.length):∀{j m:Nat},j<=z.length->m<j->(jI B z l j).getD (z.getD m 0) 0=((l.getD m 0:Nat):Int)
 |0,_,_,h=>by omega
 |j+1,m,hj,hm=>by
  unfold jI;have G:z.getD j 0=z[j]'(by omega):=by simp[show j<z.length by omega]
  have J:z.getD m 0=z[m]'(by omega):=by simp[show m<z.length by omega]
  by_cases e:m=j
  ·subst e
   rw[aj,List.getElem?_set_self (by rw[oF,G];exact U _ (bG _))];rfl
  ·rw[aj,List.getElem?_set_ne,<-aj]
   ·exact LW V U (by omega) (by omega)
   ·rw[G,J]
    intro W;exact e (zm V _ _ W).symm
theorem Ek (h:B.length=13)(b:Nat):(ey B 13).count b=B.countP λx=>x != 0&&x.toNat==b:=by
 unfold ey;rw[aW (by omega),List.count_eq_countP,List.countP_map,List.countP_filter]
 congr 1
 funext x
 simp[Bool.and_comm]
theorem VX (z:B.length=13){k:Nat}(J:k<13)(G:B.getD k 0=0){x:Nat}(U:x≠0)(b:Nat):(ey (B.set k (x:Int)) 13).count b=(ey B 13).count b+[x].count b:=by
 rw[Ek (by rw[cX];exact z),Ek z,List.countP_set (by omega)];have e:B[k]'(by omega)=0:=by rw[<-G];simp[show k<B.length by omega]
 rw[e];by_cases h:x=b
 ·subst h
  rw[aA (by simp),aB (by simp;omega)];simp
 ·rw[aA (by simp),aA (by simp;omega)]
  simp[h]
theorem AP {B:List Int}{z l:List Nat}(hB:B.length=13)(hn:z.Nodup)(V:∀k∈z,k<13/\B.getD k 0=0)(hl:l.length=z.length)(W:∀c∈l,c≠0)(b:Nat):∀{j:Nat},j<=z.length->(ey (jI B z l j) 13).count b=(ey B 13).count b+(l.take j).count b
 |0,_=>by simp[jI]
 |j+1,hj=>by
  have ih:=AP hB hn V hl W b (j:=j) (by omega);have G:z.getD j 0=z[j]'(by omega):=by simp[show j<z.length by omega]
  have J:l.getD j 0=l[j]'(by omega):=by simp[show j<l.length by omega]
  have hm:=V (z[j]'(by omega)) (bG _);unfold jI;rw[VX (by rw[oF];exact hB) (by rw[G];exact hm.1) (by
   rw[zn (by omega),G]
   ·exact hm.2
   ·rw[G]
    intro h;rw[List.mem_take_iff_getElem] at h;obtain⟨m,WT,U⟩:=h;have :=zm hn _ _ U;omega) (by rw[J];exact W _ (bG _)),ih,bP (by omega),fL,J]
  omega
theorem aca (z:B.length=13){c:Nat}(U:c<=13)(h:∀k,c<=k->B.getD k 0=0):B=jm B c:=by
 apply cU (by rw[nR z U,z]);intro k W V;have G:=qo z U k;rw[aj,aD V,eZ] at G;rw[G];have J:B.getD k 0=B[k]:=by simp[W]
 split
 ·exact J.symm
 ·rw[<-J];exact h k (by omega)
theorem Kr (z:n.B.length=13)(h:qQ n):∀k,bL n.S.toNat<=k->n.B.getD k 0=0:=λk J=>by
 have G:bL n.S.toNat<=13:=by unfold bL;have :=h.1;omega
 rw[h.2.2.1,qo z G,aA]
theorem Hz (z:cm n)(G:n.K=1):qQ n:=by
 rcases z.2.2 with ⟨-,h⟩|⟨h,-⟩
 ·exact h
 ·omega
theorem AQ (h:cm n)(G:n.K=1)(hF:n'.F=n.F)(z:n'.K=n.K)(U:n'.L=n.L)(hE:n'.E=n.E)(V:n'.B.length=13)(hS:0<=n'.S/\n'.S<=832)(J:∀k,bL n'.S.toNat<=k->n'.B.getD k 0=0)(W:lF n'.B):cm n':=by
 have hf:=Hz h G;refine⟨by rw[hF];exact h.1,by rw[U];exact h.2.1,.inl ⟨by rw[z];exact G,hS,by rw[hE];exact hf.2.1,aca V (by unfold bL;omega) J,W⟩⟩
section
variable {X:List Int} {T:List (bT×Value)} {own:Nat->List Nat} {M:Nat->Nd}
theorem nM.fileAt(h:nM X T own [] M){i:Nat}(U:(M i).K=1):eH X (i:Int) (nT T i) (own i)/\(nT T i).K=1/\qQ (nT T i)/\j5 X (nT T i)/\i<32/\(M i).D=qc X (nT T i)/\(nT T i).B.length=13:=by
 have G:=h.store (i:=i) (by omega);have z:(nT T i).K=1:=by rw[h.kind];exact U
 have J:=h.rng (i:=i) (by omega);refine⟨G,z,Hz G.right z,h.st.tails i J,J,?_,G.len⟩;rw[h.abs i];show(if (nT T i).K=1 then _ else _)=_;rw[aB z]
theorem Dh {l m:List Int}(h:l.length=m.length)(G:∀k,k<l.length->l.getD k 0=m.getD k 0):l=m:=by
 apply cU h;intro k z J;have :=G k z;rwa[aj,aD z,aj,aD J] at this
theorem OP (D:List Int)(n:Nat){k:Nat}(h:k<n):(yC D n).getD k 0=D.getD k 0:=by
 unfold yC;rw[aj];by_cases z:k<D.length
 ·rw[ba (by simp;omega),bU,aB h,aj]
 ·rw[aR (by simp;omega),bj,aj,aP (by omega:D.length<=k)]
  split<;>rfl
theorem H5 {i:Nat}{n n':bT}{Y:List Int}{D:List Int}(h:M i=tK X n)(J:n.K=1)(z:n'.K=n.K)(G:n'.L=n.L)(V:n'.E=n.E)(U:qc Y n'=D):tK Y n'={ M i with D:=D }:=by
 rw[h];unfold tK;rw[z,G,V,aB J,U]
theorem nM.grow(h:nM X T own [] M){i:Nat}(hK:(M i).K=1){s:Nat}(hs:s<=832)(ag:(nT T i).S<=(s:Int)){r:Int}{qs:List (Int×Int)}(hp:nV X (i:Int) { nT T i with S:=(s:Int) } r qs):
  r=0/\Goes X qs [] (nv M i { M i with D:=yC (M i).D s }) 100:=by
 obtain⟨G,hk,W,ht,hi,hd,hB⟩:=h.fileAt hK;have V:=W.1.1;have hR:cm { nT T i with S:=(s:Int) }:=AQ G.right hk rfl rfl rfl rfl G.len ⟨by show(0:Int)<=(s:Int);omega,by show(s:Int)<=832;omega⟩ (λk z=>by
  refine Kr G.len W k ?_;have z:bL (s:Int).toNat<=k:=z;rw[aG] at z;unfold bL at *;have U:(nT T i).S.toNat<=s:=by omega
  clear hd ag V;omega) W.2.2.2
 have ae:j5 X { nT T i with S:=(s:Int) }:=λz k ac hb j hj J=>ht z k ac hb j hj (by
  have J:(s:Int)<=_:=J;omega)
 have hn:tK X { nT T i with S:=(s:Int) }={ M i with D:=yC (M i).D s }:=by
  refine H5 (h.abs i) hk rfl rfl rfl ?_;rw[hd];have aa:(qc X { nT T i with S:=(s:Int) }).length=s:=by rw[nY];exact aG s
  apply Dh
  ·rw[aa,yD]
  ·intro k z
   rw[OP _ _ (by omega),sH _ _ (by rw[<-nY];exact z)];show mo X (nT T i) k=_;by_cases af:k<(nT T i).S.toNat
   ·exact(sH X (nT T i) af).symm
   ·rw[Dg ht hk (by omega) (by omega),aj,aP (by rw[nY];omega)]
    rfl
 rcases h.put (i:=i) (by omega) (n:={ nT T i with S:=(s:Int) }) G.len hR hp (ex':=[]) (λb _=>rfl) (by simp) ae with ⟨-,-,U⟩|⟨U,cW,p1,-,p3,p4,p5⟩
 ·have e:=Hu (n:=nT T i) (n':={ nT T i with S:=(s:Int) }) rfl rfl rfl
  rw[e] at U;omega
 ·rw[hn] at p1
  exact⟨U,_,_,p1,p4,p5.mono (by have :=sJ hR;revert this;generalize dv { nT T i with S:=(s:Int) }=a;omega)⟩
def tQ (c:List Int) (o:Nat) (D:List Int):List Int:=c.take o++(D++c.drop (o+D.length))
theorem El {c D:List Int}{o:Nat}(h:AO c)(U:o+D.length<=832)(J:∀x∈D,0<=x/\x<256):AO (tQ c o D):=by
 refine⟨by unfold tQ;simp[h.1];omega,λx G=> ?_⟩;unfold tQ at G;simp only[aT] at G;rcases G with z|z|z
 ·exact h.2 x (bO z)
 ·exact J x z
 ·exact h.2 x (gA z)
theorem VY {c D:List Int}{o:Nat}(h:c.length=832)(J:o+D.length<=832)(k:Nat):(tQ c o D).getD k 0=if o<=k/\k<o+D.length then D.getD (k-o) 0 else c.getD k 0:=by
 unfold tQ;rw[aj];by_cases z:k<o
 ·rw[ba (by simp;omega),bU,aB z,aA,aj]
 ·rw[aR (by simp;omega),aJ,cQ (by omega)]
  by_cases G:k<o+D.length
  ·rw[ba (by omega),aB,aj]
  ·rw[aR (by omega),aA,b8,aj]
   congr 2
   omega
theorem VZ {h D:List Int}{o:Nat}(k:Nat):(xt h o D).getD k 0=if o<=k/\k<o+D.length then D.getD (k-o) 0 else h.getD k 0:=by
 unfold xt;have G:((yC h (max h.length (o+D.length))).take o).length=o:=by rw[aJ,yD];omega
 rw[aj];by_cases J:k<o
 ·rw[ba (by omega),bU,aB J,aA]
  unfold yC;by_cases z:k<h.length
  ·rw[ba (by simp;omega),bU,aB,aj]
  ·rw[aR (by simp;omega),bj,aj,aP (by omega:h.length<=k)]
   split<;>rfl
 ·rw[aR (by omega),G]
  by_cases z:k<o+D.length
  ·rw[ba (by omega),aB,aj]
  ·rw[aR (by omega),aA,b8,aj]
   congr 2
   omega
def Tk (X:List Int) (n:bT) (o m:Nat):bT:=
 { n with B:=jI n.B (fJ n.B (o/64) (bL (o+m))) ((aZ X).take (fJ n.B (o/64) (bL (o+m))).length) (fJ n.B (o/64) (bL (o+m))).length,S:=max n.S ((o+m:Nat):Int) }
theorem nM.write(h:nM X T own [] M){i:Nat}(hK:(M i).K=1){o:Nat}{D:List Int}(Zr:D≠[])(bb:∀x∈D,0<=x/\x<256)(ho:o+D.length<=832)
  (pq:(fJ (nT T i).B (o/64) (bL (o+D.length))).length<=(aZ X).length) {r:Int} {qs:List (Int×Int)}
  (hp:nV (az (az X (dh X ((aZ X).take (fJ (nT T i).B (o/64) (bL (o+D.length))).length))) (ft (Tk X (nT T i) o D.length).B (tQ (iT X (nT T i)) o D) 13)) (i:Int) (Tk X (nT T i) o D.length) r qs):
  (r=7/\(aZ X).length<40)\/(r=0/\Goes X (dh X ((aZ X).take (fJ (nT T i).B (o/64) (bL (o+D.length))).length)++(ft (Tk X (nT T i) o D.length).B (tQ (iT X (nT T i)) o D) 13++qs)) [] (nv M i { M i with D:=xt (M i).D o D }) 400):=by
 obtain⟨aV,hk,hf,ht,hi,hd,hB⟩:=h.fileAt hK;have hS:=hf.1;have bo:0<D.length:=List.length_pos_iff.2 Zr;have ba:bL (o+D.length)<=13:=by unfold bL;omega
 generalize hn:nT T i=n at *;generalize Rs:fJ n.B (o/64) (bL (o+D.length))=G at *;have ac:∀k,k∈G↔k<bL (o+D.length)/\o/64<=k/\n.B.getD k 0=0:=λk=>by rw[<-Rs];exact zk
 have Fk:G.Nodup:=by rw[<-Rs];exact Ei _ _ _
 have bg:G.length<=13:=by rw[<-Rs];exact cE (vR _ _ _) ba
 have ai:=h.opened hi;rw[hn] at ai;obtain⟨t1,t2,t3,t4,t5⟩:=ai.st.take G.length;have Zu:=ai.step t1 t2 (by simp);have af:∀c∈(aZ X).take G.length,c≠0/\c<256:=qy;have Mi:((aZ X).take G.length).Nodup:=sB;have aM:∀c∈(aZ X).take G.length,dF X c=false:=λc hc=>(kx.1 (bO hc)).2.2
 have aI:((aZ X).take G.length).length=G.length:=by rw[aJ];omega
 have hw:Tk X n o D.length={ n with B:=jI n.B G ((aZ X).take G.length) G.length,S:=max n.S ((o+D.length:Nat):Int) }:=by unfold Tk;rw[Rs]
 rw[hw] at hp ⊢;clear hw;have aL:∀k,k∉G->(jI n.B G ((aZ X).take G.length) G.length).getD k 0=n.B.getD k 0:=λk z=>zn (aH _) (by rw[gy];exact z)
 have bf:∀m,m<G.length->(jI n.B G ((aZ X).take G.length) G.length).getD (G.getD m 0) 0=((((aZ X).take G.length).getD m 0:Nat):Int):=λm hm=>LW Fk (λk z=>by have :=((ac k).1 z).1;omega) (aH _) hm
 have ae:=oF n.B G ((aZ X).take G.length) G.length;have aK:=λb=>AP (l:=(aZ X).take G.length) hB Fk (λk z=>by have :=(ac k).1 z;exact⟨by omega,this.2.2⟩) aI (λc hc=>(af c hc).1) b (j:=G.length) (aH _)
 have aN:og X (az X (dh X ((aZ X).take G.length))) 108:=og.puts (L:=uE++Eh ((aZ X).take G.length)) (by rw[aC,vQ,aI];simp[uE];omega) λp hp=>by
  rw[aT];rcases qD _ _ p hp with h6|h6
  ·exact .inl (sI h6)
  ·exact .inr (zh h6.1 h6.2)
 generalize hl:(aZ X).take G.length=l at *;generalize ak:az X (dh X l)=X1,bk:jI n.B G l G.length=J at *;rw[aW (by omega)] at aK
 -- what each place has
 have U:∀k,k<13->(J.getD k 0=n.B.getD k 0/\k∉G)\/(n.B.getD k 0=0/\∃m,m<G.length/\G.getD m 0=k/\J.getD k 0=((l.getD m 0:Nat):Int)/\l.getD m 0∈l):=λk z=>by
  by_cases hm:k∈G
  ·right
   obtain⟨m,WT,aQ⟩:=bY hm;have W:G.getD m 0=k:=by rw[<-aQ];simp[WT]
   refine⟨((ac k).1 hm).2.2,m,WT,W,by rw[<-W];exact bf m WT,?_⟩;rw[aj,aD (by omega)];exact bG _
  ·exact .inl ⟨aL k hm,hm⟩
 have Eb:∀k,k<13->n.B.getD k 0≠0->(n.B.getD k 0).toNat∉l:=λk z hb hc=>by
  have V:=aM _ hc;have h2:=ai.st.usedEx (Hx hB z hb);rw[V] at h2;cases h2
 have aa:lF J:=λk z=>by
  have hr:=mQ hf.2.2.2 z;rcases U k z with ⟨W,-⟩|⟨e0,m,hm,e2,W,JX⟩
  ·refine⟨by rw[W];exact hr,λah j hj=> ?_⟩
   rw[W] at ah ⊢;rcases U j (by omega) with ⟨f1,-⟩|⟨-,m',-,-,f1,ay⟩
   ·rw[f1];exact(hf.2.2.2 k z).2 ah j hj
   ·rw[f1]
    intro e3;exact Eb k z ah (by rw[<-e3,aG];exact ay)
  ·have :=af _ JX
   refine⟨by rw[W];omega,λah j hj=> ?_⟩;rw[W];rcases U j (by omega) with ⟨f1,-⟩|⟨-,m',bl,f2,f1,ay⟩
   ·rw[f1]
    intro e3;exact Eb j (by omega) (by omega) (by rw[e3,aG];exact JX)
   ·rw[f1]
    intro e3;have e4:l.getD m' 0=l.getD m 0:=by omega
    rw[aj,aD (by omega),aj,aD (by omega)] at e4;have :=zm Mi _ _ e4;subst this;omega
 have Zv:X1.length=3128:=t1.len;have av:(max n.S ((o+D.length:Nat):Int)).toNat=max n.S.toNat (o+D.length):=by omega
 have hR:cm { n with B:=J,S:=max n.S ((o+D.length:Nat):Int) }:=by
  refine AQ aV.right hk rfl rfl rfl rfl (by rw[<-hB,<-ae]) ⟨by dsimp only;omega,by dsimp only;omega⟩ (λk z=> ?_) aa
  dsimp only at z ⊢
  rw[av] at z;have V:=Kr hB hf k (by unfold bL at *;omega);rw[aL k λhm=>by have :=((ac k).1 hm).1;unfold bL at *;omega];exact V
 have bj:∀k,k<832->mo X n k=(iT X n).getD k 0:=λk z=>(zj X n z).symm
 have ax:=kP X n;have au:=El ax ho bb;have ar:=VY (D:=D) ax.1 ho;have aO:∀k:Nat,k<832->max n.S ((o+D.length:Nat):Int)<=(k:Int)->(tQ (iT X n) o D).getD k 0=0:=λk z bh=>by
  rw[ar,aA,zj X n z];exact Dg ht hk z (by omega)
 generalize tQ (iT X n) o D=c at *;have zS:=OL (n:={ n with B:=J,S:=max n.S ((o+D.length:Nat):Int) }) (c:=c) (by rw[<-hB,<-ae]) aa;have zE:∀b,b<256->(dm { n with B:=J,S:=max n.S ((o+D.length:Nat):Int) }).count b=(dm n++l).count b:=λb _=>by
  rw[fL];exact aK b
 have bc:∀x,x∈dm { n with B:=J,S:=max n.S ((o+D.length:Nat):Int) }->x∈dm n++l:=λx hx=>by
  have V:=qC (n:={ n with B:=J,S:=max n.S ((o+D.length:Nat):Int) }) (by rw[<-hB,<-ae]) hR x hx;have h2:=zE x V.2;have h3:0<(dm { n with B:=J,S:=max n.S ((o+D.length:Nat):Int) }).count x:=List.count_pos_iff.2 hx;exact List.count_pos_iff.1 (by omega)
 have aY:In64 (az X1 (ft J c 13)):=zi (n:={ n with B:=J,S:=max n.S ((o+D.length:Nat):Int) }) t1.w64 au;obtain⟨Zw,Zx,JE⟩:=Zu.words hi (qs:=ft J c 13) (λp hp=>⟨(zS p hp).1,bc _ (zS p hp).2⟩) aY;have UQ:eH (az X1 (ft J c 13)) (i:Int) (nT T i) (own i):=by
  rcases Zw.st.each hi with ⟨-,V⟩|⟨-,V,-⟩
  ·exact V
  ·rw[hn] at V;rw[V] at hk;simp[cg] at hk
 have Qk:=λk (z:k<832)=>Hy (X:=X1) (n:={ n with B:=J,S:=max n.S ((o+D.length:Nat):Int) }) Zv aa au z
 have aS:=Kq (X:=X1) (n:={ n with B:=J,S:=max n.S ((o+D.length:Nat):Int) }) Zv aa au aO;have aR:=OO (X:=X1) (n:={ n with B:=J,S:=max n.S ((o+D.length:Nat):Int) }) (c:=c) (by rw[<-hB,<-ae]) aa;have Zy:tK (az X1 (ft J c 13)) { n with B:=J,S:=max n.S ((o+D.length:Nat):Int) }={ M i with D:=xt (M i).D o D }:=by
  refine H5 (n:=n) (X:=X) (by rw[h.abs i,hn]) hk rfl rfl rfl ?_;rw[hd];have aF:=nY X n;apply Dh
  ·rw[nY,Kk,aF];exact av
  ·intro k z
   rw[nY] at z;have bp:k<max n.S.toNat (o+D.length):=by rw[<-av];exact z
   have uR:k<832:=by omega
   rw[sH _ _ z,Qk k uR,VZ]
   dsimp only
   by_cases ag:o<=k/\k<o+D.length
   ·rw[aB ag,ar,aB ag]
    rw[aA ?_];intro h0;rcases U (k/64) (by omega) with ⟨W,e2⟩|⟨-,m,-,-,W,e2⟩
    ·refine e2 ((ac _).2 ⟨?_,?_,by rw[<-W];exact h0⟩)
     ·unfold bL;omega
     ·omega
    ·have :=(af _ e2).1;omega
   ·rw[aA ag,ar,aA ag,zj X n uR]
    have aU:(qc X n).getD k 0=mo X n k:=by
     by_cases aX:k<n.S.toNat
     ·exact sH X n aX
     ·rw[Dg ht hk uR (by omega),aj,aP (by rw[aF];omega)]
      rfl
    rw[aU];split
    ·next h0=>
     rcases U (k/64) (by omega) with ⟨W,-⟩|⟨-,m,-,-,W,e2⟩
     ·unfold mo
      rw[aB (by rw[<-W];exact h0)]
     ·have :=(af _ e2).1;omega
    ·rfl
 have bn:(aZ X1).length+G.length=(aZ X).length:=by rw[t4,bM];omega
 rcases Zw.close hi (by rw[<-hB,<-ae]) hR UQ hp zE aS with ⟨V,-,h3⟩|⟨V,T',cW,g1,g2,g3⟩
 ·refine .inl ⟨V,?_⟩
  have :=sJ hR;rw[Zx] at h3;omega
 ·refine .inr ⟨V,T',cW,?_,λk z=> ?_,?_⟩
  ·rw[bz,bz,ak,<-Zy];exact g1
  ·rw[bz,bz,ak,g2 k z,JE k (by omega),t5 k z]
  ·rw[bz,bz,ak]
   exact((aN.trans aR).trans g3).mono (by omega)
end
theorem Rt{w:World}{v:Value}{g:Nat}{xs:List Value}(h:Reads w v g xs):v.oneCell'=true:=by
 obtain⟨a,cap,rfl,-⟩:=h;rfl
end Go.Proofs.YtepbpdipenedhaaGreatDoor
