/- Lemmas. -/
import Derived.Test.YtepbpdipenedhaaGreatDoorR19
namespace Go.Proofs.YtepbpdipenedhaaGreatDoor
open Go.RowKit
variable{a b c i j k:Nat}{A B E M:List (ByteArray×Int)}{nm:ByteArray}{D X:List Int}{y:Int}{p:Int×Int}{n:bP}{own:Nat->List Nat}{W ex z:List Nat}{T V:List (bP×Value)}
structure Nd where
 K:Int
 L:Int
 D:List Int
 E:List (ByteArray×Int)
def vL:Nd:=⟨0,0,[],[]⟩
def ng (M:Nat->Nd) (i:Nat) (n:Nd):Nat->Nd:=λj=>if j=i then n else M j
theorem mJ (M:Nat->Nd)(i:Nat)(n:Nd):ng M i n i=n:=aC rfl
theorem dL (M:Nat->Nd){i j:Nat}(n:Nd)(h:j≠i):ng M i n j=M j:=aB h
def Edge (M:Nat->Nd) (a b:Nat):Prop:=∃e∈(M a).E,e.2=(b:Int)
inductive mP (M:Nat->Nd) (d:Nat):Nat->Prop
 |here:mP M d d
 |step {a b:Nat}:mP M d a->Edge M a b->mP M d b
theorem mP.trans{M:Nat->Nd}(h:mP M a b)(k:mP M b c):mP M a c:=by
 induction k with
 |here=>exact h
 |step _ e ih=>exact ih.step e
theorem mP.mono{M M':Nat->Nd}(h:∀a b,Edge M a b->Edge M' a b){d x:Nat}(k:mP M d x):mP M' d x:=by
 induction k with
 |here=>exact .here
 |step _ e ih=>exact ih.step (h _ _ e)
def rX (E:List (ByteArray×Int)) (i:Nat):Nat:=E.countP λe=>e.2==(i:Int)
theorem kz (A B:List (ByteArray×Int))(i:Nat):rX (A++B) i=rX A i+rX B i:=List.countP_append
theorem xG (nm:ByteArray)(x:Int)(i:Nat):rX [(nm,x)] i=if x=(i:Int) then 1 else 0:=by simp[rX,List.countP_singleton]
theorem MU (i:Nat):rX [] i=0:=rfl
theorem F5:0<rX E i↔∃e∈E,e.2=(i:Int):=by simp[rX,List.countP_pos_iff]
def kI (M:Nat->Nd):Nat->Nat->Nat
 |0,_=>0
 |k+1,i=>kI M k i+rX (M k).E i
theorem F7{M M':Nat->Nd}(h:∀a,a<k->(M' a).E=(M a).E)(i:Nat):kI M' k i=kI M k i:=by
 induction k with
 |zero=>rfl
 |succ k ih=>show _+_=_+_;rw[ih λa z=>h a (by omega),h k (by omega)]
theorem Eg (M:Nat->Nd)(d:Nat)(n:Nd)(i:Nat):∀k,d<k->kI (ng M d n) k i+rX (M d).E i=kI M k i+rX n.E i:=by
 intro k;induction k with
 |zero=>intro h;omega
 |succ k ih=>
  intro h;show(kI (ng M d n) k i+rX (ng M d n k).E i)+_=(kI M k i+rX (M k).E i)+_;by_cases e:d=k
  ·subst e
   rw[mJ,F7 (M:=M) (M':=ng M d n) (λa z=>by rw[dL M n (by omega)])];omega
  ·rw[dL M n (by omega)]
   have :=ih (by omega);omega
theorem qo{M:Nat->Nd}:0<kI M k i↔∃a,a<k/\Edge M a i:=by
 induction k with
 |zero=>exact⟨λh=>by simp[kI] at h,λ⟨_,h,_⟩=>by omega⟩
 |succ k ih=>
  show 0<kI M k i+rX (M k).E i↔_;constructor
  ·intro h
   rcases eT (kI M k i) with G|G
   ·exact⟨k,by omega,F5.1 (by omega)⟩
   ·obtain⟨a,J,z⟩:=ih.1 G
    exact⟨a,by omega,z⟩
  ·rintro⟨a,J,z⟩
   by_cases e:a=k
   ·subst e
    have :=F5.2 z;omega
   ·have :=ih.2 ⟨a,by omega,z⟩
    omega
theorem MV{M:Nat->Nd}(G:Edge M a i)(J:Edge M c i)(z:a<c):∀k,c<k->2<=kI M k i:=by
 intro k;induction k with
 |zero=>intro h;omega
 |succ k ih=>
  intro h;show 2<=kI M k i+rX (M k).E i;by_cases e:c=k
  ·subst e
   have U:=F5.2 J;have V:=qo.2 ⟨a,z,G⟩;omega
  ·have :=ih (by omega)
   omega
structure eo (M:Nat->Nd):Prop where
 out:∀i,32<=i->M i=vL
 kind:∀i,M i=vL\/((M i).K=1/\(M i).E=[])\/((M i).K=2/\(M i).D=[])
 root:(M 0).K=2
 lead:∀i,∀e∈(M i).E,(0<=e.2/\e.2<32)/\(M e.2.toNat).K≠0
 rises:∀i,xB (M i).E
 links:∀i,i<32->((M i).K=1->(kI M 32 i:Int)=(M i).L/\1<=kI M 32 i)/\((M i).K=2->(M i).L=1/\(i=0->kI M 32 i=0)/\(i≠0->kI M 32 i=1))
 reach:∀i,(M i).K≠0->mP M 0 i
theorem eo.rng{M:Nat->Nd}(h:eo M){i:Nat}(G:(M i).K≠0):i<32:=by
 rcases dG i 32 with z|z
 ·exact z
 ·exact absurd (by rw[h.out i z];rfl) G
theorem eo.dir{M:Nat->Nd}(h:eo M){a b:Nat}(J:Edge M a b):(M a).K=2/\a<32/\(M b).K≠0/\b<32:=by
 obtain⟨e,G,J⟩:=J;have U:(M a).K=2:=by
  rcases h.kind a with z|⟨-,z⟩|z
  ·rw[z] at G;simp[vL] at G
  ·rw[z] at G;simp at G
  ·exact z.1
 have z:=h.lead a e G;rw[J,aH] at z;exact⟨U,h.rng (by omega),z.2,by omega⟩
theorem eo.parent{M:Nat->Nd}(h:eo M){a c b:Nat}(V:(M b).K=2)(z:Edge M a b)(G:Edge M c b):a=c:=by
 have J:=((h.links b (h.dir z).2.2.2).2 V).2;have U:kI M 32 b<=1:=by
  by_cases e:b=0
  ·rw[J.1 e];omega
  ·rw[J.2 e];omega
 rcases Nat.lt_trichotomy a c with e|e|e
 ·have :=MV z G e 32 (h.dir G).2.1;omega
 ·exact e
 ·have :=MV G z e 32 (h.dir z).2.1;omega
theorem eo.noRoot{M:Nat->Nd}(h:eo M){a:Nat}:¬Edge M a 0:=λz=>by
 have G:=((h.links 0 (by omega)).2 h.root).2.1 rfl;have J:=qo.2 ⟨a,(h.dir z).2.1,z⟩;omega
def af3 (M:Nat->Nd) (a b:Nat):Prop:=∃c,mP M a c/\Edge M c b
theorem PV{M:Nat->Nd}(h:mP M a b):a=b\/∃c,Edge M a c/\mP M c b:=by
 induction h with
 |here=>exact .inl rfl
 |step h e ih=>
  rcases ih with rfl|⟨c,z,G⟩
  ·exact .inr ⟨_,e,.here⟩
  ·exact .inr ⟨c,z,G.step e⟩
theorem eo.acyclic{M:Nat->Nd}(h:eo M){x:Nat}(W:mP M 0 x):¬af3 M x x:=by
 induction W with
 |here=>rintro⟨c,-,V⟩;exact h.noRoot V
 | @step a b _ e ih=>
  rintro⟨c,J,U⟩;have hb:(M b).K=2:=by
   rcases PV J with rfl|⟨d,G,-⟩
   ·exact(h.dir U).1
   ·exact(h.dir G).1
  have z:=h.parent hb U e;subst z;cases J with
  |here=>exact ih ⟨_,.here,e⟩
  |step G h4=>exact ih ⟨_,(mP.step .here e).trans G,h4⟩
def sA (M:Nat->Nd) (d:Nat) (E:List (ByteArray×Int)):Nat->Nd:=ng M d { M d with E:=E }
theorem qp (M:Nat->Nd)(d:Nat)(E:List (ByteArray×Int))(j:Nat):(sA M d E j).E=if j=d then E else (M j).E:=by
 unfold sA ng;by_cases h:j=d
 ·rw[aC h,aC h]
 ·rw[aB h,aB h]
theorem yV (M:Nat->Nd)(d:Nat)(E:List (ByteArray×Int))(j:Nat):(sA M d E j).K=(M j).K/\(sA M d E j).L=(M j).L/\(sA M d E j).D=(M j).D:=by
 unfold sA ng;by_cases h:j=d
 ·rw[aC h,h];exact⟨rfl,rfl,rfl⟩
 ·rw[aB h];exact⟨rfl,rfl,rfl⟩
theorem A8 (M:Nat->Nd){d:Nat}(h:d<32)(E:List (ByteArray×Int))(i:Nat):kI (sA M d E) 32 i+rX (M d).E i=kI M 32 i+rX E i:=Eg M d _ i 32 h
def Kq (M:Nat->Nd) (d i:Nat) (K:Int) (E:List (ByteArray×Int)):Nat->Nd:=sA (ng M i ⟨K,1,[],[]⟩) d E
theorem eo.noEdge{M:Nat->Nd}(h:eo M){i:Nat}(z:M i=vL)(a:Nat):¬Edge M a i:=λG=>(h.dir G).2.2.1 (by rw[z];rfl)
theorem eo.made{M:Nat->Nd}(h:eo M){d i:Nat}{K:Int}{A B:List (ByteArray×Int)}{nm:ByteArray}(hd:(M d).K=2)(J:M i=vL)(jK:i<32)(hK:K=1\/K=2)(hs:iN (M d).E A [] B nm):
  eo (Kq M d i K (A++([(nm,(i:Int))]++B))):=by
 have MW:=h.rng (i:=d) (by omega);have aa:d≠i:=λe=>by rw[e,J] at hd;simp[vL] at hd
 have K1:(M d).E=A++B:=hs.eq;have kk:∀j,(Kq M d i K (A++([(nm,(i:Int))]++B)) j).K=if j=i then K else (M j).K:=λj=>by
  unfold Kq;rw[(yV _ _ _ j).1];unfold ng;split<;>rfl
 have kL:∀j,(Kq M d i K (A++([(nm,(i:Int))]++B)) j).L=if j=i then 1 else (M j).L:=λj=>by
  unfold Kq;rw[(yV _ _ _ j).2.1];unfold ng;split<;>rfl
 have kE:∀j,(Kq M d i K (A++([(nm,(i:Int))]++B)) j).E=if j=d then A++([(nm,(i:Int))]++B) else (M j).E:=λj=>by
  unfold Kq;rw[qp];by_cases e:j=d
  ·rw[aC e,aC e]
  ·rw[aB e,aB e]
   unfold ng;by_cases G:j=i
   ·rw[aC G,G,J];rfl
   ·rw[aB G]
 have Dk:∀a b,Edge M a b->Edge (Kq M d i K (A++([(nm,(i:Int))]++B))) a b:=λa b ⟨e,hm,V⟩=>⟨e,by
  rw[kE];split
  ·next G=>rw[G,K1] at hm;rcases aU.1 hm with z|z<;>simp[z]
  ·exact hm,V⟩
 have W:Edge (Kq M d i K (A++([(nm,(i:Int))]++B))) d i:=⟨(nm,(i:Int)),by rw[kE,aC rfl];simp,rfl⟩;have xH:∀j,kI (Kq M d i K (A++([(nm,(i:Int))]++B))) 32 j=kI M 32 j+if j=i then 1 else 0:=λj=>by
  have z:=A8 (ng M i ⟨K,1,[],[]⟩) MW (A++([(nm,(i:Int))]++B)) j;have h2:=Eg M i ⟨K,1,[],[]⟩ j 32 jK;rw[dL M _ aa,K1,kz,kz,kz,xG] at z;rw[J,show(vL).E=[] from rfl,MU] at h2;unfold Kq;by_cases e:j=i
  ·subst e;simp only[aC] at z ⊢;omega
  ·rw[aB (by omega)] at z;rw[aB e];omega
 refine⟨λj U=> ?_,λj=> ?_,?_,λj e V=> ?_,λj=> ?_,λj U=> ?_,λj U=> ?_⟩
 ·unfold Kq sA
  rw[dL _ _ (by omega),dL _ _ (by omega)];exact h.out j U
 ·unfold Kq sA
  by_cases e:j=d
  ·subst e
   rw[mJ,dL _ _ aa];rcases h.kind j with z|z|z
   ·rw[z] at hd;simp[vL] at hd
   ·omega
   ·exact .inr (.inr ⟨z.1,z.2⟩)
  ·rw[dL _ _ e]
   by_cases G:j=i
   ·subst G
    rw[mJ];rcases hK with rfl|rfl
    ·exact .inr (.inl ⟨rfl,rfl⟩)
    ·exact .inr (.inr ⟨rfl,rfl⟩)
   ·rw[dL _ _ G]
    exact h.kind j
 ·rw[kk,aB (λe=>by rw[<-e] at J;have :=h.root;rw[J] at this;simp[vL] at this)]
  exact h.root
 ·rw[kE] at V
  have :e∈(M j).E\/e=(nm,(i:Int)):=by
   split at V
   ·next G=>
    rw[G,K1];simp only[aU,ay] at V ⊢;rcases V with z|z|z
    ·exact .inl (.inl z)
    ·exact .inr z
    ·exact .inl (.inr z)
   ·exact .inl V
  rcases this with z|rfl
  ·have :=h.lead j e z
   refine⟨this.1,?_⟩;rw[kk];split
   ·omega
   ·exact this.2
  ·refine⟨by show(0:Int)<=(i:Int)/\(i:Int)<32;omega,?_⟩
   rw[kk,aC (by simp)];omega
 ·rw[kE]
  split
  ·exact hs.rises (h.rises d) _ (.inr ⟨_,rfl⟩)
  ·exact h.rises j
 ·rw[kk,kL,xH]
  by_cases e:j=i
  ·subst e
   have h0:kI M 32 j=0:=by
    rcases eT (kI M 32 j) with z|z
    ·exact z
    ·obtain⟨a,-,ha⟩:=qo.1 z
     exact absurd ha (h.noEdge J a)
   have BI:j≠0:=λe=>by subst e;have :=h.root;rw[J] at this;simp[vL] at this
   simp only[aC,h0];exact⟨λ_=>⟨by first|rfl|trivial,by omega⟩,λ_=>⟨trivial,λh2=>absurd h2 BI,λ_=>by first|rfl|trivial⟩⟩
  ·simp only[aB e,dR]
   exact h.links j U
 ·rw[kk] at U
  by_cases e:j=i
  ·subst e
   exact((h.reach d (by omega)).mono Dk).step W
  ·rw[aB e] at U
   exact(h.reach j U).mono Dk
def Uj (M:Nat->Nd) (d i:Nat) (E:List (ByteArray×Int)):Nat->Nd:=sA (ng M i { M i with L:=(M i).L+1 }) d E
theorem eo.linked{M:Nat->Nd}(h:eo M){d i:Nat}{A B:List (ByteArray×Int)}{nm:ByteArray}(hd:(M d).K=2)(hi:(M i).K=1)(hs:iN (M d).E A [] B nm):
  eo (Uj M d i (A++([(nm,(i:Int))]++B))):=by
 have MW:=h.rng (i:=d) (by omega);have jK:=h.rng (i:=i) (by omega);have V:d≠i:=λe=>by rw[e] at hd;omega
 have K1:(M d).E=A++B:=hs.eq;have W:∀j,(Uj M d i (A++([(nm,(i:Int))]++B)) j).K=(M j).K:=λj=>by
  unfold Uj;rw[(yV _ _ _ j).1];unfold ng;split
  ·next e=>rw[e]
  ·rfl
 have kL:∀j,(Uj M d i (A++([(nm,(i:Int))]++B)) j).L=(M j).L+if j=i then 1 else 0:=λj=>by
  unfold Uj;rw[(yV _ _ _ j).2.1];unfold ng;split
  ·next e=>rw[e]
  ·simp
 have kE:∀j,(Uj M d i (A++([(nm,(i:Int))]++B)) j).E=if j=d then A++([(nm,(i:Int))]++B) else (M j).E:=λj=>by
  unfold Uj;rw[qp];by_cases e:j=d
  ·rw[aC e,aC e]
  ·rw[aB e,aB e]
   unfold ng;split
   ·next G=>rw[G]
   ·rfl
 have Dk:∀a b,Edge M a b->Edge (Uj M d i (A++([(nm,(i:Int))]++B))) a b:=λa b ⟨e,hm,J⟩=>⟨e,by
  rw[kE];split
  ·next G=>rw[G,K1] at hm;rcases aU.1 hm with z|z<;>simp[z]
  ·exact hm,J⟩
 have xH:∀j,kI (Uj M d i (A++([(nm,(i:Int))]++B))) 32 j=kI M 32 j+if j=i then 1 else 0:=λj=>by
  have h0:({ M i with L:=(M i).L+1 }:Nd).E=(M i).E:=rfl;unfold Uj;generalize ({ M i with L:=(M i).L+1 }:Nd)=n0 at *;have z:=A8 (ng M i n0) MW (A++([(nm,(i:Int))]++B)) j;have h2:=Eg M i n0 j 32 jK;rw[dL M _ V,K1,kz,kz,kz,xG] at z;rw[h0] at h2;by_cases e:j=i
  ·subst e;simp only[aC] at z ⊢;omega
  ·rw[aB (by omega)] at z;rw[aB e];omega
 refine⟨λj U=> ?_,λj=> ?_,?_,λj e J=> ?_,λj=> ?_,λj U=> ?_,λj U=> ?_⟩
 ·unfold Uj sA
  rw[dL _ _ (by omega),dL _ _ (by omega)];exact h.out j U
 ·unfold Uj sA
  by_cases e:j=d
  ·subst e
   rw[mJ,dL _ _ V];rcases h.kind j with z|z|z
   ·rw[z] at hd;simp[vL] at hd
   ·omega
   ·exact .inr (.inr ⟨z.1,z.2⟩)
  ·rw[dL _ _ e]
   by_cases G:j=i
   ·subst G
    rw[mJ];rcases h.kind j with z|z|z
    ·rw[z] at hi;simp[vL] at hi
    ·exact .inr (.inl ⟨z.1,z.2⟩)
    ·omega
   ·rw[dL _ _ G]
    exact h.kind j
 ·rw[W]
  exact h.root
 ·rw[kE] at J
  have :e∈(M j).E\/e=(nm,(i:Int)):=by
   split at J
   ·next G=>
    rw[G,K1];simp only[aU,ay] at J ⊢;rcases J with z|z|z
    ·exact .inl (.inl z)
    ·exact .inr z
    ·exact .inl (.inr z)
   ·exact .inl J
  rw[W];rcases this with z|rfl
  ·exact h.lead j e z
  ·refine⟨by show(0:Int)<=(i:Int)/\(i:Int)<32;omega,?_⟩
   show(M (i:Int).toNat).K≠0;rw[aH];omega
 ·rw[kE]
  split
  ·exact hs.rises (h.rises d) _ (.inr ⟨_,rfl⟩)
  ·exact h.rises j
 ·rw[W,kL,xH]
  have z:=h.links j U;by_cases e:j=i
  ·subst e
   simp only[aC];exact⟨λ_=>⟨by have :=(z.1 hi).1;omega,by omega⟩,λh2=>by omega⟩
  ·simp only[aB e,dR,Int.add_zero]
   exact z
 ·rw[W] at U
  exact(h.reach j U).mono Dk
def Eh (M:Nat->Nd) (d j:Nat) (E:List (ByteArray×Int)):Nat->Nd:=sA (ng M j (if (M j).L=1 then vL else { M j with L:=(M j).L-1 })) d E
theorem iN.leads(h:iN E A [(nm,(j:Int))] B nm):∃e∈E,e.2=(j:Int):=⟨(nm,(j:Int)),by rw[h.eq];simp,rfl⟩
theorem eo.notSelf{M:Nat->Nd}(h:eo M){d j:Nat}(z:Edge M d j):d≠j:=λe=>by
 subst e;exact h.acyclic (h.reach d (h.dir z).2.2.1) ⟨d,.here,z⟩
theorem eo.removed{M:Nat->Nd}(h:eo M){d j:Nat}{A B:List (ByteArray×Int)}{nm:ByteArray}(hj:(M j).E=[])(hs:iN (M d).E A [(nm,(j:Int))] B nm):
  eo (Eh M d j (A++B)):=by
 have ac:Edge M d j:=hs.leads;obtain⟨hd,MW,aa,af⟩:=h.dir ac;have Zx:=h.notSelf ac;have K1:(M d).E=A++([(nm,(j:Int))]++B):=hs.eq;have BI:j≠0:=λe=>by subst e;exact h.noRoot ac
 have GK:1<=kI M 32 j:=qo.2 ⟨d,MW,ac⟩
 -- one link left, or a file with more
 have hL:((M j).L=1/\kI M 32 j=1)\/((M j).K=1/\(M j).L≠1/\(kI M 32 j:Int)=(M j).L/\2<=kI M 32 j):=by
  have z:=h.links j af;rcases h.kind j with h2|h2|h2
  ·rw[h2] at aa;simp[vL] at aa
  ·have h3:=(z.1 h2.1).1
   by_cases e:(M j).L=1
   ·exact .inl ⟨e,by omega⟩
   ·exact .inr ⟨h2.1,e,h3,by omega⟩
  ·exact .inl ⟨(z.2 h2.1).1,(z.2 h2.1).2.2 BI⟩
 have kk:∀x,(Eh M d j (A++B) x).K=if x=j/\(M j).L=1 then 0 else (M x).K:=λx=>by
  unfold Eh;rw[(yV _ _ _ x).1];unfold ng;by_cases e:x=j
  ·rw[aC e]
   by_cases G:(M j).L=1
   ·rw[aC G,aC ⟨e,G⟩];rfl
   ·rw[aB G,aB (λh=>G h.2),e]
  ·rw[aB e,aB (λh=>e h.1)]
 have kE:∀x,(Eh M d j (A++B) x).E=if x=d then A++B else (M x).E:=λx=>by
  unfold Eh;rw[qp];by_cases e:x=d
  ·rw[aC e,aC e]
  ·rw[aB e,aB e]
   unfold ng;by_cases G:x=j
   ·rw[aC G,G,hj]
    split
    ·rfl
    ·exact hj
   ·rw[aB G]
 have Dk:∀a b,b≠j->Edge M a b->Edge (Eh M d j (A++B)) a b:=λa b hb ⟨e,U,J⟩=>⟨e,by
  rw[kE];split
  ·next G=>
   rw[G,K1] at U;simp only[aU,ay] at U ⊢;rcases U with z|z|z
   ·exact .inl z
   ·rw[z] at J
    have :(j:Int)=(b:Int):=J;omega
   ·exact .inr z
  ·exact U,J⟩
 have W:∀a b,Edge (Eh M d j (A++B)) a b->Edge M a b:=λa b ⟨e,U,J⟩=>⟨e,by
  rw[kE] at U;split at U
  ·next G=>rw[G,K1];rcases aU.1 U with z|z<;>simp[z]
  ·exact U,J⟩
 have xH:∀x,kI (Eh M d j (A++B)) 32 x+(if x=j then 1 else 0)=kI M 32 x:=λx=>by
  have h3:rX (if (M j).L=1 then vL else { M j with L:=(M j).L-1 }).E x=0:=by
   split
   ·rfl
   ·show rX (M j).E x=0;rw[hj];rfl
  unfold Eh;generalize (if (M j).L=1 then vL else { M j with L:=(M j).L-1 })=n0 at *;have z:=A8 (ng M j n0) MW (A++B) x;have h2:=Eg M j n0 x 32 af;rw[dL M _ Zx,K1,kz,kz,kz,xG] at z;rw[hj,h3,MU] at h2;by_cases e:x=j
  ·subst e;simp only[aC] at z ⊢;omega
  ·rw[aB (by omega)] at z;rw[aB e];omega
 have ai:∀a,¬Edge M j a:=λa ⟨e,U,_⟩=>by rw[hj] at U;simp at U
 have ah:∀x,mP M 0 x->x≠j->mP (Eh M d j (A++B)) 0 x:=λx V=>by
  induction V with
  |here=>exact λ_=> .here
  | @step a b _ J ih=>exact λhb=>(ih λe=>by subst e;exact ai _ J).step (Dk _ _ hb J)
 refine⟨λx V=> ?_,λx=> ?_,?_,λx e J=> ?_,λx=> ?_,λx V=> ?_,λx V=> ?_⟩
 ·unfold Eh sA
  rw[dL _ _ (by omega),dL _ _ (by omega)];exact h.out x V
 ·unfold Eh sA
  by_cases e:x=d
  ·subst e
   rw[mJ,dL _ _ Zx];rcases h.kind x with z|z|z
   ·rw[z] at hd;simp[vL] at hd
   ·omega
   ·exact .inr (.inr ⟨z.1,z.2⟩)
  ·rw[dL _ _ e]
   by_cases G:x=j
   ·subst G
    rw[mJ];split
    ·exact .inl rfl
    ·rcases h.kind x with z|z|z
     ·rw[z] at aa;simp[vL] at aa
     ·exact .inr (.inl ⟨z.1,z.2⟩)
     ·exact .inr (.inr ⟨z.1,z.2⟩)
   ·rw[dL _ _ G]
    exact h.kind x
 ·rw[kk,aB (λe=>BI e.1.symm)]
  exact h.root
 ·have U:e∈(M x).E:=by
   rw[kE] at J;split at J
   ·next G=>rw[G,K1];rcases aU.1 J with z|z<;>simp[z]
   ·exact J
  have z:=h.lead x e U;refine⟨z.1,?_⟩;rw[kk];rw[aB]
  ·exact z.2
  ·rintro⟨e1,G⟩
   have h3:Edge (Eh M d j (A++B)) x j:=⟨e,J,by omega⟩;have aj:x<32:=(h.dir (W _ _ h3)).2.1;have h4:=qo.2 ⟨x,aj,h3⟩;have h5:=xH j;rw[aC rfl] at h5;rcases hL with h6|h6<;>omega
 ·rw[kE]
  split
  ·have :=hs.rises (h.rises d) [] (.inl rfl)
   simpa using this
  ·exact h.rises x
 ·have h5:=xH x
  by_cases e:x=j
  ·subst e
   rw[aC rfl] at h5;rcases hL with h6|h6
   ·rw[kk,aC ⟨rfl,h6.1⟩]
    exact⟨λh=>by omega,λh=>by omega⟩
   ·rw[kk,aB (λh=>h6.2.1 h.2)]
    have ae:(Eh M d x (A++B) x).L=(M x).L-1:=by
     unfold Eh;rw[(yV _ _ _ x).2.1,mJ,aB h6.2.1]
    rw[ae];exact⟨λ_=>⟨by omega,by omega⟩,λh=>by omega⟩
  ·rw[aB e] at h5
   have ae:(Eh M d j (A++B) x).L=(M x).L:=by
    unfold Eh;rw[(yV _ _ _ x).2.1,dL _ _ e]
   rw[kk,aB (λh=>e h.1),ae,show kI (Eh M d j (A++B)) 32 x=kI M 32 x by omega];exact h.links x V
 ·by_cases e:x=j
  ·subst e
   rw[kk] at V;have h5:=xH x;rw[aC rfl] at h5;rcases hL with h6|h6
   ·rw[aC ⟨rfl,h6.1⟩] at V;exact absurd rfl V
   ·obtain⟨a,ha,ag⟩:=qo.1 (show 0<kI (Eh M d x (A++B)) 32 x by omega)
    have h7:=W _ _ ag;exact(ah a (h.reach a (by have :=(h.dir h7).1;omega)) (h.notSelf h7)).step ag
  ·rw[kk,aB (λh=>e h.1)] at V
   exact ah x (h.reach x V) e
def Kr (M:Nat->Nd) (d t:Nat) (E h:List (ByteArray×Int)):Nat->Nd:=sA (sA M d E) t h
theorem eo.moved{M:Nat->Nd}(h:eo M){d t i:Nat}{A B U V:List (ByteArray×Int)}{nm J:ByteArray}(hs:iN (M d).E A [(nm,(i:Int))] B nm)(ht:(M t).K=2)(ac:iN (sA M d (A++B) t).E U [] V J)
  (hb:¬mP M i t):eo (Kr M d t (A++B) (U++([(J,(i:Int))]++V))):=by
 have ah:Edge M d i:=hs.leads;obtain⟨hd,MW,ag,jK⟩:=h.dir ah;have af:=h.rng (i:=t) (by omega);have K1:(M d).E=A++([(nm,(i:Int))]++B):=hs.eq;have aa:(sA M d (A++B) t).E=U++V:=ac.eq;have kk:∀x,(Kr M d t (A++B) (U++([(J,(i:Int))]++V)) x).K=(M x).K/\(Kr M d t (A++B) (U++([(J,(i:Int))]++V)) x).L=(M x).L/\(Kr M d t (A++B) (U++([(J,(i:Int))]++V)) x).D=(M x).D:=λx=>by
  have z:=yV (sA M d (A++B)) t (U++([(J,(i:Int))]++V)) x;have h2:=yV M d (A++B) x;exact⟨z.1.trans h2.1,z.2.1.trans h2.2.1,z.2.2.trans h2.2.2⟩
 have e1:∀a b,Edge M a b->Edge (sA M d (A++B)) a b\/(a=d/\b=i):=λa b ⟨e,hm,G⟩=>by
  by_cases e2:a=d
  ·rw[e2,K1] at hm
   simp only[aU,ay] at hm;rcases hm with z|z|z
   ·exact .inl ⟨e,by rw[qp,aC e2];simp[z],G⟩
   ·right
    rw[z] at G;have h2:(i:Int)=(b:Int):=G;exact⟨e2,by omega⟩
   ·exact .inl ⟨e,by rw[qp,aC e2];simp[z],G⟩
  ·exact .inl ⟨e,by rw[qp,aB e2];exact hm,G⟩
 have e2:∀a b,Edge (sA M d (A++B)) a b->Edge (Kr M d t (A++B) (U++([(J,(i:Int))]++V))) a b:=λa b ⟨e,hm,G⟩=>⟨e,by
  unfold Kr;rw[qp];split
  ·next e3=>rw[e3,aa] at hm;rcases aU.1 hm with z|z<;>simp[z]
  ·exact hm,G⟩
 have e3:Edge (Kr M d t (A++B) (U++([(J,(i:Int))]++V))) t i:=⟨(J,(i:Int)),by unfold Kr;rw[qp,aC rfl];simp,rfl⟩;have xH:∀x,kI (Kr M d t (A++B) (U++([(J,(i:Int))]++V))) 32 x=kI M 32 x:=λx=>by
  have z:=A8 M MW (A++B) x;have h2:=A8 (sA M d (A++B)) af (U++([(J,(i:Int))]++V)) x;rw[K1,kz,kz,kz,xG] at z;rw[aa,kz,kz,kz,xG] at h2;unfold Kr;omega
 have aj:∀x,mP M 0 x->¬mP M i x->mP (Kr M d t (A++B) (U++([(J,(i:Int))]++V))) 0 x:=λx hx=>by
  induction hx with
  |here=>exact λ_=> .here
  | @step a b _ G ih=>
   intro hn;rcases e1 _ _ G with z|⟨-,z⟩
   ·exact(ih λhc=>hn (hc.step G)).step (e2 _ _ z)
   ·rw[z] at hn;exact absurd mP.here hn
 have ae:mP (Kr M d t (A++B) (U++([(J,(i:Int))]++V))) 0 i:=(aj t (h.reach t (by omega)) hb).step e3;refine⟨λx hx=> ?_,λx=> ?_,?_,λx e G=> ?_,λx=> ?_,λx hx=> ?_,λx hx=> ?_⟩
 ·unfold Kr sA
  rw[dL _ _ (by omega),dL _ _ (by omega)];exact h.out x hx
 ·obtain⟨k1,k2,k3⟩:=kk x
  by_cases ex:x=d\/x=t
  ·right;right
   rw[k1,k3];have :(M x).K=2:=by rcases ex with rfl|rfl<;>assumption
   refine⟨this,?_⟩;rcases h.kind x with z|z|z
   ·rw[z] at this;simp[vL] at this
   ·omega
   ·exact z.2
  ·have :Kr M d t (A++B) (U++([(J,(i:Int))]++V)) x=M x:=by
    unfold Kr sA;rw[dL _ _ (λe=>ex (.inr e)),dL _ _ (λe=>ex (.inl e))]
   rw[this];exact h.kind x
 ·rw[(kk 0).1];exact h.root
 ·rw[(kk _).1]
  have :e∈(M x).E\/e=(J,(i:Int)):=by
   unfold Kr at G;have W:∀y,∀e∈(sA M d (A++B) y).E,e∈(M y).E:=λy e G=>by
    rw[qp] at G;split at G
    ·next e4=>rw[e4,K1];rcases aU.1 G with z|z<;>simp[z]
    ·exact G
   rw[qp] at G;split at G
   ·next e4=>
    simp only[aU,ay] at G;rcases G with z|z|z
    ·exact .inl (W x e (by rw[e4,aa];simp[z]))
    ·exact .inr z
    ·exact .inl (W x e (by rw[e4,aa];simp[z]))
   ·exact .inl (W x e G)
  rcases this with z|rfl
  ·exact h.lead x e z
  ·refine⟨by show(0:Int)<=(i:Int)/\(i:Int)<32;omega,?_⟩
   show(M (i:Int).toNat).K≠0;rw[aH];exact ag
 ·have hr:∀y,xB (sA M d (A++B) y).E:=λy=>by
   rw[qp];split
   ·have :=hs.rises (h.rises d) [] (.inl rfl)
    simpa using this
   ·exact h.rises y
  unfold Kr;rw[qp];split
  ·exact ac.rises (hr t) _ (.inr ⟨_,rfl⟩)
  ·exact hr x
 ·rw[(kk x).1,(kk x).2.1,xH]
  exact h.links x hx
 ·rw[(kk x).1] at hx
  have ai:=h.reach x hx;clear hx;induction ai with
  |here=>exact .here
  | @step a b ha G ih=>
   rcases e1 _ _ G with z|⟨-,z⟩
   ·exact ih.step (e2 _ _ z)
   ·rw[z];exact ae
theorem eo.data{M:Nat->Nd}(h:eo M){i:Nat}(V:(M i).K=1)(D:List Int):eo (ng M i { M i with D:=D }):=by
 have z:∀x,(ng M i { M i with D:=D } x).K=(M x).K/\(ng M i { M i with D:=D } x).L=(M x).L/\(ng M i { M i with D:=D } x).E=(M x).E:=λx=>by
  unfold ng;split
  ·next e=>rw[e];exact⟨rfl,rfl,rfl⟩
  ·exact⟨rfl,rfl,rfl⟩
 have W:∀x,kI (ng M i { M i with D:=D }) 32 x=kI M 32 x:=λx=>F7 (λa _=>(z a).2.2) x
 have Dk:∀a b,Edge M a b->Edge (ng M i { M i with D:=D }) a b:=λa b ⟨e,hm,U⟩=>⟨e,by rw[(z a).2.2];exact hm,U⟩
 have jK:=h.rng (i:=i) (by omega);refine⟨λx G=>by rw[dL _ _ (by omega)];exact h.out x G,λx=> ?_,by rw[(z 0).1];exact h.root,λx e U=> ?_,λx=>by rw[(z x).2.2];exact h.rises x,λx G=> ?_,λx G=> ?_⟩
 ·by_cases e:x=i
  ·subst e
   rw[mJ];rcases h.kind x with J|J|J
   ·rw[J] at V;simp[vL] at V
   ·exact .inr (.inl ⟨J.1,J.2⟩)
   ·omega
  ·rw[dL _ _ e];exact h.kind x
 ·rw[(z x).2.2] at U
  rw[(z _).1];exact h.lead x e U
 ·rw[(z x).1,(z x).2.1,W]
  exact h.links x G
 ·rw[(z x).1] at G
  exact(h.reach x G).mono Dk
theorem kR (h:iN E A M B nm)(U:∀p∈E,0<=p.2):(cz E nm<0↔M=[])/\(0<=cz E nm->M=[(nm,cz E nm)]):=by
 have J:cz E nm=cz (M++B) nm:=by
  rw[h.eq,Cm A _ nm λp G=>vJ (h.ahead p G)]
 rcases h.one with rfl|⟨i,rfl⟩
 ·have z:cz E nm= -1:=by
   rw[J,bY];exact zL B nm λp G e=>vJ (h.behind p G) e.symm
  rw[z];exact⟨⟨λ_=>rfl,λ_=>by omega⟩,λh=>by omega⟩
 ·have z:cz E nm=i:=by
   rw[J];show(if nm=nm then i else _)=i;rw[aC rfl]
  have V:0<=i:=U (nm,i) (by rw[h.eq];simp);rw[z];exact⟨⟨λh=>by omega,λh=>by simp at h⟩,λ_=>rfl⟩
def xI:List (ByteArray×Int)->ByteArray×Int->List (ByteArray×Int)
 | [],x=>[x]
 |p::E,x=>if Op.bytesLess x.1.toList p.1.toList=true then x::p::E else p::xI E x
theorem zO (h:iN E A [] B nm)(i:Int):xI E (nm,i)=A++([(nm,i)]++B):=by
 have z:∀(A B:List (ByteArray×Int)),(∀p∈A,IX p.1 nm)->(∀p∈B,IX nm p.1)->xI (A++B) (nm,i)=A++([(nm,i)]++B):=by
  intro A;induction A with
  |nil=>
   intro B _ G;cases B with
   |nil=>rfl
   |cons p B=>
    show(if Op.bytesLess nm.toList p.1.toList=true then _ else _)=_;rw[aC (show Op.bytesLess nm.toList p.1.toList=true from G p (by simp))];rfl
  |cons p A ih=>
   intro B J G;show(if Op.bytesLess nm.toList p.1.toList=true then _ else p::xI (A++B) (nm,i))=_;rw[aB,ih B (λq W=>J q (by simp[W])) G]
   ·rfl
   ·intro U
    exact lS _ (uq (J p (by simp)) U)
 have V:E=A++B:=h.eq;rw[V];exact z A B h.ahead h.behind
def lW (E:List (ByteArray×Int)) (nm:ByteArray):List (ByteArray×Int):=E.filter λp=>decide (p.1≠nm)
theorem rY (h:iN E A M B nm):lW E nm=A++B:=by
 have G:lW A nm=A:=List.filter_eq_self.2 λp z=>by
  have :p.1≠nm:=vJ (h.ahead p z);simpa using this
 have J:lW B nm=B:=List.filter_eq_self.2 λp z=>by
  have :p.1≠nm:=λe=>vJ (h.behind p z) e.symm
  simpa using this
 have V:lW M nm=[]:=by
  rcases h.one with rfl|⟨i,rfl⟩
  ·rfl
  ·simp[lW]
 have U:lW E nm=lW A nm++(lW M nm++lW B nm):=by
  rw[h.eq];simp[lW]
 rw[U,G,J,V];rfl
structure kM where
 K:Int
 P:List ByteArray
 Q:List ByteArray
 O:Int
 N:Int
 D:List Int
structure lX where
 E:Int
 N:Int
 K:Int
 L:Int
 I:Int
 D:List Int
 S:List (ByteArray×Int)
def jf:lX:=⟨0,0,0,0,0,[],[]⟩
def fy (e:Int):lX:={ jf with E:=e }
def kV (l:List ByteArray):Bool:=l.all λs=>iC (bl s)
def iO (M:Nat->Nd):Nat->List ByteArray->Nat×Int
 |a,[]=>(a,0)
 |a,p::ps=>if (M a).K=2 then (if cz (M a).E p<0 then (0,2) else iO M (cz (M a).E p).toNat ps) else (0,4)
def cG (M:Nat->Nd) (p:List ByteArray):Nat×Int:=if kV p=true then iO M 0 p else (0,1)
def dJ (M:Nat->Nd) (p:List ByteArray):Nat×Int:=
 if p=[]\/kV p=false then (0,1) else
  if (iO M 0 p.dropLast).2=0/\(M (iO M 0 p.dropLast).1).K≠2 then (0,4) else iO M 0 p.dropLast
def cL (p:List ByteArray):ByteArray:=p.getLastD ByteArray.empty
def uw (M:Nat->Nd):Option Nat:=(List.range 32).find? λi=>(M i).K==0
def nI (D:List Int) (n:Nat):List Int:=D.take n++List.replicate (n-D.length) 0
def sO (D:List Int) (o:Nat) (x:List Int):List Int:=(nI D (max D.length (o+x.length))).take o++(x++D.drop (o+x.length))
def Dl (M:Nat->Nd) (o:kM):(Nat->Nd)×lX:=
 if o.P=[] then (M,fy 3) else
 if (dJ M o.P).2≠0 then (M,fy (dJ M o.P).2) else
 if 0<=cz (M (dJ M o.P).1).E (cL o.P) then (M,fy 3) else
 match uw M with
 |none=>(M,fy 7)
 |some i=>if (M (dJ M o.P).1).E.length<24 then (Kq M (dJ M o.P).1 i (1+o.K) (xI (M (dJ M o.P).1).E (cL o.P,(i:Int))),{ jf with N:=(i:Int) }) else (M,fy 7)
def yX (M:Nat->Nd) (o:kM):(Nat->Nd)×lX:=
 if (cG M o.P).2≠0 then (M,fy (cG M o.P).2) else
 if (M (cG M o.P).1).K=2 then (M,fy 5) else
 if (o.K≠4/\o.O<0)\/(o.K≠2/\o.N<0) then (M,fy 1) else
 if o.K=3 then (M,{ jf with D:=((M (cG M o.P).1).D.drop o.O.toNat).take o.N.toNat }) else
 if o.K=4 then
  if 832<o.N then (M,fy 8) else (ng M (cG M o.P).1 { M (cG M o.P).1 with D:=nI (M (cG M o.P).1).D o.N.toNat },jf)
 else
  if 832<o.O\/(832:Int)-o.O<o.D.length then (M,fy 8) else
  if o.D=[] then (M,jf) else
   (ng M (cG M o.P).1 { M (cG M o.P).1 with D:=sO (M (cG M o.P).1).D o.O.toNat o.D },{ jf with N:=(o.D.length:Int) })
def K2 (M:Nat->Nd) (d:Nat) (nm:ByteArray):Nat->Nd:=Eh M d (cz (M d).E nm).toNat (lW (M d).E nm)
def Ei (M:Nat->Nd) (o:kM):(Nat->Nd)×lX:=
 if o.P=[]/\o.K=5 then (M,fy 5) else
 if (dJ M o.P).2≠0 then (M,fy (dJ M o.P).2) else
 if cz (M (dJ M o.P).1).E (cL o.P)<0 then (M,fy 2) else
 if o.K=5/\(M (cz (M (dJ M o.P).1).E (cL o.P)).toNat).K=2 then (M,fy 5) else
 if o.K=6/\(M (cz (M (dJ M o.P).1).E (cL o.P)).toNat).K≠2 then (M,fy 4) else
 if o.K=6/\(M (cz (M (dJ M o.P).1).E (cL o.P)).toNat).E≠[] then (M,fy 6) else
 (K2 M (dJ M o.P).1 (cL o.P),jf)
def Rx (M:Nat->Nd) (i j:Nat):Int:=
 if (M i).K=1/\(M j).K=2 then 5 else if (M i).K=2/\(M j).K=1 then 4 else if (M j).K=2/\(M j).E≠[] then 6 else 0
def goM (M:Nat->Nd) (d t i:Nat) (nm h:ByteArray):Nat->Nd:=
 Kr M d t (lW (M d).E nm) (xI (sA M d (lW (M d).E nm) t).E (h,(i:Int)))
open Classical in
noncomputable def Ej (M:Nat->Nd) (o:kM):(Nat->Nd)×lX:=
 if o.P=[]\/o.Q=[] then (M,fy 1) else
 if (dJ M o.P).2≠0 then (M,fy (dJ M o.P).2) else
 if cz (M (dJ M o.P).1).E (cL o.P)<0 then (M,fy 2) else
 if (dJ M o.Q).2≠0 then (M,fy (dJ M o.Q).2) else
 if cz (M (dJ M o.Q).1).E (cL o.Q)=cz (M (dJ M o.P).1).E (cL o.P) then (M,jf) else
 if mP M (cz (M (dJ M o.P).1).E (cL o.P)).toNat (dJ M o.Q).1 then (M,fy 11) else
 if 0<=cz (M (dJ M o.Q).1).E (cL o.Q) then
  if Rx M (cz (M (dJ M o.P).1).E (cL o.P)).toNat (cz (M (dJ M o.Q).1).E (cL o.Q)).toNat≠0 then
   (M,fy (Rx M (cz (M (dJ M o.P).1).E (cL o.P)).toNat (cz (M (dJ M o.Q).1).E (cL o.Q)).toNat)) else
   (goM (K2 M (dJ M o.Q).1 (cL o.Q)) (dJ M o.P).1 (dJ M o.Q).1 (cz (M (dJ M o.P).1).E (cL o.P)).toNat (cL o.P) (cL o.Q),jf)
 else
  if (dJ M o.P).1≠(dJ M o.Q).1/\24<=(M (dJ M o.Q).1).E.length then (M,fy 7) else
   (goM M (dJ M o.P).1 (dJ M o.Q).1 (cz (M (dJ M o.P).1).E (cL o.P)).toNat (cL o.P) (cL o.Q),jf)
def Ry (M:Nat->Nd) (o:kM):(Nat->Nd)×lX:=
 if (cG M o.P).2≠0 then (M,fy (cG M o.P).2) else
 if (M (cG M o.P).1).K=2 then (M,fy 5) else
 if o.Q=[] then (M,fy 3) else
 if (dJ M o.Q).2≠0 then (M,fy (dJ M o.Q).2) else
 if 0<=cz (M (dJ M o.Q).1).E (cL o.Q) then (M,fy 3) else
 if 24<=(M (dJ M o.Q).1).E.length then (M,fy 7) else
 (Uj M (dJ M o.Q).1 (cG M o.P).1 (xI (M (dJ M o.Q).1).E (cL o.Q,((cG M o.P).1:Int))),jf)
def A9 (M:Nat->Nd) (o:kM):lX:=
 if (cG M o.P).2≠0 then fy (cG M o.P).2 else
 if o.K=10 then { jf with N:=((M (cG M o.P).1).D.length+(M (cG M o.P).1).E.length:Nat),K:=(M (cG M o.P).1).K,L:=(M (cG M o.P).1).L,I:=((cG M o.P).1:Int) } else
 if (M (cG M o.P).1).K≠2 then fy 4 else { jf with S:=(M (cG M o.P).1).E }
noncomputable def oV (M:Nat->Nd) (o:kM):(Nat->Nd)×lX:=
 if o.K=0\/o.K=1 then Dl M o else
 if o.K=2\/o.K=3\/o.K=4 then yX M o else
 if o.K=5\/o.K=6 then Ei M o else
 if o.K=7 then Ej M o else
 if o.K=8 then Ry M o else
 if o.K=9\/o.K=10 then (M,A9 M o) else
 if o.K=11 then (M,if o.N=1\/o.N=2 then jf else fy 1) else
 if o.K=12 then (M,jf) else (M,fy 1)
theorem Co {M:Nat->Nd}(h:eo M):∀(p:List ByteArray) (a:Nat),(M a).K≠0->(iO M a p).2=0->(M (iO M a p).1).K≠0/\mP M a (iO M a p).1
 | [],a,ha,_=>⟨ha,.here⟩
 |p::ps,a,ha,he=>by
  unfold iO at he ⊢;by_cases G:(M a).K=2
  ·rw[aC G] at he ⊢
   by_cases U:cz (M a).E p<0
   ·rw[aC U] at he;simp at he
   ·rw[aB U] at he ⊢
    obtain⟨A,X,B,V⟩:=kQ (h.rises a) p;have h1:=(kR V λq hq=>(h.lead a q hq).1.1).2 (by omega);have J:(p,cz (M a).E p)∈(M a).E:=by
     have z:=V.eq;rw[h1] at z;exact(cB (λl=>(p,cz (M a).E p)∈l) z).mpr (by simp)
    have z:=h.lead a _ J;have W:=Co h ps (cz (M a).E p).toNat z.2 he;exact⟨W.1,(mP.step .here ⟨_,J,by show cz (M a).E p=_;omega⟩).trans W.2⟩
  ·rw[aB G] at he;simp at he
theorem rz{M:Nat->Nd}(h:eo M){p:List ByteArray}(z:(cG M p).2=0):(M (cG M p).1).K≠0/\kV p=true:=by
 unfold cG at z ⊢;split at z
 ·next e=>rw[aC e];exact⟨(Co h p 0 (by rw[h.root];omega) z).1,e⟩
 ·simp at z
theorem uy{M:Nat->Nd}{p:List ByteArray}(z:(dJ M p).2=0):(M (dJ M p).1).K=2/\iC (bl (cL p))=true/\p≠[]/\kV p=true:=by
 unfold dJ at z ⊢;split at z
 ·simp at z
 ·next e=>
  rw[aB e];have U:p≠[]:=λh=>e (.inl h)
  have G:kV p=true:=by
   cases h:kV p
   ·exact absurd (.inr h) e
   ·rfl
  have V:iC (bl (cL p))=true:=by
   unfold kV at G;rw[fY] at G;apply G;unfold cL;cases p with
   |nil=>exact absurd rfl U
   |cons x xs=>rw[List.getLastD_cons,List.getLastD_eq_getLast?];exact(by
     cases hx:(xs.getLast?) with
     |none=>simp
     |some y=>simp;exact .inr (List.mem_of_getLast? hx))
  split at z
  ·simp at z
  ·next e2=>
   rw[aB e2];refine⟨?_,V,U,G⟩;by_cases J:(M (iO M 0 p.dropLast).1).K=2
   ·exact J
   ·exact absurd ⟨z,J⟩ e2
theorem XS{M:Nat->Nd}(h:eo M){i:Nat}(z:uw M=some i):M i=vL/\i<32:=by
 unfold uw at z;have J:=List.find?_some z;have U:=List.mem_of_find?_eq_some z;rw[bX] at U;refine⟨?_,U⟩;rcases h.kind i with G|G|G
 ·exact G
 ·simp at J;omega
 ·simp at J;omega
structure mK (M:Nat->Nd):Prop where
 names:∀i,∀e∈(M i).E,iC (bl e.1)=true
 len:∀i,(M i).E.length<=24
 data:∀i,(M i).D.length<=832
 bytes:∀i,∀x∈(M i).D,0<=x/\x<256
theorem mK.up{M:Nat->Nd}(h:mK M)(i:Nat){n:Nd}(G:∀e∈n.E,iC (bl e.1)=true)(J:n.E.length<=24)(V:n.D.length<=832)(U:∀x∈n.D,0<=x/\x<256):mK (ng M i n):=by
 have z:∀(P:Nd->Prop),(∀j,P (M j))->P n->∀j,P (ng M i n j):=λP a b j=>by unfold ng;split;exact b;exact a j
 exact⟨z (λm=>∀e∈m.E,iC (bl e.1)=true) h.names G,z (λm=>m.E.length<=24) h.len J,z (λm=>m.D.length<=832) h.data V,z (λm=>∀x∈m.D,0<=x/\x<256) h.bytes U⟩
theorem mK.ed{M:Nat->Nd}(h:mK M)(d:Nat){E:List (ByteArray×Int)}(z:∀e∈E,iC (bl e.1)=true)(G:E.length<=24):mK (sA M d E):=h.up d z G (h.data d) (h.bytes d)
theorem oW (D:List Int)(n:Nat):(nI D n).length=n:=by unfold nI;simp;omega
theorem ya (D:List Int)(o:Nat)(x:List Int):(sO D o x).length=max D.length (o+x.length):=by unfold sO;simp[oW];omega
theorem MX{n:Nat}(h:y∈nI D n):y∈D\/y=0:=by
 unfold nI at h;rcases aU.1 h with z|z
 ·exact .inl (bM z)
 ·exact .inr (List.eq_of_mem_replicate z)
theorem Ja{o:Nat}{x:List Int}(h:y∈sO D o x):y∈D\/y=0\/y∈x:=by
 unfold sO at h;simp only[aU] at h;rcases h with z|z|z
 ·rcases MX (bM z) with G|G
  ·exact .inl G
  ·exact .inr (.inl G)
 ·exact .inr (.inr z)
 ·exact .inl (iA z)
theorem qq{e:ByteArray×Int}(h:e∈lW E nm):e∈E:=(List.mem_filter.1 h).1
theorem F8 (E:List (ByteArray×Int))(nm:ByteArray):(lW E nm).length<=E.length:=fQ _ _
theorem F9 {x e:ByteArray×Int}:∀{E:List (ByteArray×Int)},e∈xI E x->e=x\/e∈E
 | [],h=> .inl (by simpa[xI] using h)
 |p::E,h=>by
  unfold xI at h;split at h
  ·rcases aP.1 h with z|z
   ·exact .inl z
   ·exact .inr z
  ·rcases aP.1 h with z|z
   ·exact .inr (by rw[z];simp)
   ·rcases F9 z with G|G
    ·exact .inl G
    ·exact .inr (by simp[G])
theorem Ga (x:ByteArray×Int):∀E:List (ByteArray×Int),(xI E x).length=E.length+1
 | []=>rfl
 |p::E=>by
  unfold xI;split
  ·rfl
  ·simp[Ga x E]
theorem Ba{M:Nat->Nd}(h:eo M)(d:Nat)(nm:ByteArray):cz (M d).E nm<0\/(0<=cz (M d).E nm/\∃A B,iN (M d).E A [(nm,cz (M d).E nm)] B nm/\lW (M d).E nm=A++B/\(lW (M d).E nm).length+1=(M d).E.length):=by
 obtain⟨A,X,B,z⟩:=kQ (h.rises d) nm;have J:=kR z λq U=>(h.lead d q U).1.1
 rcases Int.lt_or_le (cz (M d).E nm) 0 with G|G
 ·exact .inl G
 ·have V:=J.2 G
  subst V;refine .inr ⟨G,A,B,z,rY z,?_⟩;rw[rY z];have :=cB List.length z.eq;simp at this ⊢;omega
theorem Gb{M:Nat->Nd}(h:eo M){d:Nat}{nm:ByteArray}(U:cz (M d).E nm<0):∃A B,iN (M d).E A [] B nm/\∀i,xI (M d).E (nm,i)=A++([(nm,i)]++B):=by
 obtain⟨A,X,B,z⟩:=kQ (h.rises d) nm;have G:=(kR z λq J=>(h.lead d q J).1.1).1.1 U;subst G;exact⟨A,B,z,λi=>zO z i⟩
theorem pK{M:Nat->Nd}(h:eo M){d:Nat}{nm:ByteArray}(V:0<=cz (M d).E nm):Edge M d (cz (M d).E nm).toNat/\(M (cz (M d).E nm).toNat).K≠0/\(((cz (M d).E nm).toNat:Nat):Int)=cz (M d).E nm/\cz (M d).E nm<32:=by
 rcases Ba h d nm with G|⟨G,A,B,U,-⟩
 ·omega
 ·have z:Edge M d (cz (M d).E nm).toNat:=⟨(nm,cz (M d).E nm),by
   exact(cB (λl=>(nm,cz (M d).E nm)∈l) U.eq).mpr (by simp),by show cz (M d).E nm=_;omega⟩
  have J:=h.dir z;exact⟨z,J.2.2.1,by omega,by omega⟩
theorem MZ (nm:ByteArray):cz (lW E nm) nm<0:=by
 rw[zL]
 ·omega
 ·intro p h
  have :=(List.mem_filter.1 h).2;simpa using this
theorem mK.del{M:Nat->Nd}(h:mK M)(d:Nat)(nm:ByteArray):mK (sA M d (lW (M d).E nm)):=h.ed d (λe z=>h.names d e (qq z)) (cD (F8 _ _) (h.len d))
theorem mK.ins{M:Nat->Nd}(h:mK M)(d:Nat){nm:ByteArray}(J:iC (bl nm)=true)(i:Int)(U:(M d).E.length<24):mK (sA M d (xI (M d).E (nm,i))):=h.ed d (λe G=>by
 rcases F9 G with rfl|z
 ·exact J
 ·exact h.names d e z) (by rw[Ga];omega)
theorem Rz{M:Nat->Nd}(h:eo M)(hF:mK M){d:Nat}{nm:ByteArray}(U:0<=cz (M d).E nm)(hE:(M (cz (M d).E nm).toNat).E=[]):eo (K2 M d nm)/\mK (K2 M d nm):=by
 rcases Ba h d nm with J|⟨J,A,B,V,hd,hl⟩
 ·omega
 ·obtain⟨z,hk,W,-⟩:=pK h U
  constructor
  ·have :=h.removed (j:=(cz (M d).E nm).toNat) (nm:=nm) (A:=A) (B:=B) hE (by rw[W];exact V)
   unfold K2;rw[hd];exact this
  ·have G:mK (ng M (cz (M d).E nm).toNat (if (M (cz (M d).E nm).toNat).L=1 then vL else { M (cz (M d).E nm).toNat with L:=(M (cz (M d).E nm).toNat).L-1 })):=by
    refine hF.up _ ?_ ?_ ?_ ?_
    ·split
     ·intro e z;simp[vL] at z
     ·exact hF.names _
    ·split
     ·simp[vL]
     ·exact hF.len _
    ·split
     ·simp[vL]
     ·exact hF.data _
    ·split
     ·intro e z;simp[vL] at z
     ·exact hF.bytes _
   exact G.ed d (λe z=>hF.names d e (qq z)) (cD (F8 _ _) (hF.len d))
theorem RA{M:Nat->Nd}(h:eo M)(hF:mK M){d t i:Nat}{nm z:ByteArray}(hf:cz (M d).E nm=(i:Int))(ht:(M t).K=2)(hn:cz (M t).E z<0\/(d=t/\nm=z))(hb:¬mP M i t)(hg:iC (bl z)=true)(hl:d=t\/(M t).E.length<24):
  eo (goM M d t i nm z)/\mK (goM M d t i nm z):=by
 rcases Ba h d nm with h1|⟨h1,A,B,hs,hd,ac⟩
 ·omega
 ·rw[hf] at hs
  have hr:xB (sA M d (lW (M d).E nm) t).E:=by
   rw[qp];split
   ·rw[hd];simpa using hs.rises (h.rises d) [] (.inl rfl)
   ·exact h.rises t
  have W:∀p∈(sA M d (lW (M d).E nm) t).E,0<=p.2:=λp V=>by
   rw[qp] at V;split at V
   ·exact(h.lead d p (qq V)).1.1
   ·exact(h.lead t p V).1.1
  have aa:cz (sA M d (lW (M d).E nm) t).E z<0:=by
   rw[qp];split
   ·next e=>
    by_cases en:nm=z
    ·rw[<-en];exact MZ nm
    ·rcases hn with U|U
     ·rw[zL]
      ·omega
      ·intro p V
       rw[e] at U;intro e2;obtain⟨A2,X2,B2,J⟩:=kQ (h.rises d) z;have h4:=(kR J λq hq=>(h.lead d q hq).1.1).1.1 U;subst h4;have h5:p∈A2++B2:=by have :=J.eq;rw[bY] at this;rw[<-this];exact qq V
       rcases aU.1 h5 with h6|h6
       ·exact vJ (J.ahead p h6) e2
       ·exact vJ (J.behind p h6) e2.symm
     ·exact absurd U.2 en
   ·next e=>
    rcases hn with U|U
    ·exact U
    ·exact absurd U.1.symm e
  obtain⟨A',X,B',G⟩:=kQ hr z;have h3:=(kR G W).1.1 aa;subst h3;have hi:=zO G (i:Int);constructor
  ·unfold goM
   rw[hi,hd];rw[hd] at G;exact h.moved hs ht G hb
  ·unfold goM Kr
   refine(hF.del d nm).ins t hg _ ?_;rw[qp];split
   ·next e=>rw[<-e] at ac ⊢;have :=hF.len d;rw[<-e] at this;omega
   ·next e=>
    rcases hl with h4|h4
    ·exact absurd h4.symm e
    ·exact h4
def adI (o:kM):Prop:=∀x∈o.D,0<=x/\x<256
theorem Uk{M:Nat->Nd}(h:eo M)(hF:mK M){o:kM}(hK:o.K=0\/o.K=1):eo (Dl M o).1/\mK (Dl M o).1:=by
 unfold Dl;split
 ·exact⟨h,hF⟩
 ·split
  ·exact⟨h,hF⟩
  ·next hp=>
   have z:=uy (M:=M) (p:=o.P) (Decidable.not_not.1 hp);split
   ·exact⟨h,hF⟩
   ·next hn=>
    cases hi:uw M with
    |none=>exact⟨h,hF⟩
    |some i=>
     dsimp only
     split
     ·next hl=>
      obtain⟨V,jK⟩:=XS h hi;obtain⟨A,B,hs,G⟩:=Gb h (d:=(dJ M o.P).1) (nm:=cL o.P) (by omega);refine⟨?_,?_⟩
      ·dsimp only
       rw[G];exact h.made z.1 V jK (by omega) hs
      ·have J:(dJ M o.P).1≠i:=λe=>by
        have :=z.1;rw[e,V] at this;simp[vL] at this
       have W:mK (ng M i ⟨1+o.K,1,[],[]⟩):=hF.up i (λe G=>by simp at G) (by simp) (by simp) (λe G=>by simp at G);have U:=W.ins (dJ M o.P).1 (nm:=cL o.P) z.2.1 (i:Int) (by rw[dL _ _ J];exact hl);rw[dL _ _ J] at U;exact U
     ·exact⟨h,hF⟩
theorem Ul{M:Nat->Nd}(h:eo M)(hF:mK M){o:kM}(W:adI o):eo (yX M o).1/\mK (yX M o).1:=by
 unfold yX;split
 ·exact⟨h,hF⟩
 ·next hw=>
  have V:=rz h (p:=o.P) (Decidable.not_not.1 hw);split
  ·exact⟨h,hF⟩
  ·next hk=>
   have J:(M (cG M o.P).1).K=1:=by
    rcases h.kind (cG M o.P).1 with G|G|G
    ·exact absurd (by rw[G];rfl) V.1
    ·exact G.1
    ·exact absurd G.1 hk
   split
   ·exact⟨h,hF⟩
   ·next hneg=>
    split
    ·exact⟨h,hF⟩
    ·next h3=>
     split
     ·next h4=>
      split
      ·exact⟨h,hF⟩
      ·next hN=>
       refine⟨h.data J _,hF.up _ (hF.names _) (hF.len _) ?_ ?_⟩
       ·show(nI _ _).length<=832
        rw[oW];omega
       ·intro x U
        rcases MX U with z|z
        ·exact hF.bytes _ x z
        ·omega
     ·split
      ·exact⟨h,hF⟩
      ·next hl=>
       split
       ·exact⟨h,hF⟩
       ·refine⟨h.data J _,hF.up _ (hF.names _) (hF.len _) ?_ ?_⟩
        ·show(sO _ _ _).length<=832
         rw[ya];have :=hF.data (cG M o.P).1;omega
        ·intro x U
         rcases Ja U with z|z|z
         ·exact hF.bytes _ x z
         ·omega
         ·exact W x z
theorem M0{M:Nat->Nd}(h:eo M)(hF:mK M){o:kM}(J:o.K=5\/o.K=6):eo (Ei M o).1/\mK (Ei M o).1:=by
 unfold Ei;split
 ·exact⟨h,hF⟩
 ·split
  ·exact⟨h,hF⟩
  ·split
   ·exact⟨h,hF⟩
   ·next hf=>
    split
    ·exact⟨h,hF⟩
    ·next h5=>
     split
     ·exact⟨h,hF⟩
     ·next h6=>
      split
      ·exact⟨h,hF⟩
      ·next h7=>
       refine Rz h hF (by omega) ?_;obtain⟨-,U,-⟩:=pK h (d:=(dJ M o.P).1) (nm:=cL o.P) (by omega);rcases h.kind (cz (M (dJ M o.P).1).E (cL o.P)).toNat with z|z|z
       ·rw[z];rfl
       ·exact z.2
       ·by_cases e:(M (cz (M (dJ M o.P).1).E (cL o.P)).toNat).E=[]
        ·exact e
        ·rcases J with G|G
         ·exact absurd ⟨G,z.1⟩ h5
         ·exact absurd ⟨G,e⟩ h7
theorem Um{M:Nat->Nd}(h:eo M)(hF:mK M)(o:kM):eo (Ry M o).1/\mK (Ry M o).1:=by
 unfold Ry;split
 ·exact⟨h,hF⟩
 ·next hw=>
  have U:=rz h (p:=o.P) (Decidable.not_not.1 hw);split
  ·exact⟨h,hF⟩
  ·next hk=>
   have V:(M (cG M o.P).1).K=1:=by
    rcases h.kind (cG M o.P).1 with z|z|z
    ·exact absurd (by rw[z];rfl) U.1
    ·exact z.1
    ·exact absurd z.1 hk
   split
   ·exact⟨h,hF⟩
   ·split
    ·exact⟨h,hF⟩
    ·next hp=>
     have G:=uy (M:=M) (p:=o.Q) (Decidable.not_not.1 hp);split
     ·exact⟨h,hF⟩
     ·next hn=>
      split
      ·exact⟨h,hF⟩
      ·next hl=>
       obtain⟨A,B,hs,he⟩:=Gb h (d:=(dJ M o.Q).1) (nm:=cL o.Q) (by omega);refine⟨?_,?_⟩
       ·dsimp only
        rw[he];exact h.linked G.1 V hs
       ·have J:(dJ M o.Q).1≠(cG M o.P).1:=λe=>by
         have :=G.1;rw[e] at this;omega
        have z:mK (ng M (cG M o.P).1 { M (cG M o.P).1 with L:=(M (cG M o.P).1).L+1 }):=hF.up _ (hF.names _) (hF.len _) (hF.data _) (hF.bytes _);have W:=z.ins (dJ M o.Q).1 (nm:=cL o.Q) G.2.1 ((cG M o.P).1:Int) (by rw[dL _ _ J];omega);rw[dL _ _ J] at W;exact W
theorem mP.sub{M M':Nat->Nd}(h:∀a b,Edge M' a b->Edge M a b){d x:Nat}(k:mP M' d x):mP M d x:=mP.mono h k
theorem XT{M:Nat->Nd}{d:Nat}(J:(M (cz (M d).E nm).toNat).E=[]):
  (∀x,(K2 M d nm x).E=if x=d then lW (M d).E nm else (M x).E)/\(∀x,x≠(cz (M d).E nm).toNat->(K2 M d nm x).K=(M x).K)/\(∀a b,Edge (K2 M d nm) a b->Edge M a b):=by
 have G:∀x,(K2 M d nm x).E=if x=d then lW (M d).E nm else (M x).E:=λx=>by
  unfold K2 Eh;rw[qp];by_cases e:x=d
  ·rw[aC e,aC e]
  ·rw[aB e,aB e]
   unfold ng;by_cases h:x=(cz (M d).E nm).toNat
   ·rw[aC h,h,J]
    split
    ·rfl
    ·exact J
   ·rw[aB h]
 refine⟨G,λx V=> ?_,λa b ⟨e,z,U⟩=>⟨e,?_,U⟩⟩
 ·unfold K2 Eh
  rw[(yV _ _ _ x).1,dL _ _ V]
 ·rw[G] at z
  split at z
  ·next h=>rw[h];exact qq z
  ·exact z
theorem M3{M:Nat->Nd}(h:eo M)(hF:mK M)(o:kM):eo (Ej M o).1/\mK (Ej M o).1:=by
 unfold Ej;split
 ·exact⟨h,hF⟩
 ·split
  ·exact⟨h,hF⟩
  ·split
   ·exact⟨h,hF⟩
   ·next hf=>
    split
    ·exact⟨h,hF⟩
    ·next hq=>
     have aa:=uy (M:=M) (p:=o.Q) (Decidable.not_not.1 hq);split
     ·exact⟨h,hF⟩
     ·next hne=>
      split
      ·exact⟨h,hF⟩
      ·next hc=>
       obtain⟨ak,Bp,N5,jK⟩:=pK h (d:=(dJ M o.P).1) (nm:=cL o.P) (by omega);generalize (dJ M o.P).1=d at *;generalize (dJ M o.Q).1=t at *;generalize cL o.P=nm at *;generalize cL o.Q=G at *;split
       ·next hth=>
        obtain⟨af,av,ar,aj⟩:=pK h (d:=t) (nm:=G) hth;split
        ·exact⟨h,hF⟩
        ·next hov=>
         have hE:(M (cz (M t).E G).toNat).E=[]:=by
          have W:Rx M (cz (M d).E nm).toNat (cz (M t).E G).toNat=0:=Decidable.not_not.1 hov;unfold Rx at W;rcases h.kind (cz (M t).E G).toNat with J|J|J
          ·rw[J];rfl
          ·exact J.2
          ·split at W
           ·omega
           ·split at W
            ·omega
            ·split at W
             ·omega
             ·next h2=>
              by_cases e:(M (cz (M t).E G).toNat).E=[]
              ·exact e
              ·exact absurd ⟨J.1,e⟩ h2
         obtain⟨ac,ah⟩:=Rz h hF hth hE;obtain⟨kE,kK,kB⟩:=XT hE;have au:(cz (M d).E nm).toNat≠(cz (M t).E G).toNat:=λe=>hne (by omega)
         have ai:t≠(cz (M t).E G).toNat:=h.notSelf af;refine RA ac ah ?_ ?_ ?_ ?_ aa.2.1 ?_
         ·rw[kE]
          split
          ·next e=>
           subst e
           -- another name of the same directory
           have ae:nm≠G:=λe=>by subst e;exact hne rfl
           rw[N5];obtain⟨A,X,B,hs⟩:=kQ (h.rises d) nm;have J:=(kR hs λq hq=>(h.lead d q hq).1.1).2 (by omega);have U:(nm,cz (M d).E nm)∈lW (M d).E G:=by
            refine List.mem_filter.2 ⟨?_,by simpa using ae⟩;have h2:=hs.eq;rw[J] at h2;exact(cB (λl=>(nm,cz (M d).E nm)∈l) h2).mpr (by simp)
           obtain⟨A2,X2,B2,z⟩:=kQ (ac.rises d) nm;have K1:(K2 M d G d).E=lW (M d).E G:=by rw[kE,aC rfl]
           rw[K1] at z;have h3:=kR z λq hq=>(h.lead d q (qq hq)).1.1
           have h4:X2≠[]:=λe=>by
            subst e;have h5:=z.eq;rw[bY] at h5;rw[h5] at U;rcases aU.1 U with V|V
            ·exact lS _ (z.ahead _ V)
            ·exact lS _ (z.behind _ V)
           have h5:0<=cz (lW (M d).E G) nm:=by
            rcases Int.lt_or_le (cz (lW (M d).E G) nm) 0 with V|V
            ·exact absurd (h3.1.1 V) h4
            ·exact V
           have V:=h3.2 h5
           -- both stand in the same rising list
           have h7:=z.eq;rw[V] at h7;have h8:(nm,cz (M d).E nm)∈A2++([(nm,cz (lW (M d).E G) nm)]++B2):=h7▸U;simp only[aU,ay] at h8;rcases h8 with h9|h9|h9
           ·exact absurd (z.ahead _ h9) (lS _)
           ·exact(cB Prod.snd h9).symm
           ·exact absurd (z.behind _ h9) (lS _)
          ·exact N5.symm
         ·rw[kK t ai];exact aa.1
         ·left
          rw[kE,aC rfl];exact MZ G
         ·exact λag=>hc (ag.sub kB)
         ·rw[kE,aC rfl]
          rcases Ba h t G with J|⟨-,A,B,-,-,hl⟩
          ·omega
          ·have :=hF.len t
           right;omega
       ·next hth=>
        split
        ·exact⟨h,hF⟩
        ·next hl=>
         refine RA h hF N5.symm aa.1 (.inl (by omega)) hc aa.2.1 ?_;by_cases e:d=t
         ·exact .inl e
         ·right
          rcases dG (M t).E.length 24 with J|J
          ·exact J
          ·exact absurd ⟨e,J⟩ hl
theorem abp{M:Nat->Nd}(h:eo M)(hF:mK M){o:kM}(z:adI o):eo (oV M o).1/\mK (oV M o).1:=by
 unfold oV;split
 ·next h0=>exact Uk h hF h0
 ·split
  ·exact Ul h hF z
  ·split
   ·next h0=>exact M0 h hF h0
   ·split
    ·exact M3 h hF o
    ·split
     ·exact Um h hF o
     ·split
      ·exact⟨h,hF⟩
      ·split
       ·exact⟨h,hF⟩
       ·split
        ·exact⟨h,hF⟩
        ·exact⟨h,hF⟩
end Go.Proofs.YtepbpdipenedhaaGreatDoor
namespace Go.Proofs.YtepbpdipenedhaaGreatDoor
open Go.RowKit
variable{a b c i j k:Nat}{A B E M:List (ByteArray×Int)}{nm:ByteArray}{D X:List Int}{y:Int}{p:Int×Int}{n:bP}{own:Nat->List Nat}{W ex z:List Nat}{T V:List (bP×Value)}
end Go.Proofs.YtepbpdipenedhaaGreatDoor
namespace Go.Proofs.YtepbpdipenedhaaGreatDoor
open Go.RowKit
variable{a b c i j k:Nat}{A B E M:List (ByteArray×Int)}{nm:ByteArray}{D X:List Int}{y:Int}{p:Int×Int}{n:bP}{own:Nat->List Nat}{W ex z:List Nat}{T V:List (bP×Value)}
theorem Jb{u:Bool}(h:p∈eJ X b u):816<=p.1.toNat/\p.1.toNat<820:=by
 unfold eJ at h;split at h
 ·simp at h
 ·rw[ay] at h
  subst h;show 816<=((816+b/64:Nat):Int).toNat/\_;rw[aH];show 816<=816+b/64/\((816+b/64:Nat):Int).toNat<820;rw[aH];omega
theorem zP (l:List Nat):∀(X:List Int) (p:Int×Int),p∈cJ X l->816<=p.1.toNat/\p.1.toNat<820:=by
 induction l with
 |nil=>intro X p h;simp[cJ] at h
 |cons b l ih=>
  intro X p h;unfold cJ at h;rcases aU.1 h with h|h
  ·exact Jb h
  ·exact ih _ p h
theorem M4 (h:p∈gT b):1080<=p.1.toNat/\(p.1.toNat-1080)/8=b:=by
 unfold gT mi at h;obtain⟨j,z,rfl⟩:=bH.1 h;rw[bX] at z;show 1080<=((1080+b*8+j:Nat):Int).toNat/\(((1080+b*8+j:Nat):Int).toNat-1080)/8=b;rw[aH];omega
theorem pL (l:List Nat):∀(X:List Int) (p:Int×Int),p∈cW X l->(816<=p.1.toNat/\p.1.toNat<820)\/(1080<=p.1.toNat/\(p.1.toNat-1080)/8∈l):=by
 induction l with
 |nil=>intro X p h;simp[cW] at h
 |cons b l ih=>
  intro X p h;unfold cW at h;rcases aU.1 h with h|h
  ·rcases aU.1 h with h|h
   ·exact .inl (Jb h)
   ·have :=M4 h
    exact .inr ⟨this.1,by rw[this.2];simp⟩
  ·rcases ih _ p h with z|z
   ·exact .inl z
   ·exact .inr ⟨z.1,by simp[z.2]⟩
theorem XU{own:List Nat}(_:i<32)(J:bZ n)(ho:own.length=dz n){p:Int×Int}(h:p∈Hf X i n own):
  (816<=p.1.toNat/\p.1.toNat<820)\/(824+8*i<=p.1.toNat/\p.1.toNat<824+8*i+8)\/(1080<=p.1.toNat/\(p.1.toNat-1080)/8∈own):=by
 unfold Hf at h;split at h
 ·unfold mb at h
  rcases aU.1 h with h|h
  ·rcases pL _ _ p h with z|z
   ·exact .inl z
   ·exact .inr (.inr z)
  ·rcases aU.1 h with h|h
   ·obtain⟨m,j,G,U,z,-⟩:=ug h
    refine .inr (.inr ⟨by omega,?_⟩);have e:(p.1.toNat-1080)/8=own.getD m 0:=by omega
    rw[e,aj,aG G];exact bA G
   ·obtain⟨j,U,z,-⟩:=lF h
    exact .inr (.inl ⟨by omega,by omega⟩)
 ·rename_i hF
  have tV:dz n=eZ n:=aB hF;have V:=jz J;have W:=vC n;unfold oP at h;rcases aU.1 h with h|h
  ·rcases pL _ _ p h with z|z
   ·exact .inl z
   ·exact .inr (.inr z)
  ·rcases rN (by omega) h with z|z
   ·exact .inr (.inr ⟨z.1,z.2.1⟩)
   ·exact .inr (.inl (by have :=z.1;have :=z.2.1;omega))
theorem yb{own:List Nat}(J:i<32)(G:bZ n)(V:z=(aZ (aA X (cJ X own))).take (dz n))(U:dz n<=(aZ (aA X (cJ X own))).length){p:Int×Int}(h:p∈lH X i n own):
  (816<=p.1.toNat/\p.1.toNat<820)\/(824+8*i<=p.1.toNat/\p.1.toNat<824+8*i+8)\/(1080<=p.1.toNat/\(p.1.toNat-1080)/8∈z):=by
 unfold lH at h;rcases aU.1 h with h|h
 ·exact .inl (zP _ _ p h)
 ·subst V
  exact XU J G (sJ U) h
theorem Jc (l:List Nat):∀X:List Int,In64 X->X.length=3128->dC (aA X (cJ X l)) 0=dC X 0:=by
 induction l with
 |nil=>intro X _ _;rfl
 |cons b l ih=>
  intro X h G;have z:=jF [b] X h G;unfold cJ at z ⊢;have J:cJ (aA X (eJ X b false)) []=[]:=rfl;rw[J,bu] at z;rw[bD,ih _ z.1 (by rw[b7,G])];by_cases U:b=0\/256<=b
  ·unfold eJ;rw[aC U];rfl
  ·rw[BF h G b (by omega) (by omega),aB (by omega)]
theorem XV (G:In64 X)(V:X.length=3128){i:Nat}{n:bP}{own:List Nat}(hi:i<32)(hR:bZ n)(hn:dz n<=(aZ (aA X (cJ X own))).length):dC (aA X (lH X i n own)) 0=dC X 0:=by
 obtain⟨g1,-,-⟩:=jF own X G V;have J:=Jc own X G V;have hl:=b7 (cJ X own) X;rw[<-J];unfold lH;rw[bD];generalize aA X (cJ X own)=Y at *;have W:∀c∈(aZ Y).take (dz n),c≠0/\c<256:=pF;have z:∀qs:List (Int×Int),(∀p∈qs,820<=p.1.toNat)->dC (aA Y (cW Y ((aZ Y).take (dz n))++qs)) 0=dC Y 0:=λqs hq=>by
  rw[(FR g1 (by omega) W hq).1 0 (by omega),aS (λh=>(W 0 h).1 rfl),Bool.or_false]
 unfold Hf;split
 ·unfold mb
  refine z _ λp U=> ?_
  rcases aU.1 U with h|h
  ·obtain⟨m,j,-,-,J,-⟩:=ug h
   omega
  ·obtain⟨j,-,J,-⟩:=lF h
   omega
 ·rename_i hF
  have tV:dz n=eZ n:=aB hF;have ac:=jz hR;have ae:=vC n;have aa:=sJ hn;unfold oP;refine z _ λp U=> ?_
  rcases rN (by omega) U with ⟨h,-⟩|⟨h,-⟩<;>omega
def Hm (own:Nat->List Nat) (i:Nat) (o:List Nat):Nat->List Nat:=λj=>if j=i then o else own j
def mL (T:List (bP×Value)) (own:Nat->List Nat) (k:Nat):List Nat:=own k++dn (nT T k)
def mQ (T:List (bP×Value)) (i:Nat) (n:bP):List (bP×Value):=T.set i (n,.slice none 0 0)
theorem oX (h:T.length=32){i:Nat}(z:i<32)(n:bP)(j:Nat):nT (mQ T i n) j=if i=j then n else nT T j:=adC (by omega) n _ j
theorem Gc (J:T.length=32)(own:Nat->List Nat){i:Nat}(G:i<32)(n:bP)(o:List Nat)(b:Nat):∀k,
  (k<=i->jQ (mQ T i n) (Hm own i o) k b=jQ T own k b)/\(i<k->jQ (mQ T i n) (Hm own i o) k b+(mL T own i).count b=jQ T own k b+(o++dn n).count b):=by
 intro k;induction k with
 |zero=>exact⟨λ_=>rfl,λh=>by omega⟩
 |succ k ih=>
  have e:∀(U:List (bP×Value)) (z:Nat->List Nat),jQ U z (k+1) b=jQ U z k b+(z k++dn (nT U k)).count b:=λ_ _=>rfl
  refine⟨λh=> ?_,λh=> ?_⟩
  ·rw[e,e,ih.1 (by omega),oX J G,aB (by omega),Hm,aB (by omega)]
  ·rw[e,e]
   by_cases V:k=i
   ·subst V
    rw[ih.1 (by omega),oX J G,aC rfl,Hm,aC rfl];unfold mL;omega
   ·have W:=ih.2 (by omega)
    rw[oX J G,aB (by omega),Hm,aB V];omega
theorem Gd:∀m,k<m->(mL T own k).count b<=jQ T own m b:=by
 intro m;induction m with
 |zero=>intro h;omega
 |succ m ih=>
  intro h;show _<=jQ T own m b+(mL T own m).count b;by_cases e:k=m
  ·subst e;omega
  ·have :=ih (by omega);omega
theorem RB (z:j<k):∀m,k<m->(mL T own j).count b+(mL T own k).count b<=jQ T own m b:=by
 intro m;induction m with
 |zero=>intro h;omega
 |succ m ih=>
  intro h;show _<=jQ T own m b+(mL T own m).count b;by_cases e:k=m
  ·subst e
   have :=Gd (T:=T) (own:=own) (b:=b) k z;omega
  ·have :=ih (by omega);omega
structure qX (X:List Int) (T V:List (bP×Value)) (own:Nat->List Nat) (ex:List Nat):Prop where
 len:X.length=3128
 w64:In64 X
 sup:kD X
 gots:qJ X T own
 all:vK X T
 once:∀b,b<256->wG V own b+ex.count b<=1/\(dC X b=true↔wG V own b+ex.count b=1)
 exr:∀c∈ex,c≠0/\c<256
 tails:xD X V
 vlen:V.length=32
 vir:∀j,nT V j=nT T j\/nT V j=cr
abbrev StX (X:List Int) (T:List (bP×Value)) (own:Nat->List Nat) (h:List Nat):Prop:=qX X T T own h
theorem qX.each(h:qX X T V own W){i:Nat}(U:i<32):((nT T i).F≠0/\eG X (i:Int) (nT T i) (own i))\/(dP X (i:Int)/\nT T i=cr/\own i=[]):=by
 rcases h.gots.form i with ⟨z,-,G⟩|⟨z,G,h3⟩
 ·exact .inl ⟨z,G⟩
 ·right
  refine⟨?_,G,(h3 U).1⟩;rcases h.all i U with J|J
  ·exact J
  ·exact absurd z J
theorem Un (h:nT T k=cr)(z:own k=[]):mL T own k=[]:=by
 unfold mL;rw[h,z]
 decide
theorem sP:dn cr=[]:=by decide
theorem qX.rng(h:qX X T V own ex){k c:Nat}(W:k<32)(U:c∈mL V own k):c≠0/\c<256:=by
 rcases h.each W with ⟨-,J⟩|⟨-,J,h2⟩
 ·rcases aU.1 U with G|G
  ·exact J.mem c G
  ·rcases h.vir k with z|z
   ·rw[z] at G;exact pJ J.len J.right c G
   ·rw[z,sP] at G;simp at G
 ·rw[Un (by rcases h.vir k with z|z<;>rw[z];exact J) h2] at U;simp at U
theorem qX.used(h:qX X T V own W){k c:Nat}(z:k<32)(G:c∈mL V own k):dC X c=true:=by
 have U:=h.rng z G;have J:=h.once c U.2;have h3:=Gd (T:=V) (own:=own) (b:=c) 32 z;have h4:0<(mL V own k).count c:=List.count_pos_iff.2 G;unfold wG at J;exact J.2.2 (by omega)
theorem qX.usedEx(h:qX X T V own z){c:Nat}(G:c∈z):dC X c=true:=by
 have J:=h.once c (h.exr c G).2;have U:0<z.count c:=List.count_pos_iff.2 G;exact J.2.2 (by omega)
theorem qX.apart(h:qX X T V own ex){j k c:Nat}(J:j<32)(W:k<32)(G:j≠k)(U:c∈mL V own j):c∉mL V own k:=λz=>by
 have h1:=h.rng J U;have h2:=(h.once c h1.2).1;have h4:0<(mL V own j).count c:=List.count_pos_iff.2 U;have h5:0<(mL V own k).count c:=List.count_pos_iff.2 z;unfold wG at h2;rcases Nat.lt_or_gt_of_ne G with e|e
 ·have :=RB (T:=V) (own:=own) (b:=c) e 32 W;omega
 ·have :=RB (T:=V) (own:=own) (b:=c) e 32 J;omega
theorem qX.apartEx(h:qX X T V own z){k c:Nat}(J:k<32)(U:c∈mL V own k):c∉z:=λG=>by
 have W:=h.rng J U;have h2:=(h.once c W.2).1;have h4:0<(mL V own k).count c:=List.count_pos_iff.2 U;have h5:0<z.count c:=List.count_pos_iff.2 G;have :=Gd (T:=V) (own:=own) (b:=c) 32 J;unfold wG at h2;omega
theorem qX.inner(h:qX X T V own ex){k c:Nat}(G:k<32)(J:c∈own k):c∉dn (nT V k):=λz=>by
 have W:=h.rng G (bR _ J);have h2:=(h.once c W.2).1;have U:=Gd (T:=V) (own:=own) (b:=c) 32 G;have h4:0<(own k).count c:=List.count_pos_iff.2 J;have h5:0<(dn (nT V k)).count c:=List.count_pos_iff.2 z;unfold wG at h2;unfold mL at U;rw[gK] at U;omega
theorem uz{Y:List Int}(hB:n.B.length=13)(h:jR X n)(hs:∀c∈dn n,∀j,j<8->Y.getD (1080+8*c+j) 0=X.getD (1080+8*c+j) 0):jR Y n:=by
 intro W k J G j U z;have V:(n.B.getD k 0).toNat∈dn n:=by
  unfold dn fx;refine bH.2 ⟨n.B.getD k 0,List.mem_filter.2 ⟨?_,by simpa using G⟩,rfl⟩;rw[aV (by omega),aj,aG (by omega)];exact bA _
 have :=hs _ V (j/8) (by omega);rw[this];exact h W k J G j U z
end Go.Proofs.YtepbpdipenedhaaGreatDoor
