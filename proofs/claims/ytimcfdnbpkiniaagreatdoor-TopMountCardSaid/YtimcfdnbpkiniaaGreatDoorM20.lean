/- Lemmas. -/
import Derived.Test.YtimcfdnbpkiniaaGreatDoorM19
namespace Go.Proofs.YtimcfdnbpkiniaaGreatDoor
open Go.RowKit
section
variable{a b c i j k:Nat}{A B E M:List (ByteArray×Int)}{nm:ByteArray}{D X:List Int}{y:Int}{p:Int×Int}{n:bT}{own:Nat->List Nat}{W z:List Nat}{T V:List (bT×Value)}
structure Nd where
 K:Int
 L:Int
 D:List Int
 E:List (ByteArray×Int)
def vU:Nd:=⟨0,0,[],[]⟩
def nu (M:Nat->Nd) (i:Nat) (n:Nd):Nat->Nd:=λj=>if j=i then n else M j
theorem nG (M:Nat->Nd)(i:Nat)(n:Nd):nu M i n i=n:=aB rfl
theorem dJ (M:Nat->Nd){i j:Nat}(n:Nd)(h:j≠i):nu M i n j=M j:=aA h
def Edge (M:Nat->Nd) (a b:Nat):Prop:=∃e∈(M a).E,e.2=(b:Int)
inductive kR (M:Nat->Nd) (d:Nat):Nat->Prop
 |here:kR M d d
 |step {a b:Nat}:kR M d a->Edge M a b->kR M d b
theorem kR.trans{M:Nat->Nd}(h:kR M a b)(k:kR M b c):kR M a c:=by
 induction k with
 |here=>exact h
 |step _ e ih=>exact ih.step e
theorem kR.mono{M M':Nat->Nd}(h:∀a b,Edge M a b->Edge M' a b){d x:Nat}(k:kR M d x):kR M' d x:=by
 induction k with
 |here=>exact .here
 |step _ e ih=>exact ih.step (h _ _ e)
def tE (E:List (ByteArray×Int)) (i:Nat):Nat:=E.countP λe=>e.2==(i:Int)
theorem lj (A B:List (ByteArray×Int))(i:Nat):tE (A++B) i=tE A i+tE B i:=List.countP_append
theorem yw (nm:ByteArray)(x:Int)(i:Nat):tE [(nm,x)] i=if x=(i:Int) then 1 else 0:=by simp[tE,List.countP_singleton]
theorem Od (i:Nat):tE [] i=0:=rfl
theorem Hf:0<tE E i↔∃e∈E,e.2=(i:Int):=by simp[tE,List.countP_pos_iff]
def lC (M:Nat->Nd):Nat->Nat->Nat
 |0,_=>0
 |k+1,i=>lC M k i+tE (M k).E i
theorem Hg{M M':Nat->Nd}(h:∀a,a<k->(M' a).E=(M a).E)(i:Nat):lC M' k i=lC M k i:=by
 induction k with
 |zero=>rfl
 |succ k ih=>show _+_=_+_;rw[ih λa z=>h a (by omega),h k (by omega)]
theorem Fs (M:Nat->Nd)(d:Nat)(n:Nd)(i:Nat):∀k,d<k->lC (nu M d n) k i+tE (M d).E i=lC M k i+tE n.E i:=by
 intro k;induction k with
 |zero=>intro h;omega
 |succ k ih=>
  intro h;show(lC (nu M d n) k i+tE (nu M d n k).E i)+_=(lC M k i+tE (M k).E i)+_;by_cases e:d=k
  ·subst e
   rw[nG,Hg (M:=M) (M':=nu M d n) (λa z=>by rw[dJ M n (by omega)])];omega
  ·rw[dJ M n (by omega)]
   have :=ih (by omega);omega
theorem qZ{M:Nat->Nd}:0<lC M k i↔∃a,a<k/\Edge M a i:=by
 induction k with
 |zero=>exact⟨λh=>by simp[lC] at h,λ⟨_,h,_⟩=>by omega⟩
 |succ k ih=>
  show 0<lC M k i+tE (M k).E i↔_;constructor
  ·intro h
   rcases dZ (lC M k i) with G|G
   ·exact⟨k,by omega,Hf.1 (by omega)⟩
   ·obtain⟨a,J,z⟩:=ih.1 G
    exact⟨a,by omega,z⟩
  ·rintro⟨a,J,z⟩
   by_cases e:a=k
   ·subst e
    have :=Hf.2 z;omega
   ·have :=ih.2 ⟨a,by omega,z⟩
    omega
theorem Oe{M:Nat->Nd}(G:Edge M a i)(J:Edge M c i)(z:a<c):∀k,c<k->2<=lC M k i:=by
 intro k;induction k with
 |zero=>intro h;omega
 |succ k ih=>
  intro h;show 2<=lC M k i+tE (M k).E i;by_cases e:c=k
  ·subst e
   have U:=Hf.2 J;have V:=qZ.2 ⟨a,z,G⟩;omega
  ·have :=ih (by omega)
   omega
structure dw (M:Nat->Nd):Prop where
 out:∀i,32<=i->M i=vU
 kind:∀i,M i=vU\/((M i).K=1/\(M i).E=[])\/((M i).K=2/\(M i).D=[])
 root:(M 0).K=2
 lead:∀i,∀e∈(M i).E,(0<=e.2/\e.2<32)/\(M e.2.toNat).K≠0
 rises:∀i,yq (M i).E
 links:∀i,i<32->((M i).K=1->(lC M 32 i:Int)=(M i).L/\1<=lC M 32 i)/\((M i).K=2->(M i).L=1/\(i=0->lC M 32 i=0)/\(i≠0->lC M 32 i=1))
 reach:∀i,(M i).K≠0->kR M 0 i
theorem dw.rng{M:Nat->Nd}(h:dw M){i:Nat}(G:(M i).K≠0):i<32:=by
 rcases dE i 32 with z|z
 ·exact z
 ·exact absurd (by rw[h.out i z];rfl) G
theorem dw.dir{M:Nat->Nd}(h:dw M){a b:Nat}(J:Edge M a b):(M a).K=2/\a<32/\(M b).K≠0/\b<32:=by
 obtain⟨e,G,J⟩:=J;have U:(M a).K=2:=by
  rcases h.kind a with z|⟨-,z⟩|z
  ·rw[z] at G;simp[vU] at G
  ·rw[z] at G;simp at G
  ·exact z.1
 have z:=h.lead a e G;rw[J,aG] at z;exact⟨U,h.rng (by omega),z.2,by omega⟩
theorem dw.parent{M:Nat->Nd}(h:dw M){a c b:Nat}(V:(M b).K=2)(z:Edge M a b)(G:Edge M c b):a=c:=by
 have J:=((h.links b (h.dir z).2.2.2).2 V).2;have U:lC M 32 b<=1:=by
  by_cases e:b=0
  ·rw[J.1 e];omega
  ·rw[J.2 e];omega
 rcases Nat.lt_trichotomy a c with e|e|e
 ·have :=Oe z G e 32 (h.dir G).2.1;omega
 ·exact e
 ·have :=Oe G z e 32 (h.dir z).2.1;omega
theorem dw.noRoot{M:Nat->Nd}(h:dw M){a:Nat}:¬Edge M a 0:=λz=>by
 have G:=((h.links 0 (by omega)).2 h.root).2.1 rfl;have J:=qZ.2 ⟨a,(h.dir z).2.1,z⟩;omega
def aha (M:Nat->Nd) (a b:Nat):Prop:=∃c,kR M a c/\Edge M c b
theorem Re{M:Nat->Nd}(h:kR M a b):a=b\/∃c,Edge M a c/\kR M c b:=by
 induction h with
 |here=>exact .inl rfl
 |step h e ih=>
  rcases ih with rfl|⟨c,z,G⟩
  ·exact .inr ⟨_,e,.here⟩
  ·exact .inr ⟨c,z,G.step e⟩
theorem dw.acyclic{M:Nat->Nd}(h:dw M){x:Nat}(W:kR M 0 x):¬aha M x x:=by
 induction W with
 |here=>rintro⟨c,-,V⟩;exact h.noRoot V
 | @step a b _ e ih=>
  rintro⟨c,J,U⟩;have hb:(M b).K=2:=by
   rcases Re J with rfl|⟨d,G,-⟩
   ·exact(h.dir U).1
   ·exact(h.dir G).1
  have z:=h.parent hb U e;subst z;cases J with
  |here=>exact ih ⟨_,.here,e⟩
  |step G h4=>exact ih ⟨_,(kR.step .here e).trans G,h4⟩
def oM (M:Nat->Nd) (d:Nat) (E:List (ByteArray×Int)):Nat->Nd:=nu M d { M d with E:=E }
theorem o9 (M:Nat->Nd)(d:Nat)(E:List (ByteArray×Int))(j:Nat):(oM M d E j).E=if j=d then E else (M j).E:=by
 unfold oM nu;by_cases h:j=d
 ·rw[aB h,aB h]
 ·rw[aA h,aA h]
theorem yx (M:Nat->Nd)(d:Nat)(E:List (ByteArray×Int))(j:Nat):(oM M d E j).K=(M j).K/\(oM M d E j).L=(M j).L/\(oM M d E j).D=(M j).D:=by
 unfold oM nu;by_cases h:j=d
 ·rw[aB h,h];exact⟨rfl,rfl,rfl⟩
 ·rw[aA h];exact⟨rfl,rfl,rfl⟩
theorem BM (M:Nat->Nd){d:Nat}(h:d<32)(E:List (ByteArray×Int))(i:Nat):lC (oM M d E) 32 i+tE (M d).E i=lC M 32 i+tE E i:=Fs M d _ i 32 h
def Rf (M:Nat->Nd) (d i:Nat) (K:Int) (E:List (ByteArray×Int)):Nat->Nd:=oM (nu M i ⟨K,1,[],[]⟩) d E
theorem dw.noEdge{M:Nat->Nd}(h:dw M){i:Nat}(z:M i=vU)(a:Nat):¬Edge M a i:=λG=>(h.dir G).2.2.1 (by rw[z];rfl)
theorem dw.made{M:Nat->Nd}(h:dw M){d i:Nat}{K:Int}{A B:List (ByteArray×Int)}{nm:ByteArray}(hd:(M d).K=2)(U:M i=vU)(jD:i<32)(hK:K=1\/K=2)(hs:iO (M d).E A [] B nm):
  dw (Rf M d i K (A++([(nm,(i:Int))]++B))):=by
 have Og:=h.rng (i:=d) (by omega);have W:d≠i:=λe=>by rw[e,U] at hd;simp[vU] at hd
 have Mn:(M d).E=A++B:=hs.eq;have kk:∀j,(Rf M d i K (A++([(nm,(i:Int))]++B)) j).K=if j=i then K else (M j).K:=λj=>by
  unfold Rf;rw[(yx _ _ _ j).1];unfold nu;split<;>rfl
 have kL:∀j,(Rf M d i K (A++([(nm,(i:Int))]++B)) j).L=if j=i then 1 else (M j).L:=λj=>by
  unfold Rf;rw[(yx _ _ _ j).2.1];unfold nu;split<;>rfl
 have kE:∀j,(Rf M d i K (A++([(nm,(i:Int))]++B)) j).E=if j=d then A++([(nm,(i:Int))]++B) else (M j).E:=λj=>by
  unfold Rf;rw[o9];by_cases e:j=d
  ·rw[aB e,aB e]
  ·rw[aA e,aA e]
   unfold nu;by_cases G:j=i
   ·rw[aB G,G,U];rfl
   ·rw[aA G]
 have Eo:∀a b,Edge M a b->Edge (Rf M d i K (A++([(nm,(i:Int))]++B))) a b:=λa b ⟨e,hm,J⟩=>⟨e,by
  rw[kE];split
  ·next G=>rw[G,Mn] at hm;rcases aT.1 hm with z|z<;>simp[z]
  ·exact hm,J⟩
 have aa:Edge (Rf M d i K (A++([(nm,(i:Int))]++B))) d i:=⟨(nm,(i:Int)),by rw[kE,aB rfl];simp,rfl⟩;have yz:∀j,lC (Rf M d i K (A++([(nm,(i:Int))]++B))) 32 j=lC M 32 j+if j=i then 1 else 0:=λj=>by
  have z:=BM (nu M i ⟨K,1,[],[]⟩) Og (A++([(nm,(i:Int))]++B)) j;have h2:=Fs M i ⟨K,1,[],[]⟩ j 32 jD;rw[dJ M _ W,Mn,lj,lj,lj,yw] at z;rw[U,show(vU).E=[] from rfl,Od] at h2;unfold Rf;by_cases e:j=i
  ·subst e;simp only[aB] at z ⊢;omega
  ·rw[aA] at z;rw[aA e];omega
 refine⟨λj V=> ?_,λj=> ?_,?_,λj e J=> ?_,λj=> ?_,λj V=> ?_,λj V=> ?_⟩
 ·unfold Rf oM
  rw[dJ _ _ (by omega),dJ _ _ (by omega)];exact h.out j V
 ·unfold Rf oM
  by_cases e:j=d
  ·subst e
   rw[nG,dJ _ _ W];rcases h.kind j with z|z|z
   ·rw[z] at hd;simp[vU] at hd
   ·omega
   ·exact .inr (.inr ⟨z.1,z.2⟩)
  ·rw[dJ _ _ e]
   by_cases G:j=i
   ·subst G
    rw[nG];rcases hK with rfl|rfl
    ·exact .inr (.inl ⟨rfl,rfl⟩)
    ·exact .inr (.inr ⟨rfl,rfl⟩)
   ·rw[dJ _ _ G]
    exact h.kind j
 ·rw[kk,aA (λe=>by rw[<-e] at U;have :=h.root;rw[U] at this;simp[vU] at this)]
  exact h.root
 ·rw[kE] at J
  have :e∈(M j).E\/e=(nm,(i:Int)):=by
   split at J
   ·next G=>
    rw[G,Mn];simp only[aT,au] at J ⊢;rcases J with z|z|z
    ·exact .inl (.inl z)
    ·exact .inr z
    ·exact .inl (.inr z)
   ·exact .inl J
  rcases this with z|rfl
  ·have :=h.lead j e z
   refine⟨this.1,?_⟩;rw[kk];split
   ·omega
   ·exact this.2
  ·refine⟨by show(0:Int)<=(i:Int)/\(i:Int)<32;omega,?_⟩
   rw[kk,aB (by simp)];omega
 ·rw[kE]
  split
  ·exact hs.rises (h.rises d) _ (.inr ⟨_,rfl⟩)
  ·exact h.rises j
 ·rw[kk,kL,yz]
  by_cases e:j=i
  ·subst e
   have h0:lC M 32 j=0:=by
    rcases dZ (lC M 32 j) with z|z
    ·exact z
    ·obtain⟨a,-,ha⟩:=qZ.1 z
     exact absurd ha (h.noEdge U a)
   have Ci:j≠0:=λe=>by subst e;have :=h.root;rw[U] at this;simp[vU] at this
   simp only[aB,h0];exact⟨λ_=>⟨by first|rfl|trivial,by omega⟩,λ_=>⟨trivial,λh2=>absurd h2 Ci,λ_=>by first|rfl|trivial⟩⟩
  ·simp only[aA e,dC]
   exact h.links j V
 ·rw[kk] at V
  by_cases e:j=i
  ·subst e
   exact((h.reach d (by omega)).mono Eo).step aa
  ·rw[aA e] at V
   exact(h.reach j V).mono Eo
def Ta (M:Nat->Nd) (d i:Nat) (E:List (ByteArray×Int)):Nat->Nd:=oM (nu M i { M i with L:=(M i).L+1 }) d E
theorem dw.linked{M:Nat->Nd}(h:dw M){d i:Nat}{A B:List (ByteArray×Int)}{nm:ByteArray}(hd:(M d).K=2)(hi:(M i).K=1)(hs:iO (M d).E A [] B nm):
  dw (Ta M d i (A++([(nm,(i:Int))]++B))):=by
 have Og:=h.rng (i:=d) (by omega);have jD:=h.rng (i:=i) (by omega);have V:d≠i:=λe=>by rw[e] at hd;omega
 have Mn:(M d).E=A++B:=hs.eq;have W:∀j,(Ta M d i (A++([(nm,(i:Int))]++B)) j).K=(M j).K:=λj=>by
  unfold Ta;rw[(yx _ _ _ j).1];unfold nu;split
  ·next e=>rw[e]
  ·rfl
 have kL:∀j,(Ta M d i (A++([(nm,(i:Int))]++B)) j).L=(M j).L+if j=i then 1 else 0:=λj=>by
  unfold Ta;rw[(yx _ _ _ j).2.1];unfold nu;split
  ·next e=>rw[e]
  ·simp
 have kE:∀j,(Ta M d i (A++([(nm,(i:Int))]++B)) j).E=if j=d then A++([(nm,(i:Int))]++B) else (M j).E:=λj=>by
  unfold Ta;rw[o9];by_cases e:j=d
  ·rw[aB e,aB e]
  ·rw[aA e,aA e]
   unfold nu;split
   ·next G=>rw[G]
   ·rfl
 have Eo:∀a b,Edge M a b->Edge (Ta M d i (A++([(nm,(i:Int))]++B))) a b:=λa b ⟨e,hm,J⟩=>⟨e,by
  rw[kE];split
  ·next G=>rw[G,Mn] at hm;rcases aT.1 hm with z|z<;>simp[z]
  ·exact hm,J⟩
 have yz:∀j,lC (Ta M d i (A++([(nm,(i:Int))]++B))) 32 j=lC M 32 j+if j=i then 1 else 0:=λj=>by
  have h0:({ M i with L:=(M i).L+1 }:Nd).E=(M i).E:=rfl;unfold Ta;generalize ({ M i with L:=(M i).L+1 }:Nd)=n0 at *;have z:=BM (nu M i n0) Og (A++([(nm,(i:Int))]++B)) j;have h2:=Fs M i n0 j 32 jD;rw[dJ M _ V,Mn,lj,lj,lj,yw] at z;rw[h0] at h2;by_cases e:j=i
  ·subst e;simp only[aB] at z ⊢;omega
  ·rw[aA] at z;rw[aA e];omega
 refine⟨λj U=> ?_,λj=> ?_,?_,λj e J=> ?_,λj=> ?_,λj U=> ?_,λj U=> ?_⟩
 ·unfold Ta oM
  rw[dJ _ _ (by omega),dJ _ _ (by omega)];exact h.out j U
 ·unfold Ta oM
  by_cases e:j=d
  ·subst e
   rw[nG,dJ _ _ V];rcases h.kind j with z|z|z
   ·rw[z] at hd;simp[vU] at hd
   ·omega
   ·exact .inr (.inr ⟨z.1,z.2⟩)
  ·rw[dJ _ _ e]
   by_cases G:j=i
   ·subst G
    rw[nG];rcases h.kind j with z|z|z
    ·rw[z] at hi;simp[vU] at hi
    ·exact .inr (.inl ⟨z.1,z.2⟩)
    ·omega
   ·rw[dJ _ _ G]
    exact h.kind j
 ·rw[W]
  exact h.root
 ·rw[kE] at J
  have :e∈(M j).E\/e=(nm,(i:Int)):=by
   split at J
   ·next G=>
    rw[G,Mn];simp only[aT,au] at J ⊢;rcases J with z|z|z
    ·exact .inl (.inl z)
    ·exact .inr z
    ·exact .inl (.inr z)
   ·exact .inl J
  rw[W];rcases this with z|rfl
  ·exact h.lead j e z
  ·refine⟨by show(0:Int)<=(i:Int)/\(i:Int)<32;omega,?_⟩
   show(M (i:Int).toNat).K≠0;rw[aG];omega
 ·rw[kE]
  split
  ·exact hs.rises (h.rises d) _ (.inr ⟨_,rfl⟩)
  ·exact h.rises j
 ·rw[W,kL,yz]
  have z:=h.links j U;by_cases e:j=i
  ·subst e
   simp only[aB];exact⟨λ_=>⟨by have :=(z.1 hi).1;omega,by omega⟩,λh2=>by omega⟩
  ·simp only[aA e,dC,Int.add_zero]
   exact z
 ·rw[W] at U
  exact(h.reach j U).mono Eo
def EX (M:Nat->Nd) (d j:Nat) (E:List (ByteArray×Int)):Nat->Nd:=oM (nu M j (if (M j).L=1 then vU else { M j with L:=(M j).L-1 })) d E
theorem iO.leads(h:iO E A [(nm,(j:Int))] B nm):∃e∈E,e.2=(j:Int):=⟨(nm,(j:Int)),by rw[h.eq];simp,rfl⟩
theorem dw.notSelf{M:Nat->Nd}(h:dw M){d j:Nat}(z:Edge M d j):d≠j:=λe=>by
 subst e;exact h.acyclic (h.reach d (h.dir z).2.2.1) ⟨d,.here,z⟩
theorem dw.removed{M:Nat->Nd}(h:dw M){d j:Nat}{A B:List (ByteArray×Int)}{nm:ByteArray}(hj:(M j).E=[])(hs:iO (M d).E A [(nm,(j:Int))] B nm):
  dw (EX M d j (A++B)):=by
 have ac:Edge M d j:=hs.leads;obtain⟨hd,Og,aa,af⟩:=h.dir ac;have ai:=h.notSelf ac;have Mn:(M d).E=A++([(nm,(j:Int))]++B):=hs.eq;have Ci:j≠0:=λe=>by subst e;exact h.noRoot ac
 have Cx:1<=lC M 32 j:=qZ.2 ⟨d,Og,ac⟩
 -- one link left, or a file with more
 have hL:((M j).L=1/\lC M 32 j=1)\/((M j).K=1/\(M j).L≠1/\(lC M 32 j:Int)=(M j).L/\2<=lC M 32 j):=by
  have z:=h.links j af;rcases h.kind j with h2|h2|h2
  ·rw[h2] at aa;simp[vU] at aa
  ·have h3:=(z.1 h2.1).1
   by_cases e:(M j).L=1
   ·exact .inl ⟨e,by omega⟩
   ·exact .inr ⟨h2.1,e,h3,by omega⟩
  ·exact .inl ⟨(z.2 h2.1).1,(z.2 h2.1).2.2 Ci⟩
 have kk:∀x,(EX M d j (A++B) x).K=if x=j/\(M j).L=1 then 0 else (M x).K:=λx=>by
  unfold EX;rw[(yx _ _ _ x).1];unfold nu;by_cases e:x=j
  ·rw[aB e]
   by_cases G:(M j).L=1
   ·rw[aB G,aB ⟨e,G⟩];rfl
   ·rw[aA G,aA (λh=>G h.2),e]
  ·rw[aA e,aA (λh=>e h.1)]
 have kE:∀x,(EX M d j (A++B) x).E=if x=d then A++B else (M x).E:=λx=>by
  unfold EX;rw[o9];by_cases e:x=d
  ·rw[aB e,aB e]
  ·rw[aA e,aA e]
   unfold nu;by_cases G:x=j
   ·rw[aB G,G,hj]
    split
    ·rfl
    ·exact hj
   ·rw[aA G]
 have Eo:∀a b,b≠j->Edge M a b->Edge (EX M d j (A++B)) a b:=λa b hb ⟨e,U,J⟩=>⟨e,by
  rw[kE];split
  ·next G=>
   rw[G,Mn] at U;simp only[aT,au] at U ⊢;rcases U with z|z|z
   ·exact .inl z
   ·rw[z] at J
    have :(j:Int)=(b:Int):=J;omega
   ·exact .inr z
  ·exact U,J⟩
 have W:∀a b,Edge (EX M d j (A++B)) a b->Edge M a b:=λa b ⟨e,U,J⟩=>⟨e,by
  rw[kE] at U;split at U
  ·next G=>rw[G,Mn];rcases aT.1 U with z|z<;>simp[z]
  ·exact U,J⟩
 have yz:∀x,lC (EX M d j (A++B)) 32 x+(if x=j then 1 else 0)=lC M 32 x:=λx=>by
  have h3:tE (if (M j).L=1 then vU else { M j with L:=(M j).L-1 }).E x=0:=by
   split
   ·rfl
   ·show tE (M j).E x=0;rw[hj];rfl
  unfold EX;generalize (if (M j).L=1 then vU else { M j with L:=(M j).L-1 })=n0 at *;have z:=BM (nu M j n0) Og (A++B) x;have h2:=Fs M j n0 x 32 af;rw[dJ M _ ai,Mn,lj,lj,lj,yw] at z;rw[hj,h3,Od] at h2;by_cases e:x=j
  ·subst e;simp only[aB] at z ⊢;omega
  ·rw[aA] at z;rw[aA e];omega
 have aj:∀a,¬Edge M j a:=λa ⟨e,U,_⟩=>by rw[hj] at U;simp at U
 have ag:∀x,kR M 0 x->x≠j->kR (EX M d j (A++B)) 0 x:=λx V=>by
  induction V with
  |here=>exact λ_=> .here
  | @step a b _ J ih=>exact λhb=>(ih λe=>by subst e;exact aj _ J).step (Eo _ _ hb J)
 refine⟨λx V=> ?_,λx=> ?_,?_,λx e J=> ?_,λx=> ?_,λx V=> ?_,λx V=> ?_⟩
 ·unfold EX oM
  rw[dJ _ _ (by omega),dJ _ _ (by omega)];exact h.out x V
 ·unfold EX oM
  by_cases e:x=d
  ·subst e
   rw[nG,dJ _ _ ai];rcases h.kind x with z|z|z
   ·rw[z] at hd;simp[vU] at hd
   ·omega
   ·exact .inr (.inr ⟨z.1,z.2⟩)
  ·rw[dJ _ _ e]
   by_cases G:x=j
   ·subst G
    rw[nG];split
    ·exact .inl rfl
    ·rcases h.kind x with z|z|z
     ·rw[z] at aa;simp[vU] at aa
     ·exact .inr (.inl ⟨z.1,z.2⟩)
     ·exact .inr (.inr ⟨z.1,z.2⟩)
   ·rw[dJ _ _ G]
    exact h.kind x
 ·rw[kk,aA (λe=>Ci e.1.symm)]
  exact h.root
 ·have U:e∈(M x).E:=by
   rw[kE] at J;split at J
   ·next G=>rw[G,Mn];rcases aT.1 J with z|z<;>simp[z]
   ·exact J
  have z:=h.lead x e U;refine⟨z.1,?_⟩;rw[kk];rw[aA ?_]
  ·exact z.2
  ·rintro⟨e1,G⟩
   have h3:Edge (EX M d j (A++B)) x j:=⟨e,J,by omega⟩;have ak:x<32:=(h.dir (W _ _ h3)).2.1;have h4:=qZ.2 ⟨x,ak,h3⟩;have h5:=yz j;rw[aB rfl] at h5;rcases hL with h6|h6<;>omega
 ·rw[kE]
  split
  ·have :=hs.rises (h.rises d) [] (.inl rfl)
   simpa using this
  ·exact h.rises x
 ·have h5:=yz x
  by_cases e:x=j
  ·subst e
   rw[aB rfl] at h5;rcases hL with h6|h6
   ·rw[kk,aB ⟨rfl,h6.1⟩]
    exact⟨λh=>by omega,λh=>by omega⟩
   ·rw[kk,aA (λh=>h6.2.1 h.2)]
    have ae:(EX M d x (A++B) x).L=(M x).L-1:=by
     unfold EX;rw[(yx _ _ _ x).2.1,nG,aA h6.2.1]
    rw[ae];exact⟨λ_=>⟨by omega,by omega⟩,λh=>by omega⟩
  ·rw[aA e] at h5
   have ae:(EX M d j (A++B) x).L=(M x).L:=by
    unfold EX;rw[(yx _ _ _ x).2.1,dJ _ _ e]
   rw[kk,aA (λh=>e h.1),ae,show lC (EX M d j (A++B)) 32 x=lC M 32 x by omega];exact h.links x V
 ·by_cases e:x=j
  ·subst e
   rw[kk] at V;have h5:=yz x;rw[aB rfl] at h5;rcases hL with h6|h6
   ·rw[aB ⟨rfl,h6.1⟩] at V;exact absurd rfl V
   ·obtain⟨a,ha,ah⟩:=qZ.1 (show 0<lC (EX M d x (A++B)) 32 x by omega)
    have h7:=W _ _ ah;exact(ag a (h.reach a (by have :=(h.dir h7).1;omega)) (h.notSelf h7)).step ah
  ·rw[kk,aA (λh=>e h.1)] at V
   exact ag x (h.reach x V) e
def Kg (M:Nat->Nd) (d t:Nat) (E h:List (ByteArray×Int)):Nat->Nd:=oM (oM M d E) t h
theorem dw.moved{M:Nat->Nd}(h:dw M){d t i:Nat}{A B U J:List (ByteArray×Int)}{nm nm':ByteArray}(hs:iO (M d).E A [(nm,(i:Int))] B nm)(ht:(M t).K=2)(ac:iO (oM M d (A++B) t).E U [] J nm')
  (hb:¬kR M i t):dw (Kg M d t (A++B) (U++([(nm',(i:Int))]++J))):=by
 have af:Edge M d i:=hs.leads;obtain⟨hd,Og,aj,jD⟩:=h.dir af;have ae:=h.rng (i:=t) (by omega);have Mn:(M d).E=A++([(nm,(i:Int))]++B):=hs.eq;have aa:(oM M d (A++B) t).E=U++J:=ac.eq;have kk:∀x,(Kg M d t (A++B) (U++([(nm',(i:Int))]++J)) x).K=(M x).K/\(Kg M d t (A++B) (U++([(nm',(i:Int))]++J)) x).L=(M x).L/\(Kg M d t (A++B) (U++([(nm',(i:Int))]++J)) x).D=(M x).D:=λx=>by
  have z:=yx (oM M d (A++B)) t (U++([(nm',(i:Int))]++J)) x;have h2:=yx M d (A++B) x;exact⟨z.1.trans h2.1,z.2.1.trans h2.2.1,z.2.2.trans h2.2.2⟩
 have e1:∀a b,Edge M a b->Edge (oM M d (A++B)) a b\/(a=d/\b=i):=λa b ⟨e,hm,G⟩=>by
  by_cases e2:a=d
  ·rw[e2,Mn] at hm
   simp only[aT,au] at hm;rcases hm with z|z|z
   ·exact .inl ⟨e,by rw[o9,aB e2];simp[z],G⟩
   ·right
    rw[z] at G;have h2:(i:Int)=(b:Int):=G;exact⟨e2,by omega⟩
   ·exact .inl ⟨e,by rw[o9,aB e2];simp[z],G⟩
  ·exact .inl ⟨e,by rw[o9,aA e2];exact hm,G⟩
 have e2:∀a b,Edge (oM M d (A++B)) a b->Edge (Kg M d t (A++B) (U++([(nm',(i:Int))]++J))) a b:=λa b ⟨e,hm,G⟩=>⟨e,by
  unfold Kg;rw[o9];split
  ·next e3=>rw[e3,aa] at hm;rcases aT.1 hm with z|z<;>simp[z]
  ·exact hm,G⟩
 have e3:Edge (Kg M d t (A++B) (U++([(nm',(i:Int))]++J))) t i:=⟨(nm',(i:Int)),by unfold Kg;rw[o9,aB rfl];simp,rfl⟩;have yz:∀x,lC (Kg M d t (A++B) (U++([(nm',(i:Int))]++J))) 32 x=lC M 32 x:=λx=>by
  have z:=BM M Og (A++B) x;have h2:=BM (oM M d (A++B)) ae (U++([(nm',(i:Int))]++J)) x;rw[Mn,lj,lj,lj,yw] at z;rw[aa,lj,lj,lj,yw] at h2;unfold Kg;omega
 have ai:∀x,kR M 0 x->¬kR M i x->kR (Kg M d t (A++B) (U++([(nm',(i:Int))]++J))) 0 x:=λx W=>by
  induction W with
  |here=>exact λ_=> .here
  | @step a b _ G ih=>
   intro hn;rcases e1 _ _ G with z|⟨-,z⟩
   ·exact(ih λhc=>hn (hc.step G)).step (e2 _ _ z)
   ·rw[z] at hn;exact absurd kR.here hn
 have ag:kR (Kg M d t (A++B) (U++([(nm',(i:Int))]++J))) 0 i:=(ai t (h.reach t (by omega)) hb).step e3;refine⟨λx W=> ?_,λx=> ?_,?_,λx e G=> ?_,λx=> ?_,λx W=> ?_,λx W=> ?_⟩
 ·unfold Kg oM
  rw[dJ _ _ (by omega),dJ _ _ (by omega)];exact h.out x W
 ·obtain⟨k1,k2,k3⟩:=kk x
  by_cases ex:x=d\/x=t
  ·right;right
   rw[k1,k3];have :(M x).K=2:=by rcases ex with rfl|rfl<;>assumption
   refine⟨this,?_⟩;rcases h.kind x with z|z|z
   ·rw[z] at this;simp[vU] at this
   ·omega
   ·exact z.2
  ·have :Kg M d t (A++B) (U++([(nm',(i:Int))]++J)) x=M x:=by
    unfold Kg oM;rw[dJ _ _ (λe=>ex (.inr e)),dJ _ _ (λe=>ex (.inl e))]
   rw[this];exact h.kind x
 ·rw[(kk 0).1];exact h.root
 ·rw[(kk _).1]
  have :e∈(M x).E\/e=(nm',(i:Int)):=by
   unfold Kg at G;have V:∀y,∀e∈(oM M d (A++B) y).E,e∈(M y).E:=λy e G=>by
    rw[o9] at G;split at G
    ·next e4=>rw[e4,Mn];rcases aT.1 G with z|z<;>simp[z]
    ·exact G
   rw[o9] at G;split at G
   ·next e4=>
    simp only[aT,au] at G;rcases G with z|z|z
    ·exact .inl (V x e (by rw[e4,aa];simp[z]))
    ·exact .inr z
    ·exact .inl (V x e (by rw[e4,aa];simp[z]))
   ·exact .inl (V x e G)
  rcases this with z|rfl
  ·exact h.lead x e z
  ·refine⟨by show(0:Int)<=(i:Int)/\(i:Int)<32;omega,?_⟩
   show(M (i:Int).toNat).K≠0;rw[aG];exact aj
 ·have hr:∀y,yq (oM M d (A++B) y).E:=λy=>by
   rw[o9];split
   ·have :=hs.rises (h.rises d) [] (.inl rfl)
    simpa using this
   ·exact h.rises y
  unfold Kg;rw[o9];split
  ·exact ac.rises (hr t) _ (.inr ⟨_,rfl⟩)
  ·exact hr x
 ·rw[(kk x).1,(kk x).2.1,yz]
  exact h.links x W
 ·rw[(kk x).1] at W
  have ah:=h.reach x W;clear W;induction ah with
  |here=>exact .here
  | @step a b ha G ih=>
   rcases e1 _ _ G with z|⟨-,z⟩
   ·exact ih.step (e2 _ _ z)
   ·rw[z];exact ag
theorem dw.data{M:Nat->Nd}(h:dw M){i:Nat}(V:(M i).K=1)(D:List Int):dw (nu M i { M i with D:=D }):=by
 have z:∀x,(nu M i { M i with D:=D } x).K=(M x).K/\(nu M i { M i with D:=D } x).L=(M x).L/\(nu M i { M i with D:=D } x).E=(M x).E:=λx=>by
  unfold nu;split
  ·next e=>rw[e];exact⟨rfl,rfl,rfl⟩
  ·exact⟨rfl,rfl,rfl⟩
 have yz:∀x,lC (nu M i { M i with D:=D }) 32 x=lC M 32 x:=λx=>Hg (λa _=>(z a).2.2) x
 have W:∀a b,Edge M a b->Edge (nu M i { M i with D:=D }) a b:=λa b ⟨e,hm,U⟩=>⟨e,by rw[(z a).2.2];exact hm,U⟩
 have jD:=h.rng (i:=i) (by omega);refine⟨λx G=>by rw[dJ _ _ (by omega)];exact h.out x G,λx=> ?_,by rw[(z 0).1];exact h.root,λx e U=> ?_,λx=>by rw[(z x).2.2];exact h.rises x,λx G=> ?_,λx G=> ?_⟩
 ·by_cases e:x=i
  ·subst e
   rw[nG];rcases h.kind x with J|J|J
   ·rw[J] at V;simp[vU] at V
   ·exact .inr (.inl ⟨J.1,J.2⟩)
   ·omega
  ·rw[dJ _ _ e];exact h.kind x
 ·rw[(z x).2.2] at U
  rw[(z _).1];exact h.lead x e U
 ·rw[(z x).1,(z x).2.1,yz]
  exact h.links x G
 ·rw[(z x).1] at G
  exact(h.reach x G).mono W
theorem lK (h:iO E A M B nm)(U:∀p∈E,0<=p.2):(bg E nm<0↔M=[])/\(0<=bg E nm->M=[(nm,bg E nm)]):=by
 have J:bg E nm=bg (M++B) nm:=by
  rw[h.eq,Dc A _ nm λp G=>tA (h.ahead p G)]
 rcases h.one with rfl|⟨i,rfl⟩
 ·have z:bg E nm= -1:=by
   rw[J,bQ];exact AH B nm λp G e=>tA (h.behind p G) e.symm
  rw[z];exact⟨⟨λ_=>rfl,λ_=>by omega⟩,λh=>by omega⟩
 ·have z:bg E nm=i:=by
   rw[J];show(if nm=nm then i else _)=i;rw[aB rfl]
  have V:0<=i:=U (nm,i) (by rw[h.eq];simp);rw[z];exact⟨⟨λh=>by omega,λh=>by simp at h⟩,λ_=>rfl⟩
def xA:List (ByteArray×Int)->ByteArray×Int->List (ByteArray×Int)
 | [],x=>[x]
 |p::E,x=>if Op.bytesLess x.1.toList p.1.toList=true then x::p::E else p::xA E x
theorem AL (h:iO E A [] B nm)(i:Int):xA E (nm,i)=A++([(nm,i)]++B):=by
 have G:∀(A B:List (ByteArray×Int)),(∀p∈A,J2 p.1 nm)->(∀p∈B,J2 nm p.1)->xA (A++B) (nm,i)=A++([(nm,i)]++B):=by
  intro A;induction A with
  |nil=>
   intro B _ z;cases B with
   |nil=>rfl
   |cons p B=>
    show(if Op.bytesLess nm.toList p.1.toList=true then _ else _)=_;rw[aB (show Op.bytesLess nm.toList p.1.toList=true from z p (by simp))];rfl
  |cons p A ih=>
   intro B J z;show(if Op.bytesLess nm.toList p.1.toList=true then _ else p::xA (A++B) (nm,i))=_;rw[aA ?_,ih B (λq W=>J q (by simp[W])) z]
   ·rfl
   ·intro U
    exact mH _ (vC (J p (by simp)) U)
 have V:E=A++B:=h.eq;rw[V];exact G A B h.ahead h.behind
def iY (E:List (ByteArray×Int)) (nm:ByteArray):List (ByteArray×Int):=E.filter λp=>decide (p.1≠nm)
theorem tF (h:iO E A M B nm):iY E nm=A++B:=by
 have G:iY A nm=A:=List.filter_eq_self.2 λp z=>by
  have :p.1≠nm:=tA (h.ahead p z);simpa using this
 have V:iY B nm=B:=List.filter_eq_self.2 λp z=>by
  have :p.1≠nm:=λe=>tA (h.behind p z) e.symm
  simpa using this
 have U:iY M nm=[]:=by
  rcases h.one with rfl|⟨i,rfl⟩
  ·rfl
  ·simp[iY]
 have J:iY E nm=iY A nm++(iY M nm++iY B nm):=by
  rw[h.eq];simp[iY]
 rw[J,G,V,U];rfl
structure jz where
 K:Int
 P:List ByteArray
 Q:List ByteArray
 O:Int
 N:Int
 D:List Int
structure mM where
 E:Int
 N:Int
 K:Int
 L:Int
 I:Int
 D:List Int
 S:List (ByteArray×Int)
def fy:mM:=⟨0,0,0,0,0,[],[]⟩
def cW (e:Int):mM:={ fy with E:=e }
def ml (l:List ByteArray):Bool:=l.all λs=>iu (bl s)
def iP (M:Nat->Nd):Nat->List ByteArray->Nat×Int
 |a,[]=>(a,0)
 |a,p::ps=>if (M a).K=2 then (if bg (M a).E p<0 then (0,2) else iP M (bg (M a).E p).toNat ps) else (0,4)
def cN (M:Nat->Nd) (p:List ByteArray):Nat×Int:=if ml p=true then iP M 0 p else (0,1)
def bq (M:Nat->Nd) (p:List ByteArray):Nat×Int:=
 if p=[]\/ml p=false then (0,1) else
  if (iP M 0 p.dropLast).2=0/\(M (iP M 0 p.dropLast).1).K≠2 then (0,4) else iP M 0 p.dropLast
def aS (p:List ByteArray):ByteArray:=p.getLastD ByteArray.empty
def vE (M:Nat->Nd):Option Nat:=(List.range 32).find? λi=>(M i).K==0
def yA (D:List Int) (n:Nat):List Int:=D.take n++List.replicate (n-D.length) 0
def xk (D:List Int) (o:Nat) (x:List Int):List Int:=(yA D (max D.length (o+x.length))).take o++(x++D.drop (o+x.length))
def Hh (M:Nat->Nd) (o:jz):(Nat->Nd)×mM:=
 if o.P=[] then (M,cW 3) else
 if (bq M o.P).2≠0 then (M,cW (bq M o.P).2) else
 if 0<=bg (M (bq M o.P).1).E (aS o.P) then (M,cW 3) else
 match vE M with
 |none=>(M,cW 7)
 |some i=>if (M (bq M o.P).1).E.length<24 then (Rf M (bq M o.P).1 i (1+o.K) (xA (M (bq M o.P).1).E (aS o.P,(i:Int))),{ fy with N:=(i:Int) }) else (M,cW 7)
def BN (M:Nat->Nd) (o:jz):(Nat->Nd)×mM:=
 if (cN M o.P).2≠0 then (M,cW (cN M o.P).2) else
 if (M (cN M o.P).1).K=2 then (M,cW 5) else
 if (o.K≠4/\o.O<0)\/(o.K≠2/\o.N<0) then (M,cW 1) else
 if o.K=3 then (M,{ fy with D:=((M (cN M o.P).1).D.drop o.O.toNat).take o.N.toNat }) else
 if o.K=4 then
  if 832<o.N then (M,cW 8) else (nu M (cN M o.P).1 { M (cN M o.P).1 with D:=yA (M (cN M o.P).1).D o.N.toNat },fy)
 else
  if 832<o.O\/(832:Int)-o.O<o.D.length then (M,cW 8) else
  if o.D=[] then (M,fy) else
   (nu M (cN M o.P).1 { M (cN M o.P).1 with D:=xk (M (cN M o.P).1).D o.O.toNat o.D },{ fy with N:=(o.D.length:Int) })
def Ck (M:Nat->Nd) (d:Nat) (nm:ByteArray):Nat->Nd:=EX M d (bg (M d).E nm).toNat (iY (M d).E nm)
def um (M:Nat->Nd) (o:jz):(Nat->Nd)×mM:=
 if o.P=[]/\o.K=5 then (M,cW 5) else
 if (bq M o.P).2≠0 then (M,cW (bq M o.P).2) else
 if bg (M (bq M o.P).1).E (aS o.P)<0 then (M,cW 2) else
 if o.K=5/\(M (bg (M (bq M o.P).1).E (aS o.P)).toNat).K=2 then (M,cW 5) else
 if o.K=6/\(M (bg (M (bq M o.P).1).E (aS o.P)).toNat).K≠2 then (M,cW 4) else
 if o.K=6/\(M (bg (M (bq M o.P).1).E (aS o.P)).toNat).E≠[] then (M,cW 6) else
 (Ck M (bq M o.P).1 (aS o.P),fy)
def uo (M:Nat->Nd) (i j:Nat):Int:=
 if (M i).K=1/\(M j).K=2 then 5 else if (M i).K=2/\(M j).K=1 then 4 else if (M j).K=2/\(M j).E≠[] then 6 else 0
def Oh (M:Nat->Nd) (d t i:Nat) (nm nm':ByteArray):Nat->Nd:=
 Kg M d t (iY (M d).E nm) (xA (oM M d (iY (M d).E nm) t).E (nm',(i:Int)))
open Classical in
noncomputable def uq (M:Nat->Nd) (o:jz):(Nat->Nd)×mM:=
 if o.P=[]\/o.Q=[] then (M,cW 1) else
 if (bq M o.P).2≠0 then (M,cW (bq M o.P).2) else
 if bg (M (bq M o.P).1).E (aS o.P)<0 then (M,cW 2) else
 if (bq M o.Q).2≠0 then (M,cW (bq M o.Q).2) else
 if bg (M (bq M o.Q).1).E (aS o.Q)=bg (M (bq M o.P).1).E (aS o.P) then (M,fy) else
 if kR M (bg (M (bq M o.P).1).E (aS o.P)).toNat (bq M o.Q).1 then (M,cW 11) else
 if 0<=bg (M (bq M o.Q).1).E (aS o.Q) then
  if uo M (bg (M (bq M o.P).1).E (aS o.P)).toNat (bg (M (bq M o.Q).1).E (aS o.Q)).toNat≠0 then
   (M,cW (uo M (bg (M (bq M o.P).1).E (aS o.P)).toNat (bg (M (bq M o.Q).1).E (aS o.Q)).toNat)) else
   (Oh (Ck M (bq M o.Q).1 (aS o.Q)) (bq M o.P).1 (bq M o.Q).1 (bg (M (bq M o.P).1).E (aS o.P)).toNat (aS o.P) (aS o.Q),fy)
 else
  if (bq M o.P).1≠(bq M o.Q).1/\24<=(M (bq M o.Q).1).E.length then (M,cW 7) else
   (Oh M (bq M o.P).1 (bq M o.Q).1 (bg (M (bq M o.P).1).E (aS o.P)).toNat (aS o.P) (aS o.Q),fy)
def Ep (M:Nat->Nd) (o:jz):(Nat->Nd)×mM:=
 if (cN M o.P).2≠0 then (M,cW (cN M o.P).2) else
 if (M (cN M o.P).1).K=2 then (M,cW 5) else
 if o.Q=[] then (M,cW 3) else
 if (bq M o.Q).2≠0 then (M,cW (bq M o.Q).2) else
 if 0<=bg (M (bq M o.Q).1).E (aS o.Q) then (M,cW 3) else
 if 24<=(M (bq M o.Q).1).E.length then (M,cW 7) else
 (Ta M (bq M o.Q).1 (cN M o.P).1 (xA (M (bq M o.Q).1).E (aS o.Q,((cN M o.P).1:Int))),fy)
def yB (M:Nat->Nd) (o:jz):mM:=
 if (cN M o.P).2≠0 then cW (cN M o.P).2 else
 if o.K=10 then { fy with N:=((M (cN M o.P).1).D.length+(M (cN M o.P).1).E.length:Nat),K:=(M (cN M o.P).1).K,L:=(M (cN M o.P).1).L,I:=((cN M o.P).1:Int) } else
 if (M (cN M o.P).1).K≠2 then cW 4 else { fy with S:=(M (cN M o.P).1).E }
noncomputable def ko (M:Nat->Nd) (o:jz):(Nat->Nd)×mM:=
 if o.K=0\/o.K=1 then Hh M o else
 if o.K=2\/o.K=3\/o.K=4 then BN M o else
 if o.K=5\/o.K=6 then um M o else
 if o.K=7 then uq M o else
 if o.K=8 then Ep M o else
 if o.K=9\/o.K=10 then (M,yB M o) else
 if o.K=11 then (M,if o.N=1\/o.N=2 then fy else cW 1) else
 if o.K=12 then (M,fy) else (M,cW 1)
theorem De {M:Nat->Nd}(h:dw M):∀(p:List ByteArray) (a:Nat),(M a).K≠0->(iP M a p).2=0->(M (iP M a p).1).K≠0/\kR M a (iP M a p).1
 | [],a,ha,_=>⟨ha,.here⟩
 |p::ps,a,ha,he=>by
  unfold iP at he ⊢;by_cases G:(M a).K=2
  ·rw[aB G] at he ⊢
   by_cases U:bg (M a).E p<0
   ·rw[aB U] at he;simp at he
   ·rw[aA U] at he ⊢
    obtain⟨A,X,B,J⟩:=lJ (h.rises a) p;have h1:=(lK J λq hq=>(h.lead a q hq).1.1).2 (by omega);have V:(p,bg (M a).E p)∈(M a).E:=by
     have z:=J.eq;rw[h1] at z;exact(cP (λl=>(p,bg (M a).E p)∈l) z).mpr (by simp)
    have z:=h.lead a _ V;have W:=De h ps (bg (M a).E p).toNat z.2 he;exact⟨W.1,(kR.step .here ⟨_,V,by show bg (M a).E p=_;omega⟩).trans W.2⟩
  ·rw[aA G] at he;simp at he
theorem nV{M:Nat->Nd}(h:dw M){p:List ByteArray}(z:(cN M p).2=0):(M (cN M p).1).K≠0/\ml p=true:=by
 unfold cN at z ⊢;split at z
 ·next e=>rw[aB e];exact⟨(De h p 0 (by rw[h.root];omega) z).1,e⟩
 ·simp at z
theorem pU{M:Nat->Nd}{p:List ByteArray}(z:(bq M p).2=0):(M (bq M p).1).K=2/\iu (bl (aS p))=true/\p≠[]/\ml p=true:=by
 unfold bq at z ⊢;split at z
 ·simp at z
 ·next e=>
  rw[aA e];have J:p≠[]:=λh=>e (.inl h)
  have G:ml p=true:=by
   cases h:ml p
   ·exact absurd (.inr h) e
   ·rfl
  have V:iu (bl (aS p))=true:=by
   unfold ml at G;rw[eQ] at G;apply G;unfold aS;cases p with
   |nil=>exact absurd rfl J
   |cons x xs=>rw[List.getLastD_cons,List.getLastD_eq_getLast?];exact(by
     cases hx:(xs.getLast?) with
     |none=>simp
     |some y=>simp;exact .inr (List.mem_of_getLast? hx))
  split at z
  ·simp at z
  ·next e2=>
   rw[aA e2];refine⟨?_,V,J,G⟩;by_cases U:(M (iP M 0 p.dropLast).1).K=2
   ·exact U
   ·exact absurd ⟨z,U⟩ e2
theorem Y6{M:Nat->Nd}(h:dw M){i:Nat}(z:vE M=some i):M i=vU/\i<32:=by
 unfold vE at z;have J:=List.find?_some z;have U:=List.mem_of_find?_eq_some z;rw[b7] at U;refine⟨?_,U⟩;rcases h.kind i with G|G|G
 ·exact G
 ·simp at J;omega
 ·simp at J;omega
structure ni (M:Nat->Nd):Prop where
 names:∀i,∀e∈(M i).E,iu (bl e.1)=true
 len:∀i,(M i).E.length<=24
 data:∀i,(M i).D.length<=832
 bytes:∀i,∀x∈(M i).D,0<=x/\x<256
theorem ni.up{M:Nat->Nd}(h:ni M)(i:Nat){n:Nd}(G:∀e∈n.E,iu (bl e.1)=true)(V:n.E.length<=24)(U:n.D.length<=832)(J:∀x∈n.D,0<=x/\x<256):ni (nu M i n):=by
 have z:∀(P:Nd->Prop),(∀j,P (M j))->P n->∀j,P (nu M i n j):=λP a b j=>by unfold nu;split;exact b;exact a j
 exact⟨z (λm=>∀e∈m.E,iu (bl e.1)=true) h.names G,z (λm=>m.E.length<=24) h.len V,z (λm=>m.D.length<=832) h.data U,z (λm=>∀x∈m.D,0<=x/\x<256) h.bytes J⟩
theorem ni.ed{M:Nat->Nd}(h:ni M)(d:Nat){E:List (ByteArray×Int)}(z:∀e∈E,iu (bl e.1)=true)(G:E.length<=24):ni (oM M d E):=h.up d z G (h.data d) (h.bytes d)
theorem yC (D:List Int)(n:Nat):(yA D n).length=n:=by unfold yA;simp;omega
theorem Kh (D:List Int)(o:Nat)(x:List Int):(xk D o x).length=max D.length (o+x.length):=by unfold xk;simp[yC];omega
theorem Oi{n:Nat}(h:y∈yA D n):y∈D\/y=0:=by
 unfold yA at h;rcases aT.1 h with z|z
 ·exact .inl (bO z)
 ·exact .inr (il z)
theorem VD{o:Nat}{x:List Int}(h:y∈xk D o x):y∈D\/y=0\/y∈x:=by
 unfold xk at h;simp only[aT] at h;rcases h with z|z|z
 ·rcases Oi (bO z) with G|G
  ·exact .inl G
  ·exact .inr (.inl G)
 ·exact .inr (.inr z)
 ·exact .inl (gA z)
theorem pV{e:ByteArray×Int}(h:e∈iY E nm):e∈E:=(List.mem_filter.1 h).1
theorem vF (E:List (ByteArray×Int))(nm:ByteArray):(iY E nm).length<=E.length:=fR _ _
theorem Hj {x e:ByteArray×Int}:∀{E:List (ByteArray×Int)},e∈xA E x->e=x\/e∈E
 | [],h=> .inl (by simpa[xA] using h)
 |p::E,h=>by
  unfold xA at h;split at h
  ·rcases aL.1 h with z|z
   ·exact .inl z
   ·exact .inr z
  ·rcases aL.1 h with z|z
   ·exact .inr (by rw[z];simp)
   ·rcases Hj z with G|G
    ·exact .inl G
    ·exact .inr (by simp[G])
theorem vG (x:ByteArray×Int):∀E:List (ByteArray×Int),(xA E x).length=E.length+1
 | []=>rfl
 |p::E=>by
  unfold xA;split
  ·rfl
  ·simp[vG x E]
theorem yD{M:Nat->Nd}(h:dw M)(d:Nat)(nm:ByteArray):bg (M d).E nm<0\/(0<=bg (M d).E nm/\∃A B,iO (M d).E A [(nm,bg (M d).E nm)] B nm/\iY (M d).E nm=A++B/\(iY (M d).E nm).length+1=(M d).E.length):=by
 obtain⟨A,X,B,z⟩:=lJ (h.rises d) nm;have J:=lK z λq V=>(h.lead d q V).1.1
 rcases Int.lt_or_le (bg (M d).E nm) 0 with G|G
 ·exact .inl G
 ·have U:=J.2 G
  subst U;refine .inr ⟨G,A,B,z,tF z,?_⟩;rw[tF z];have :=cP List.length z.eq;simp at this ⊢;omega
theorem BO{M:Nat->Nd}(h:dw M){d:Nat}{nm:ByteArray}(J:bg (M d).E nm<0):∃A B,iO (M d).E A [] B nm/\∀i,xA (M d).E (nm,i)=A++([(nm,i)]++B):=by
 obtain⟨A,X,B,z⟩:=lJ (h.rises d) nm;have G:=(lK z λq U=>(h.lead d q U).1.1).1.1 J;subst G;exact⟨A,B,z,λi=>AL z i⟩
theorem iZ{M:Nat->Nd}(h:dw M){d:Nat}{nm:ByteArray}(V:0<=bg (M d).E nm):Edge M d (bg (M d).E nm).toNat/\(M (bg (M d).E nm).toNat).K≠0/\(((bg (M d).E nm).toNat:Nat):Int)=bg (M d).E nm/\bg (M d).E nm<32:=by
 rcases yD h d nm with J|⟨J,A,B,G,-⟩
 ·omega
 ·have z:Edge M d (bg (M d).E nm).toNat:=⟨(nm,bg (M d).E nm),by
   exact(cP (λl=>(nm,bg (M d).E nm)∈l) G.eq).mpr (by simp),by show bg (M d).E nm=_;omega⟩
  have U:=h.dir z;exact⟨z,U.2.2.1,by omega,by omega⟩
theorem Oj (nm:ByteArray):bg (iY E nm) nm<0:=by
 rw[AH]
 ·omega
 ·intro p h
  have :=(List.mem_filter.1 h).2;simpa using this
theorem ni.del{M:Nat->Nd}(h:ni M)(d:Nat)(nm:ByteArray):ni (oM M d (iY (M d).E nm)):=h.ed d (λe z=>h.names d e (pV z)) (cG (vF _ _) (h.len d))
theorem ni.ins{M:Nat->Nd}(h:ni M)(d:Nat){nm:ByteArray}(z:iu (bl nm)=true)(i:Int)(U:(M d).E.length<24):ni (oM M d (xA (M d).E (nm,i))):=h.ed d (λe J=>by
 rcases Hj J with rfl|G
 ·exact z
 ·exact h.names d e G) (by rw[vG];omega)
theorem Tb{M:Nat->Nd}(h:dw M)(hF:ni M){d:Nat}{nm:ByteArray}(hf:0<=bg (M d).E nm)(hE:(M (bg (M d).E nm).toNat).E=[]):dw (Ck M d nm)/\ni (Ck M d nm):=by
 rcases yD h d nm with U|⟨U,A,B,J,V,hl⟩
 ·omega
 ·obtain⟨z,hk,W,-⟩:=iZ h hf
  constructor
  ·have :=h.removed (j:=(bg (M d).E nm).toNat) (nm:=nm) (A:=A) (B:=B) hE (by rw[W];exact J)
   unfold Ck;rw[V];exact this
  ·have G:ni (nu M (bg (M d).E nm).toNat (if (M (bg (M d).E nm).toNat).L=1 then vU else { M (bg (M d).E nm).toNat with L:=(M (bg (M d).E nm).toNat).L-1 })):=by
    refine hF.up _ ?_ ?_ ?_ ?_
    ·split
     ·intro e z;simp[vU] at z
     ·exact hF.names _
    ·split
     ·simp[vU]
     ·exact hF.len _
    ·split
     ·simp[vU]
     ·exact hF.data _
    ·split
     ·intro e z;simp[vU] at z
     ·exact hF.bytes _
   exact G.ed d (λe z=>hF.names d e (pV z)) (cG (vF _ _) (hF.len d))
theorem Tc{M:Nat->Nd}(h:dw M)(hF:ni M){d t i:Nat}{nm nm':ByteArray}(hf:bg (M d).E nm=(i:Int))(ht:(M t).K=2)(hn:bg (M t).E nm'<0\/(d=t/\nm=nm'))(hb:¬kR M i t)(hg:iu (bl nm')=true)(hl:d=t\/(M t).E.length<24):
  dw (Oh M d t i nm nm')/\ni (Oh M d t i nm nm'):=by
 rcases yD h d nm with h1|⟨h1,A,B,hs,hd,ac⟩
 ·omega
 ·rw[hf] at hs
  have hr:yq (oM M d (iY (M d).E nm) t).E:=by
   rw[o9];split
   ·rw[hd];simpa using hs.rises (h.rises d) [] (.inl rfl)
   ·exact h.rises t
  have W:∀p∈(oM M d (iY (M d).E nm) t).E,0<=p.2:=λp U=>by
   rw[o9] at U;split at U
   ·exact(h.lead d p (pV U)).1.1
   ·exact(h.lead t p U).1.1
  have aa:bg (oM M d (iY (M d).E nm) t).E nm'<0:=by
   rw[o9];split
   ·next e=>
    by_cases en:nm=nm'
    ·rw[<-en];exact Oj nm
    ·rcases hn with J|J
     ·rw[AH]
      ·omega
      ·intro p U
       rw[e] at J;intro e2;obtain⟨A2,X2,B2,G⟩:=lJ (h.rises d) nm';have V:=(lK G λq hq=>(h.lead d q hq).1.1).1.1 J;subst V;have h5:p∈A2++B2:=by have :=G.eq;rw[bQ] at this;rw[<-this];exact pV U
       rcases aT.1 h5 with h6|h6
       ·exact tA (G.ahead p h6) e2
       ·exact tA (G.behind p h6) e2.symm
     ·exact absurd J.2 en
   ·next e=>
    rcases hn with J|J
    ·exact J
    ·exact absurd J.1.symm e
  obtain⟨A',X,B',z⟩:=lJ hr nm';have h3:=(lK z W).1.1 aa;subst h3;have hi:=AL z (i:Int);constructor
  ·unfold Oh
   rw[hi,hd];rw[hd] at z;exact h.moved hs ht z hb
  ·unfold Oh Kg
   refine(hF.del d nm).ins t hg _ ?_;rw[o9];split
   ·next e=>rw[<-e] at ac ⊢;have :=hF.len d;rw[<-e] at this;omega
   ·next e=>
    rcases hl with V|V
    ·exact absurd V.symm e
    ·exact V
def aeD (o:jz):Prop:=∀x∈o.D,0<=x/\x<256
theorem VE{M:Nat->Nd}(h:dw M)(hF:ni M){o:jz}(hK:o.K=0\/o.K=1):dw (Hh M o).1/\ni (Hh M o).1:=by
 unfold Hh;split
 ·exact⟨h,hF⟩
 ·split
  ·exact⟨h,hF⟩
  ·next hp=>
   have z:=pU (M:=M) (p:=o.P) (Decidable.not_not.1 hp);split
   ·exact⟨h,hF⟩
   ·next hn=>
    cases hi:vE M with
    |none=>exact⟨h,hF⟩
    |some i=>
     dsimp only
     split
     ·next hl=>
      obtain⟨V,W⟩:=Y6 h hi;obtain⟨A,B,hs,G⟩:=BO h (d:=(bq M o.P).1) (nm:=aS o.P) (by omega);refine⟨?_,?_⟩
      ·dsimp only
       rw[G];exact h.made z.1 V W (by omega) hs
      ·have J:(bq M o.P).1≠i:=λe=>by
        have :=z.1;rw[e,V] at this;simp[vU] at this
       have h1:ni (nu M i ⟨1+o.K,1,[],[]⟩):=hF.up i (λe G=>by simp at G) (by simp) (by simp) (λe G=>by simp at G);have U:=h1.ins (bq M o.P).1 (nm:=aS o.P) z.2.1 (i:Int) (by rw[dJ _ _ J];exact hl);rw[dJ _ _ J] at U;exact U
     ·exact⟨h,hF⟩
theorem VF{M:Nat->Nd}(h:dw M)(hF:ni M){o:jz}(W:aeD o):dw (BN M o).1/\ni (BN M o).1:=by
 unfold BN;split
 ·exact⟨h,hF⟩
 ·next hw=>
  have U:=nV h (p:=o.P) (Decidable.not_not.1 hw);split
  ·exact⟨h,hF⟩
  ·next hk=>
   have J:(M (cN M o.P).1).K=1:=by
    rcases h.kind (cN M o.P).1 with G|G|G
    ·exact absurd (by rw[G];rfl) U.1
    ·exact G.1
    ·exact absurd G.1 hk
   split
   ·exact⟨h,hF⟩
   ·next hneg=>
    split
    ·exact⟨h,hF⟩
    ·next h3=>
     split
     ·next h4=>
      split
      ·exact⟨h,hF⟩
      ·next hN=>
       refine⟨h.data J _,hF.up _ (hF.names _) (hF.len _) ?_ ?_⟩
       ·show(yA _ _).length<=832
        rw[yC];omega
       ·intro x V
        rcases Oi V with z|z
        ·exact hF.bytes _ x z
        ·omega
     ·split
      ·exact⟨h,hF⟩
      ·next hl=>
       split
       ·exact⟨h,hF⟩
       ·refine⟨h.data J _,hF.up _ (hF.names _) (hF.len _) ?_ ?_⟩
        ·show(xk _ _ _).length<=832
         rw[Kh];have :=hF.data (cN M o.P).1;omega
        ·intro x V
         rcases VD V with z|z|z
         ·exact hF.bytes _ x z
         ·omega
         ·exact W x z
theorem Ol{M:Nat->Nd}(h:dw M)(hF:ni M){o:jz}(J:o.K=5\/o.K=6):dw (um M o).1/\ni (um M o).1:=by
 unfold um;split
 ·exact⟨h,hF⟩
 ·split
  ·exact⟨h,hF⟩
  ·split
   ·exact⟨h,hF⟩
   ·next hf=>
    split
    ·exact⟨h,hF⟩
    ·next h5=>
     split
     ·exact⟨h,hF⟩
     ·next h6=>
      split
      ·exact⟨h,hF⟩
      ·next h7=>
       refine Tb h hF (by omega) ?_;obtain⟨-,U,-⟩:=iZ h (d:=(bq M o.P).1) (nm:=aS o.P) (by omega);rcases h.kind (bg (M (bq M o.P).1).E (aS o.P)).toNat with z|z|z
       ·rw[z];rfl
       ·exact z.2
       ·by_cases e:(M (bg (M (bq M o.P).1).E (aS o.P)).toNat).E=[]
        ·exact e
        ·rcases J with G|G
         ·exact absurd ⟨G,z.1⟩ h5
         ·exact absurd ⟨G,e⟩ h7
theorem VG{M:Nat->Nd}(h:dw M)(hF:ni M)(o:jz):dw (Ep M o).1/\ni (Ep M o).1:=by
 unfold Ep;split
 ·exact⟨h,hF⟩
 ·next hw=>
  have V:=nV h (p:=o.P) (Decidable.not_not.1 hw);split
  ·exact⟨h,hF⟩
  ·next hk=>
   have U:(M (cN M o.P).1).K=1:=by
    rcases h.kind (cN M o.P).1 with z|z|z
    ·exact absurd (by rw[z];rfl) V.1
    ·exact z.1
    ·exact absurd z.1 hk
   split
   ·exact⟨h,hF⟩
   ·split
    ·exact⟨h,hF⟩
    ·next hp=>
     have G:=pU (M:=M) (p:=o.Q) (Decidable.not_not.1 hp);split
     ·exact⟨h,hF⟩
     ·next hn=>
      split
      ·exact⟨h,hF⟩
      ·next hl=>
       obtain⟨A,B,hs,he⟩:=BO h (d:=(bq M o.Q).1) (nm:=aS o.Q) (by omega);refine⟨?_,?_⟩
       ·dsimp only
        rw[he];exact h.linked G.1 U hs
       ·have J:(bq M o.Q).1≠(cN M o.P).1:=λe=>by
         have :=G.1;rw[e] at this;omega
        have z:ni (nu M (cN M o.P).1 { M (cN M o.P).1 with L:=(M (cN M o.P).1).L+1 }):=hF.up _ (hF.names _) (hF.len _) (hF.data _) (hF.bytes _);have W:=z.ins (bq M o.Q).1 (nm:=aS o.Q) G.2.1 ((cN M o.P).1:Int) (by rw[dJ _ _ J];omega);rw[dJ _ _ J] at W;exact W
theorem kR.sub{M M':Nat->Nd}(h:∀a b,Edge M' a b->Edge M a b){d x:Nat}(k:kR M' d x):kR M d x:=kR.mono h k
theorem Y7{M:Nat->Nd}{d:Nat}(J:(M (bg (M d).E nm).toNat).E=[]):
  (∀x,(Ck M d nm x).E=if x=d then iY (M d).E nm else (M x).E)/\(∀x,x≠(bg (M d).E nm).toNat->(Ck M d nm x).K=(M x).K)/\(∀a b,Edge (Ck M d nm) a b->Edge M a b):=by
 have G:∀x,(Ck M d nm x).E=if x=d then iY (M d).E nm else (M x).E:=λx=>by
  unfold Ck EX;rw[o9];by_cases e:x=d
  ·rw[aB e,aB e]
  ·rw[aA e,aA e]
   unfold nu;by_cases h:x=(bg (M d).E nm).toNat
   ·rw[aB h,h,J]
    split
    ·rfl
    ·exact J
   ·rw[aA h]
 refine⟨G,λx V=> ?_,λa b ⟨e,z,U⟩=>⟨e,?_,U⟩⟩
 ·unfold Ck EX
  rw[(yx _ _ _ x).1,dJ _ _ V]
 ·rw[G] at z
  split at z
  ·next h=>rw[h];exact pV z
  ·exact z
theorem Om{M:Nat->Nd}(h:dw M)(hF:ni M)(o:jz):dw (uq M o).1/\ni (uq M o).1:=by
 unfold uq;split
 ·exact⟨h,hF⟩
 ·split
  ·exact⟨h,hF⟩
  ·split
   ·exact⟨h,hF⟩
   ·next hf=>
    split
    ·exact⟨h,hF⟩
    ·next hq=>
     have U:=pU (M:=M) (p:=o.Q) (Decidable.not_not.1 hq);split
     ·exact⟨h,hF⟩
     ·next hne=>
      split
      ·exact⟨h,hF⟩
      ·next hc=>
       obtain⟨ai,xD,PB,jD⟩:=iZ h (d:=(bq M o.P).1) (nm:=aS o.P) (by omega);generalize (bq M o.P).1=d,(bq M o.Q).1=t,aS o.P=nm,aS o.Q=nm' at *;split
       ·next Oo=>
        obtain⟨ah,av,ak,aj⟩:=iZ h (d:=t) (nm:=nm') Oo;split
        ·exact⟨h,hF⟩
        ·next hov=>
         have hE:(M (bg (M t).E nm').toNat).E=[]:=by
          have V:uo M (bg (M d).E nm).toNat (bg (M t).E nm').toNat=0:=Decidable.not_not.1 hov;unfold uo at V;rcases h.kind (bg (M t).E nm').toNat with G|G|G
          ·rw[G];rfl
          ·exact G.2
          ·split at V
           ·omega
           ·split at V
            ·omega
            ·split at V
             ·omega
             ·next h2=>
              by_cases e:(M (bg (M t).E nm').toNat).E=[]
              ·exact e
              ·exact absurd ⟨G.1,e⟩ h2
         obtain⟨aa,ag⟩:=Tb h hF Oo hE;obtain⟨kE,kK,kB⟩:=Y7 hE;have ar:(bg (M d).E nm).toNat≠(bg (M t).E nm').toNat:=λe=>hne (by omega)
         have af:t≠(bg (M t).E nm').toNat:=h.notSelf ah;refine Tc aa ag ?_ ?_ ?_ ?_ U.2.1 ?_
         ·rw[kE]
          split
          ·next e=>
           subst e
           -- another name of the same directory
           have ac:nm≠nm':=λe=>by subst e;exact hne rfl
           rw[PB];obtain⟨A,X,B,hs⟩:=lJ (h.rises d) nm;have G:=(lK hs λq hq=>(h.lead d q hq).1.1).2 (by omega);have J:(nm,bg (M d).E nm)∈iY (M d).E nm':=by
            refine List.mem_filter.2 ⟨?_,by simpa using ac⟩;have h2:=hs.eq;rw[G] at h2;exact(cP (λl=>(nm,bg (M d).E nm)∈l) h2).mpr (by simp)
           obtain⟨A2,X2,B2,z⟩:=lJ (aa.rises d) nm;have Mn:(Ck M d nm' d).E=iY (M d).E nm':=by rw[kE,aB rfl]
           rw[Mn] at z;have h3:=lK z λq hq=>(h.lead d q (pV hq)).1.1
           have h4:X2≠[]:=λe=>by
            subst e;have h5:=z.eq;rw[bQ] at h5;rw[h5] at J;rcases aT.1 J with W|W
            ·exact mH _ (z.ahead _ W)
            ·exact mH _ (z.behind _ W)
           have h5:0<=bg (iY (M d).E nm') nm:=by
            rcases Int.lt_or_le (bg (iY (M d).E nm') nm) 0 with W|W
            ·exact absurd (h3.1.1 W) h4
            ·exact W
           have W:=h3.2 h5
           -- both stand in the same rising list
           have h7:=z.eq;rw[W] at h7;have h8:(nm,bg (M d).E nm)∈A2++([(nm,bg (iY (M d).E nm') nm)]++B2):=h7▸J;simp only[aT,au] at h8;rcases h8 with h9|h9|h9
           ·exact absurd (z.ahead _ h9) (mH _)
           ·exact(cP Prod.snd h9).symm
           ·exact absurd (z.behind _ h9) (mH _)
          ·exact PB.symm
         ·rw[kK t af];exact U.1
         ·left
          rw[kE,aB rfl];exact Oj nm'
         ·exact λae=>hc (ae.sub kB)
         ·rw[kE,aB rfl]
          rcases yD h t nm' with G|⟨-,A,B,-,-,hl⟩
          ·omega
          ·have :=hF.len t
           right;omega
       ·next Oo=>
        split
        ·exact⟨h,hF⟩
        ·next hl=>
         refine Tc h hF PB.symm U.1 (.inl (by omega)) hc U.2.1 ?_;by_cases e:d=t
         ·exact .inl e
         ·right
          rcases dE (M t).E.length 24 with G|G
          ·exact G
          ·exact absurd ⟨e,G⟩ hl
theorem ab7{M:Nat->Nd}(h:dw M)(hF:ni M){o:jz}(z:aeD o):dw (ko M o).1/\ni (ko M o).1:=by
 unfold ko;split
 ·next h0=>exact VE h hF h0
 ·split
  ·exact VF h hF z
  ·split
   ·next h0=>exact Ol h hF h0
   ·split
    ·exact Om h hF o
    ·split
     ·exact VG h hF o
     ·split
      ·exact⟨h,hF⟩
      ·split
       ·exact⟨h,hF⟩
       ·split
        ·exact⟨h,hF⟩
        ·exact⟨h,hF⟩
end
section
variable{a b c i j k:Nat}{A B E M:List (ByteArray×Int)}{nm:ByteArray}{D X:List Int}{y:Int}{p:Int×Int}{n:bT}{own:Nat->List Nat}{W z:List Nat}{T V:List (bT×Value)}
end
section
variable{a b c i j k:Nat}{A B E M:List (ByteArray×Int)}{nm:ByteArray}{D X:List Int}{y:Int}{p:Int×Int}{n:bT}{own:Nat->List Nat}{W z:List Nat}{T V:List (bT×Value)}
theorem Ki{u:Bool}(h:p∈eI X b u):816<=p.1.toNat/\p.1.toNat<820:=by
 unfold eI at h;split at h
 ·simp at h
 ·rw[au] at h
  subst h;show 816<=((816+b/64:Nat):Int).toNat/\_;rw[aG];show 816<=816+b/64/\((816+b/64:Nat):Int).toNat<820;rw[aG];omega
theorem tG (l:List Nat):∀(X:List Int) (p:Int×Int),p∈cm X l->816<=p.1.toNat/\p.1.toNat<820:=by
 induction l with
 |nil=>intro X p h;simp[cm] at h
 |cons b l ih=>
  intro X p h;unfold cm at h;rcases aT.1 h with h|h
  ·exact Ki h
  ·exact ih _ p h
theorem Oq (h:p∈gW b):1080<=p.1.toNat/\(p.1.toNat-1080)/8=b:=by
 unfold gW nj at h;obtain⟨j,z,rfl⟩:=bH.1 h;rw[b7] at z;show 1080<=((1080+b*8+j:Nat):Int).toNat/\(((1080+b*8+j:Nat):Int).toNat-1080)/8=b;rw[aG];omega
theorem qD (l:List Nat):∀(X:List Int) (p:Int×Int),p∈dm X l->(816<=p.1.toNat/\p.1.toNat<820)\/(1080<=p.1.toNat/\(p.1.toNat-1080)/8∈l):=by
 induction l with
 |nil=>intro X p h;simp[dm] at h
 |cons b l ih=>
  intro X p h;unfold dm at h;rcases aT.1 h with h|h
  ·rcases aT.1 h with h|h
   ·exact .inl (Ki h)
   ·have :=Oq h
    exact .inr ⟨this.1,by rw[this.2];simp⟩
  ·rcases ih _ p h with z|z
   ·exact .inl z
   ·exact .inr ⟨z.1,by simp[z.2]⟩
theorem Y8{own:List Nat}(_:i<32)(W:ct n)(ho:own.length=dx n){p:Int×Int}(h:p∈I1 X i n own):
  (816<=p.1.toNat/\p.1.toNat<820)\/(824+8*i<=p.1.toNat/\p.1.toNat<824+8*i+8)\/(1080<=p.1.toNat/\(p.1.toNat-1080)/8∈own):=by
 unfold I1 at h;split at h
 ·unfold nb at h
  rcases aT.1 h with h|h
  ·rcases qD _ _ p h with z|z
   ·exact .inl z
   ·exact .inr (.inr z)
  ·rcases aT.1 h with h|h
   ·obtain⟨m,j,G,V,z,-⟩:=vt h
    refine .inr (.inr ⟨by omega,?_⟩);have e:(p.1.toNat-1080)/8=own.getD m 0:=by omega
    rw[e,aj,aD G];exact bF G
   ·obtain⟨j,V,z,-⟩:=mh h
    exact .inr (.inl ⟨by omega,by omega⟩)
 ·rename_i hF
  have uZ:dx n=eY n:=aA hF;have U:=jM W;have J:=wF n;unfold pN at h;rcases aT.1 h with h|h
  ·rcases qD _ _ p h with z|z
   ·exact .inl z
   ·exact .inr (.inr z)
  ·rcases sZ (by omega) h with z|z
   ·exact .inr (.inr ⟨z.1,z.2.1⟩)
   ·exact .inr (.inl (by have :=z.1;have :=z.2.1;omega))
theorem zb{own:List Nat}(J:i<32)(V:ct n)(U:z=(aZ (az X (cm X own))).take (dx n))(G:dx n<=(aZ (az X (cm X own))).length){p:Int×Int}(h:p∈mj X i n own):
  (816<=p.1.toNat/\p.1.toNat<820)\/(824+8*i<=p.1.toNat/\p.1.toNat<824+8*i+8)\/(1080<=p.1.toNat/\(p.1.toNat-1080)/8∈z):=by
 unfold mj at h;rcases aT.1 h with h|h
 ·exact .inl (tG _ _ p h)
 ·subst U
  exact Y8 J V (uj G) h
theorem Df (l:List Nat):∀X:List Int,In64 X->X.length=3128->dG (az X (cm X l)) 0=dG X 0:=by
 induction l with
 |nil=>intro X _ _;rfl
 |cons b l ih=>
  intro X h G;have z:=iB [b] X h G;unfold cm at z ⊢;have J:cm (az X (eI X b false)) []=[]:=rfl;rw[J,br] at z;rw[bz,ih _ z.1 (by rw[cj,G])];by_cases U:b=0\/256<=b
  ·unfold eI;rw[aB U];rfl
  ·rw[CA h G b (by omega) (by omega),aA]
theorem Y9 (z:In64 X)(W:X.length=3128){i:Nat}{n:bT}{own:List Nat}(hi:i<32)(hR:ct n)(hn:dx n<=(aZ (az X (cm X own))).length):dG (az X (mj X i n own)) 0=dG X 0:=by
 obtain⟨g1,-,-⟩:=iB own X z W;have J:=Df own X z W;have hl:=cj (cm X own) X;rw[<-J];unfold mj;rw[bz];generalize az X (cm X own)=Y at *;have V:∀c∈(aZ Y).take (dx n),c≠0/\c<256:=qy;have G:∀qs:List (Int×Int),(∀p∈qs,820<=p.1.toNat)->dG (az Y (dm Y ((aZ Y).take (dx n))++qs)) 0=dG Y 0:=λqs hq=>by
  rw[(G3 g1 (by omega) V hq).1 0 (by omega),aQ (λh=>(V 0 h).1 rfl),Bool.or_false]
 unfold I1;split
 ·unfold nb
  refine G _ λp U=> ?_
  rcases aT.1 U with h|h
  ·obtain⟨m,j,-,-,J,-⟩:=vt h
   omega
  ·obtain⟨j,-,J,-⟩:=mh h
   omega
 ·rename_i hF
  have uZ:dx n=eY n:=aA hF;have ac:=jM hR;have aa:=wF n;have ae:=uj hn;unfold pN;refine G _ λp U=> ?_
  rcases sZ (by omega) U with ⟨h,-⟩|⟨h,-⟩<;>omega
def I7 (own:Nat->List Nat) (i:Nat) (o:List Nat):Nat->List Nat:=λj=>if j=i then o else own j
def nH (T:List (bT×Value)) (own:Nat->List Nat) (k:Nat):List Nat:=own k++dn (nT T k)
def nW (T:List (bT×Value)) (i:Nat) (n:bT):List (bT×Value):=T.set i (n,.slice none 0 0)
theorem pW (z:T.length=32){i:Nat}(h:i<32)(n:bT)(j:Nat):nT (nW T i n) j=if i=j then n else nT T j:=aex (by omega) n _ j
theorem Hk (z:T.length=32)(own:Nat->List Nat){i:Nat}(G:i<32)(n:bT)(o:List Nat)(b:Nat):∀k,
  (k<=i->km (nW T i n) (I7 own i o) k b=km T own k b)/\(i<k->km (nW T i n) (I7 own i o) k b+(nH T own i).count b=km T own k b+(o++dn n).count b):=by
 intro k;induction k with
 |zero=>exact⟨λ_=>rfl,λh=>by omega⟩
 |succ k ih=>
  have e:∀(J:List (bT×Value)) (U:Nat->List Nat),km J U (k+1) b=km J U k b+(U k++dn (nT J k)).count b:=λ_ _=>rfl
  refine⟨λh=> ?_,λh=> ?_⟩
  ·rw[e,e,ih.1 (by omega),pW z G,aA,I7,aA]
  ·rw[e,e]
   by_cases V:k=i
   ·subst V
    rw[ih.1 (by omega),pW z G,aB rfl,I7,aB rfl];unfold nH;omega
   ·have W:=ih.2 (by omega)
    rw[pW z G,aA,I7,aA V];omega
theorem Hl:∀m,k<m->(nH T own k).count b<=km T own m b:=by
 intro m;induction m with
 |zero=>intro h;omega
 |succ m ih=>
  intro h;show _<=km T own m b+(nH T own m).count b;by_cases e:k=m
  ·subst e;omega
  ·have :=ih (by omega);omega
theorem Td (z:j<k):∀m,k<m->(nH T own j).count b+(nH T own k).count b<=km T own m b:=by
 intro m;induction m with
 |zero=>intro h;omega
 |succ m ih=>
  intro h;show _<=km T own m b+(nH T own m).count b;by_cases e:k=m
  ·subst e
   have :=Hl (T:=T) (own:=own) (b:=b) k z;omega
  ·have :=ih (by omega);omega
structure rB (X:List Int) (T V:List (bT×Value)) (own:Nat->List Nat) (ex:List Nat):Prop where
 len:X.length=3128
 w64:In64 X
 sup:lu X
 gots:rI X T own
 all:wN X T
 once:∀b,b<256->xz V own b+ex.count b<=1/\(dG X b=true↔xz V own b+ex.count b=1)
 exr:∀c∈ex,c≠0/\c<256
 tails:yt X V
 vlen:V.length=32
 vir:∀j,nT V j=nT T j\/nT V j=ck
abbrev StX (X:List Int) (T:List (bT×Value)) (own:Nat->List Nat) (h:List Nat):Prop:=rB X T T own h
theorem rB.each(h:rB X T V own W){i:Nat}(U:i<32):((nT T i).F≠0/\eH X (i:Int) (nT T i) (own i))\/(dS X (i:Int)/\nT T i=ck/\own i=[]):=by
 rcases h.gots.form i with ⟨z,-,J⟩|⟨z,J,h3⟩
 ·exact .inl ⟨z,J⟩
 ·right
  refine⟨?_,J,(h3 U).1⟩;rcases h.all i U with G|G
  ·exact G
  ·exact absurd z G
theorem VH (h:nT T k=ck)(z:own k=[]):nH T own k=[]:=by
 unfold nH;rw[h,z]
 decide
theorem uu:dn ck=[]:=by decide
theorem rB.rng(h:rB X T V own W){k c:Nat}(hk:k<32)(U:c∈nH V own k):c≠0/\c<256:=by
 rcases h.each hk with ⟨-,J⟩|⟨-,J,h2⟩
 ·rcases aT.1 U with G|G
  ·exact J.mem c G
  ·rcases h.vir k with z|z
   ·rw[z] at G;exact qC J.len J.right c G
   ·rw[z,uu] at G;simp at G
 ·rw[VH (by rcases h.vir k with z|z<;>rw[z];exact J) h2] at U;simp at U
theorem rB.used{U:List Nat}(h:rB X T V own U){k c:Nat}(z:k<32)(G:c∈nH V own k):dG X c=true:=by
 have W:=h.rng z G;have J:=h.once c W.2;have h3:=Hl (T:=V) (own:=own) (b:=c) 32 z;have h4:0<(nH V own k).count c:=List.count_pos_iff.2 G;unfold xz at J;exact J.2.2 (by omega)
theorem rB.usedEx(h:rB X T V own z){c:Nat}(G:c∈z):dG X c=true:=by
 have J:=h.once c (h.exr c G).2;have U:0<z.count c:=List.count_pos_iff.2 G;exact J.2.2 (by omega)
theorem rB.apart(h:rB X T V own W){j k c:Nat}(U:j<32)(hk:k<32)(G:j≠k)(J:c∈nH V own j):c∉nH V own k:=λz=>by
 have h1:=h.rng U J;have h2:=(h.once c h1.2).1;have h4:0<(nH V own j).count c:=List.count_pos_iff.2 J;have h5:0<(nH V own k).count c:=List.count_pos_iff.2 z;unfold xz at h2;rcases Nat.lt_or_gt_of_ne G with e|e
 ·have :=Td (T:=V) (own:=own) (b:=c) e 32 hk;omega
 ·have :=Td (T:=V) (own:=own) (b:=c) e 32 U;omega
theorem rB.apartEx{G:List Nat}(h:rB X T V own G){k c:Nat}(J:k<32)(U:c∈nH V own k):c∉G:=λz=>by
 have W:=h.rng J U;have h2:=(h.once c W.2).1;have h4:0<(nH V own k).count c:=List.count_pos_iff.2 U;have h5:0<G.count c:=List.count_pos_iff.2 z;have :=Hl (T:=V) (own:=own) (b:=c) 32 J;unfold xz at h2;omega
theorem rB.inner(h:rB X T V own W){k c:Nat}(G:k<32)(J:c∈own k):c∉dn (nT V k):=λz=>by
 have h1:=h.rng G (bV _ J);have h2:=(h.once c h1.2).1;have U:=Hl (T:=V) (own:=own) (b:=c) 32 G;have h4:0<(own k).count c:=List.count_pos_iff.2 J;have h5:0<(dn (nT V k)).count c:=List.count_pos_iff.2 z;unfold xz at h2;unfold nH at U;rw[fM] at U;omega
theorem vH{Y:List Int}(hB:n.B.length=13)(h:jX X n)(U:∀c∈dn n,∀j,j<8->Y.getD (1080+8*c+j) 0=X.getD (1080+8*c+j) 0):jX Y n:=by
 intro hK k J G j W z;have V:(n.B.getD k 0).toNat∈dn n:=by
  unfold dn ez;refine bH.2 ⟨n.B.getD k 0,List.mem_filter.2 ⟨?_,by simpa using G⟩,rfl⟩;rw[aW (by omega),aj,aD (by omega)];exact bF _
 have :=U _ V (j/8) (by omega);rw[this];exact h hK k J G j W z
end
end Go.Proofs.YtimcfdnbpkiniaaGreatDoor
