/- Lemmas. -/
import Derived.Test.YtepbpdipenedhaaGreatDoorM19
namespace Go.Proofs.YtepbpdipenedhaaGreatDoor
open Go.RowKit
section
variable{a b c i j k:Nat}{A B E M:List (ByteArray×Int)}{nm:ByteArray}{D X:List Int}{y:Int}{p:Int×Int}{n:bT}{own:Nat->List Nat}{ex z:List Nat}{T V:List (bT×Value)}
structure Nd where
 K:Int
 L:Int
 D:List Int
 E:List (ByteArray×Int)
def wh:Nd:=⟨0,0,[],[]⟩
def nv (M:Nat->Nd) (i:Nat) (n:Nd):Nat->Nd:=λj=>if j=i then n else M j
theorem nH (M:Nat->Nd)(i:Nat)(n:Nd):nv M i n i=n:=aB rfl
theorem dI (M:Nat->Nd){i j:Nat}(n:Nd)(h:j≠i):nv M i n j=M j:=aA h
def Edge (M:Nat->Nd) (a b:Nat):Prop:=∃e∈(M a).E,e.2=(b:Int)
inductive kS (M:Nat->Nd) (d:Nat):Nat->Prop
 |here:kS M d d
 |step {a b:Nat}:kS M d a->Edge M a b->kS M d b
theorem kS.trans{M:Nat->Nd}(h:kS M a b)(k:kS M b c):kS M a c:=by
 induction k with
 |here=>exact h
 |step _ e ih=>exact ih.step e
theorem kS.mono{M M':Nat->Nd}(h:∀a b,Edge M a b->Edge M' a b){d x:Nat}(k:kS M d x):kS M' d x:=by
 induction k with
 |here=>exact .here
 |step _ e ih=>exact ih.step (h _ _ e)
def tH (E:List (ByteArray×Int)) (i:Nat):Nat:=E.countP λe=>e.2==(i:Int)
theorem lh (A B:List (ByteArray×Int))(i:Nat):tH (A++B) i=tH A i+tH B i:=List.countP_append
theorem yz (nm:ByteArray)(x:Int)(i:Nat):tH [(nm,x)] i=if x=(i:Int) then 1 else 0:=by simp[tH,List.countP_singleton]
theorem Od (i:Nat):tH [] i=0:=rfl
theorem Hc:0<tH E i↔∃e∈E,e.2=(i:Int):=by simp[tH,List.countP_pos_iff]
def lC (M:Nat->Nd):Nat->Nat->Nat
 |0,_=>0
 |k+1,i=>lC M k i+tH (M k).E i
theorem Hd{M M':Nat->Nd}(h:∀a,a<k->(M' a).E=(M a).E)(i:Nat):lC M' k i=lC M k i:=by
 induction k with
 |zero=>rfl
 |succ k ih=>show _+_=_+_;rw[ih λa z=>h a (by omega),h k (by omega)]
theorem Fj (M:Nat->Nd)(d:Nat)(n:Nd)(i:Nat):∀k,d<k->lC (nv M d n) k i+tH (M d).E i=lC M k i+tH n.E i:=by
 intro k;induction k with
 |zero=>intro h;omega
 |succ k ih=>
  intro h;show(lC (nv M d n) k i+tH (nv M d n k).E i)+_=(lC M k i+tH (M k).E i)+_;by_cases e:d=k
  ·subst e
   rw[nH,Hd (M:=M) (M':=nv M d n) (λa z=>by rw[dI M n (by omega)])];omega
  ·rw[dI M n (by omega)]
   have :=ih (by omega);omega
theorem qX{M:Nat->Nd}:0<lC M k i↔∃a,a<k/\Edge M a i:=by
 induction k with
 |zero=>exact⟨λh=>by simp[lC] at h,λ⟨_,h,_⟩=>by omega⟩
 |succ k ih=>
  show 0<lC M k i+tH (M k).E i↔_;constructor
  ·intro h
   rcases dY (lC M k i) with G|G
   ·exact⟨k,by omega,Hc.1 (by omega)⟩
   ·obtain⟨a,J,z⟩:=ih.1 G
    exact⟨a,by omega,z⟩
  ·rintro⟨a,J,z⟩
   by_cases e:a=k
   ·subst e
    have :=Hc.2 z;omega
   ·have :=ih.2 ⟨a,by omega,z⟩
    omega
theorem Oe{M:Nat->Nd}(G:Edge M a i)(J:Edge M c i)(z:a<c):∀k,c<k->2<=lC M k i:=by
 intro k;induction k with
 |zero=>intro h;omega
 |succ k ih=>
  intro h;show 2<=lC M k i+tH (M k).E i;by_cases e:c=k
  ·subst e
   have V:=Hc.2 J;have U:=qX.2 ⟨a,z,G⟩;omega
  ·have :=ih (by omega)
   omega
structure dw (M:Nat->Nd):Prop where
 out:∀i,32<=i->M i=wh
 kind:∀i,M i=wh\/((M i).K=1/\(M i).E=[])\/((M i).K=2/\(M i).D=[])
 root:(M 0).K=2
 lead:∀i,∀e∈(M i).E,(0<=e.2/\e.2<32)/\(M e.2.toNat).K≠0
 rises:∀i,yt (M i).E
 links:∀i,i<32->((M i).K=1->(lC M 32 i:Int)=(M i).L/\1<=lC M 32 i)/\((M i).K=2->(M i).L=1/\(i=0->lC M 32 i=0)/\(i≠0->lC M 32 i=1))
 reach:∀i,(M i).K≠0->kS M 0 i
theorem dw.rng{M:Nat->Nd}(h:dw M){i:Nat}(G:(M i).K≠0):i<32:=by
 rcases dE i 32 with z|z
 ·exact z
 ·exact absurd (by rw[h.out i z];rfl) G
theorem dw.dir{M:Nat->Nd}(h:dw M){a b:Nat}(J:Edge M a b):(M a).K=2/\a<32/\(M b).K≠0/\b<32:=by
 obtain⟨e,G,J⟩:=J;have U:(M a).K=2:=by
  rcases h.kind a with z|⟨-,z⟩|z
  ·rw[z] at G;simp[wh] at G
  ·rw[z] at G;simp at G
  ·exact z.1
 have z:=h.lead a e G;rw[J,aG] at z;exact⟨U,h.rng (by omega),z.2,by omega⟩
theorem dw.parent{M:Nat->Nd}(h:dw M){a c b:Nat}(V:(M b).K=2)(z:Edge M a b)(G:Edge M c b):a=c:=by
 have J:=((h.links b (h.dir z).2.2.2).2 V).2;have U:lC M 32 b<=1:=by
  by_cases e:b=0
  ·rw[J.1 e];omega
  ·rw[J.2 e];omega
 rcases Nat.lt_trichotomy a c with e|e|e
 ·have :=Oe z G e 32 (h.dir G).2.1;omega
 ·exact e
 ·have :=Oe G z e 32 (h.dir z).2.1;omega
theorem dw.noRoot{M:Nat->Nd}(h:dw M){a:Nat}:¬Edge M a 0:=λz=>by
 have J:=((h.links 0 (by omega)).2 h.root).2.1 rfl;have G:=qX.2 ⟨a,(h.dir z).2.1,z⟩;omega
def ag6 (M:Nat->Nd) (a b:Nat):Prop:=∃c,kS M a c/\Edge M c b
theorem Re{M:Nat->Nd}(h:kS M a b):a=b\/∃c,Edge M a c/\kS M c b:=by
 induction h with
 |here=>exact .inl rfl
 |step h e ih=>
  rcases ih with rfl|⟨c,G,z⟩
  ·exact .inr ⟨_,e,.here⟩
  ·exact .inr ⟨c,G,z.step e⟩
theorem dw.acyclic{M:Nat->Nd}(h:dw M){x:Nat}(hx:kS M 0 x):¬ag6 M x x:=by
 induction hx with
 |here=>rintro⟨c,-,V⟩;exact h.noRoot V
 | @step a b _ e ih=>
  rintro⟨c,J,U⟩;have W:(M b).K=2:=by
   rcases Re J with rfl|⟨d,z,-⟩
   ·exact(h.dir U).1
   ·exact(h.dir z).1
  have G:=h.parent W U e;subst G;cases J with
  |here=>exact ih ⟨_,.here,e⟩
  |step z h4=>exact ih ⟨_,(kS.step .here e).trans z,h4⟩
def oN (M:Nat->Nd) (d:Nat) (E:List (ByteArray×Int)):Nat->Nd:=nv M d { M d with E:=E }
theorem pd (M:Nat->Nd)(d:Nat)(E:List (ByteArray×Int))(j:Nat):(oN M d E j).E=if j=d then E else (M j).E:=by
 unfold oN nv;by_cases h:j=d
 ·rw[aB h,aB h]
 ·rw[aA h,aA h]
theorem yA (M:Nat->Nd)(d:Nat)(E:List (ByteArray×Int))(j:Nat):(oN M d E j).K=(M j).K/\(oN M d E j).L=(M j).L/\(oN M d E j).D=(M j).D:=by
 unfold oN nv;by_cases h:j=d
 ·rw[aB h,h];exact⟨rfl,rfl,rfl⟩
 ·rw[aA h];exact⟨rfl,rfl,rfl⟩
theorem BI (M:Nat->Nd){d:Nat}(h:d<32)(E:List (ByteArray×Int))(i:Nat):lC (oN M d E) 32 i+tH (M d).E i=lC M 32 i+tH E i:=Fj M d _ i 32 h
def Rf (M:Nat->Nd) (d i:Nat) (K:Int) (E:List (ByteArray×Int)):Nat->Nd:=oN (nv M i ⟨K,1,[],[]⟩) d E
theorem dw.noEdge{M:Nat->Nd}(h:dw M){i:Nat}(z:M i=wh)(a:Nat):¬Edge M a i:=λG=>(h.dir G).2.2.1 (by rw[z];rfl)
theorem dw.made{M:Nat->Nd}(h:dw M){d i:Nat}{K:Int}{A B:List (ByteArray×Int)}{nm:ByteArray}(hd:(M d).K=2)(V:M i=wh)(jG:i<32)(hK:K=1\/K=2)(hs:iP (M d).E A [] B nm):
  dw (Rf M d i K (A++([(nm,(i:Int))]++B))):=by
 have Og:=h.rng (i:=d) (by omega);have aa:d≠i:=λe=>by rw[e,V] at hd;simp[wh] at hd
 have Mq:(M d).E=A++B:=hs.eq;have kk:∀j,(Rf M d i K (A++([(nm,(i:Int))]++B)) j).K=if j=i then K else (M j).K:=λj=>by
  unfold Rf;rw[(yA _ _ _ j).1];unfold nv;split<;>rfl
 have kL:∀j,(Rf M d i K (A++([(nm,(i:Int))]++B)) j).L=if j=i then 1 else (M j).L:=λj=>by
  unfold Rf;rw[(yA _ _ _ j).2.1];unfold nv;split<;>rfl
 have kE:∀j,(Rf M d i K (A++([(nm,(i:Int))]++B)) j).E=if j=d then A++([(nm,(i:Int))]++B) else (M j).E:=λj=>by
  unfold Rf;rw[pd];by_cases e:j=d
  ·rw[aB e,aB e]
  ·rw[aA e,aA e]
   unfold nv;by_cases G:j=i
   ·rw[aB G,G,V];rfl
   ·rw[aA G]
 have Ef:∀a b,Edge M a b->Edge (Rf M d i K (A++([(nm,(i:Int))]++B))) a b:=λa b ⟨e,hm,U⟩=>⟨e,by
  rw[kE];split
  ·next G=>rw[G,Mq] at hm;rcases aT.1 hm with z|z<;>simp[z]
  ·exact hm,U⟩
 have W:Edge (Rf M d i K (A++([(nm,(i:Int))]++B))) d i:=⟨(nm,(i:Int)),by rw[kE,aB rfl];simp,rfl⟩;have yB:∀j,lC (Rf M d i K (A++([(nm,(i:Int))]++B))) 32 j=lC M 32 j+if j=i then 1 else 0:=λj=>by
  have z:=BI (nv M i ⟨K,1,[],[]⟩) Og (A++([(nm,(i:Int))]++B)) j;have h2:=Fj M i ⟨K,1,[],[]⟩ j 32 jG;rw[dI M _ aa,Mq,lh,lh,lh,yz] at z;rw[V,show(wh).E=[] from rfl,Od] at h2;unfold Rf;by_cases e:j=i
  ·subst e;simp only[aB] at z ⊢;omega
  ·rw[aA] at z;rw[aA e];omega
 refine⟨λj J=> ?_,λj=> ?_,?_,λj e U=> ?_,λj=> ?_,λj J=> ?_,λj J=> ?_⟩
 ·unfold Rf oN
  rw[dI _ _ (by omega),dI _ _ (by omega)];exact h.out j J
 ·unfold Rf oN
  by_cases e:j=d
  ·subst e
   rw[nH,dI _ _ aa];rcases h.kind j with z|z|z
   ·rw[z] at hd;simp[wh] at hd
   ·omega
   ·exact .inr (.inr ⟨z.1,z.2⟩)
  ·rw[dI _ _ e]
   by_cases G:j=i
   ·subst G
    rw[nH];rcases hK with rfl|rfl
    ·exact .inr (.inl ⟨rfl,rfl⟩)
    ·exact .inr (.inr ⟨rfl,rfl⟩)
   ·rw[dI _ _ G]
    exact h.kind j
 ·rw[kk,aA (λe=>by rw[<-e] at V;have :=h.root;rw[V] at this;simp[wh] at this)]
  exact h.root
 ·rw[kE] at U
  have :e∈(M j).E\/e=(nm,(i:Int)):=by
   split at U
   ·next G=>
    rw[G,Mq];simp only[aT,au] at U ⊢;rcases U with z|z|z
    ·exact .inl (.inl z)
    ·exact .inr z
    ·exact .inl (.inr z)
   ·exact .inl U
  rcases this with z|rfl
  ·have :=h.lead j e z
   refine⟨this.1,?_⟩;rw[kk];split
   ·omega
   ·exact this.2
  ·refine⟨by show(0:Int)<=(i:Int)/\(i:Int)<32;omega,?_⟩
   rw[kk,aB (by simp)];omega
 ·rw[kE]
  split
  ·exact hs.rises (h.rises d) _ (.inr ⟨_,rfl⟩)
  ·exact h.rises j
 ·rw[kk,kL,yB]
  by_cases e:j=i
  ·subst e
   have h0:lC M 32 j=0:=by
    rcases dY (lC M 32 j) with z|z
    ·exact z
    ·obtain⟨a,-,ha⟩:=qX.1 z
     exact absurd ha (h.noEdge V a)
   have Cf:j≠0:=λe=>by subst e;have :=h.root;rw[V] at this;simp[wh] at this
   simp only[aB,h0];exact⟨λ_=>⟨by first|rfl|trivial,by omega⟩,λ_=>⟨trivial,λh2=>absurd h2 Cf,λ_=>by first|rfl|trivial⟩⟩
  ·simp only[aA e,dB]
   exact h.links j J
 ·rw[kk] at J
  by_cases e:j=i
  ·subst e
   exact((h.reach d (by omega)).mono Ef).step W
  ·rw[aA e] at J
   exact(h.reach j J).mono Ef
def S9 (M:Nat->Nd) (d i:Nat) (E:List (ByteArray×Int)):Nat->Nd:=oN (nv M i { M i with L:=(M i).L+1 }) d E
theorem dw.linked{M:Nat->Nd}(h:dw M){d i:Nat}{A B:List (ByteArray×Int)}{nm:ByteArray}(hd:(M d).K=2)(hi:(M i).K=1)(hs:iP (M d).E A [] B nm):
  dw (S9 M d i (A++([(nm,(i:Int))]++B))):=by
 have Og:=h.rng (i:=d) (by omega);have jG:=h.rng (i:=i) (by omega);have V:d≠i:=λe=>by rw[e] at hd;omega
 have Mq:(M d).E=A++B:=hs.eq;have W:∀j,(S9 M d i (A++([(nm,(i:Int))]++B)) j).K=(M j).K:=λj=>by
  unfold S9;rw[(yA _ _ _ j).1];unfold nv;split
  ·next e=>rw[e]
  ·rfl
 have kL:∀j,(S9 M d i (A++([(nm,(i:Int))]++B)) j).L=(M j).L+if j=i then 1 else 0:=λj=>by
  unfold S9;rw[(yA _ _ _ j).2.1];unfold nv;split
  ·next e=>rw[e]
  ·simp
 have kE:∀j,(S9 M d i (A++([(nm,(i:Int))]++B)) j).E=if j=d then A++([(nm,(i:Int))]++B) else (M j).E:=λj=>by
  unfold S9;rw[pd];by_cases e:j=d
  ·rw[aB e,aB e]
  ·rw[aA e,aA e]
   unfold nv;split
   ·next G=>rw[G]
   ·rfl
 have Ef:∀a b,Edge M a b->Edge (S9 M d i (A++([(nm,(i:Int))]++B))) a b:=λa b ⟨e,hm,J⟩=>⟨e,by
  rw[kE];split
  ·next G=>rw[G,Mq] at hm;rcases aT.1 hm with z|z<;>simp[z]
  ·exact hm,J⟩
 have yB:∀j,lC (S9 M d i (A++([(nm,(i:Int))]++B))) 32 j=lC M 32 j+if j=i then 1 else 0:=λj=>by
  have h0:({ M i with L:=(M i).L+1 }:Nd).E=(M i).E:=rfl;unfold S9;generalize ({ M i with L:=(M i).L+1 }:Nd)=n0 at *;have z:=BI (nv M i n0) Og (A++([(nm,(i:Int))]++B)) j;have h2:=Fj M i n0 j 32 jG;rw[dI M _ V,Mq,lh,lh,lh,yz] at z;rw[h0] at h2;by_cases e:j=i
  ·subst e;simp only[aB] at z ⊢;omega
  ·rw[aA] at z;rw[aA e];omega
 refine⟨λj U=> ?_,λj=> ?_,?_,λj e J=> ?_,λj=> ?_,λj U=> ?_,λj U=> ?_⟩
 ·unfold S9 oN
  rw[dI _ _ (by omega),dI _ _ (by omega)];exact h.out j U
 ·unfold S9 oN
  by_cases e:j=d
  ·subst e
   rw[nH,dI _ _ V];rcases h.kind j with z|z|z
   ·rw[z] at hd;simp[wh] at hd
   ·omega
   ·exact .inr (.inr ⟨z.1,z.2⟩)
  ·rw[dI _ _ e]
   by_cases G:j=i
   ·subst G
    rw[nH];rcases h.kind j with z|z|z
    ·rw[z] at hi;simp[wh] at hi
    ·exact .inr (.inl ⟨z.1,z.2⟩)
    ·omega
   ·rw[dI _ _ G]
    exact h.kind j
 ·rw[W]
  exact h.root
 ·rw[kE] at J
  have :e∈(M j).E\/e=(nm,(i:Int)):=by
   split at J
   ·next G=>
    rw[G,Mq];simp only[aT,au] at J ⊢;rcases J with z|z|z
    ·exact .inl (.inl z)
    ·exact .inr z
    ·exact .inl (.inr z)
   ·exact .inl J
  rw[W];rcases this with z|rfl
  ·exact h.lead j e z
  ·refine⟨by show(0:Int)<=(i:Int)/\(i:Int)<32;omega,?_⟩
   show(M (i:Int).toNat).K≠0;rw[aG];omega
 ·rw[kE]
  split
  ·exact hs.rises (h.rises d) _ (.inr ⟨_,rfl⟩)
  ·exact h.rises j
 ·rw[W,kL,yB]
  have z:=h.links j U;by_cases e:j=i
  ·subst e
   simp only[aB];exact⟨λ_=>⟨by have :=(z.1 hi).1;omega,by omega⟩,λh2=>by omega⟩
  ·simp only[aA e,dB,Int.add_zero]
   exact z
 ·rw[W] at U
  exact(h.reach j U).mono Ef
def ER (M:Nat->Nd) (d j:Nat) (E:List (ByteArray×Int)):Nat->Nd:=oN (nv M j (if (M j).L=1 then wh else { M j with L:=(M j).L-1 })) d E
theorem iP.leads(h:iP E A [(nm,(j:Int))] B nm):∃e∈E,e.2=(j:Int):=⟨(nm,(j:Int)),by rw[h.eq];simp,rfl⟩
theorem dw.notSelf{M:Nat->Nd}(h:dw M){d j:Nat}(z:Edge M d j):d≠j:=λe=>by
 subst e;exact h.acyclic (h.reach d (h.dir z).2.2.1) ⟨d,.here,z⟩
theorem dw.removed{M:Nat->Nd}(h:dw M){d j:Nat}{A B:List (ByteArray×Int)}{nm:ByteArray}(hj:(M j).E=[])(hs:iP (M d).E A [(nm,(j:Int))] B nm):
  dw (ER M d j (A++B)):=by
 have aa:Edge M d j:=hs.leads;obtain⟨hd,Og,ac,af⟩:=h.dir aa;have ai:=h.notSelf aa;have Mq:(M d).E=A++([(nm,(j:Int))]++B):=hs.eq;have Cf:j≠0:=λe=>by subst e;exact h.noRoot aa
 have Cr:1<=lC M 32 j:=qX.2 ⟨d,Og,aa⟩
 -- one link left, or a file with more
 have hL:((M j).L=1/\lC M 32 j=1)\/((M j).K=1/\(M j).L≠1/\(lC M 32 j:Int)=(M j).L/\2<=lC M 32 j):=by
  have z:=h.links j af;rcases h.kind j with h2|h2|h2
  ·rw[h2] at ac;simp[wh] at ac
  ·have h3:=(z.1 h2.1).1
   by_cases e:(M j).L=1
   ·exact .inl ⟨e,by omega⟩
   ·exact .inr ⟨h2.1,e,h3,by omega⟩
  ·exact .inl ⟨(z.2 h2.1).1,(z.2 h2.1).2.2 Cf⟩
 have kk:∀x,(ER M d j (A++B) x).K=if x=j/\(M j).L=1 then 0 else (M x).K:=λx=>by
  unfold ER;rw[(yA _ _ _ x).1];unfold nv;by_cases e:x=j
  ·rw[aB e]
   by_cases G:(M j).L=1
   ·rw[aB G,aB ⟨e,G⟩];rfl
   ·rw[aA G,aA (λh=>G h.2),e]
  ·rw[aA e,aA (λh=>e h.1)]
 have kE:∀x,(ER M d j (A++B) x).E=if x=d then A++B else (M x).E:=λx=>by
  unfold ER;rw[pd];by_cases e:x=d
  ·rw[aB e,aB e]
  ·rw[aA e,aA e]
   unfold nv;by_cases G:x=j
   ·rw[aB G,G,hj]
    split
    ·rfl
    ·exact hj
   ·rw[aA G]
 have Ef:∀a b,b≠j->Edge M a b->Edge (ER M d j (A++B)) a b:=λa b hb ⟨e,U,J⟩=>⟨e,by
  rw[kE];split
  ·next G=>
   rw[G,Mq] at U;simp only[aT,au] at U ⊢;rcases U with z|z|z
   ·exact .inl z
   ·rw[z] at J
    have :(j:Int)=(b:Int):=J;omega
   ·exact .inr z
  ·exact U,J⟩
 have W:∀a b,Edge (ER M d j (A++B)) a b->Edge M a b:=λa b ⟨e,U,J⟩=>⟨e,by
  rw[kE] at U;split at U
  ·next G=>rw[G,Mq];rcases aT.1 U with z|z<;>simp[z]
  ·exact U,J⟩
 have yB:∀x,lC (ER M d j (A++B)) 32 x+(if x=j then 1 else 0)=lC M 32 x:=λx=>by
  have h3:tH (if (M j).L=1 then wh else { M j with L:=(M j).L-1 }).E x=0:=by
   split
   ·rfl
   ·show tH (M j).E x=0;rw[hj];rfl
  unfold ER;generalize (if (M j).L=1 then wh else { M j with L:=(M j).L-1 })=n0 at *;have z:=BI (nv M j n0) Og (A++B) x;have h2:=Fj M j n0 x 32 af;rw[dI M _ ai,Mq,lh,lh,lh,yz] at z;rw[hj,h3,Od] at h2;by_cases e:x=j
  ·subst e;simp only[aB] at z ⊢;omega
  ·rw[aA] at z;rw[aA e];omega
 have ak:∀a,¬Edge M j a:=λa ⟨e,U,_⟩=>by rw[hj] at U;simp at U
 have ag:∀x,kS M 0 x->x≠j->kS (ER M d j (A++B)) 0 x:=λx V=>by
  induction V with
  |here=>exact λ_=> .here
  | @step a b _ J ih=>exact λhb=>(ih λe=>by subst e;exact ak _ J).step (Ef _ _ hb J)
 refine⟨λx V=> ?_,λx=> ?_,?_,λx e J=> ?_,λx=> ?_,λx V=> ?_,λx V=> ?_⟩
 ·unfold ER oN
  rw[dI _ _ (by omega),dI _ _ (by omega)];exact h.out x V
 ·unfold ER oN
  by_cases e:x=d
  ·subst e
   rw[nH,dI _ _ ai];rcases h.kind x with z|z|z
   ·rw[z] at hd;simp[wh] at hd
   ·omega
   ·exact .inr (.inr ⟨z.1,z.2⟩)
  ·rw[dI _ _ e]
   by_cases G:x=j
   ·subst G
    rw[nH];split
    ·exact .inl rfl
    ·rcases h.kind x with z|z|z
     ·rw[z] at ac;simp[wh] at ac
     ·exact .inr (.inl ⟨z.1,z.2⟩)
     ·exact .inr (.inr ⟨z.1,z.2⟩)
   ·rw[dI _ _ G]
    exact h.kind x
 ·rw[kk,aA (λe=>Cf e.1.symm)]
  exact h.root
 ·have U:e∈(M x).E:=by
   rw[kE] at J;split at J
   ·next G=>rw[G,Mq];rcases aT.1 J with z|z<;>simp[z]
   ·exact J
  have z:=h.lead x e U;refine⟨z.1,?_⟩;rw[kk];rw[aA ?_]
  ·exact z.2
  ·rintro⟨e1,G⟩
   have h3:Edge (ER M d j (A++B)) x j:=⟨e,J,by omega⟩;have aj:x<32:=(h.dir (W _ _ h3)).2.1;have h4:=qX.2 ⟨x,aj,h3⟩;have h5:=yB j;rw[aB rfl] at h5;rcases hL with h6|h6<;>omega
 ·rw[kE]
  split
  ·have :=hs.rises (h.rises d) [] (.inl rfl)
   simpa using this
  ·exact h.rises x
 ·have h5:=yB x
  by_cases e:x=j
  ·subst e
   rw[aB rfl] at h5;rcases hL with h6|h6
   ·rw[kk,aB ⟨rfl,h6.1⟩]
    exact⟨λh=>by omega,λh=>by omega⟩
   ·rw[kk,aA (λh=>h6.2.1 h.2)]
    have ae:(ER M d x (A++B) x).L=(M x).L-1:=by
     unfold ER;rw[(yA _ _ _ x).2.1,nH,aA h6.2.1]
    rw[ae];exact⟨λ_=>⟨by omega,by omega⟩,λh=>by omega⟩
  ·rw[aA e] at h5
   have ae:(ER M d j (A++B) x).L=(M x).L:=by
    unfold ER;rw[(yA _ _ _ x).2.1,dI _ _ e]
   rw[kk,aA (λh=>e h.1),ae,show lC (ER M d j (A++B)) 32 x=lC M 32 x by omega];exact h.links x V
 ·by_cases e:x=j
  ·subst e
   rw[kk] at V;have h5:=yB x;rw[aB rfl] at h5;rcases hL with h6|h6
   ·rw[aB ⟨rfl,h6.1⟩] at V;exact absurd rfl V
   ·obtain⟨a,ha,ah⟩:=qX.1 (show 0<lC (ER M d x (A++B)) 32 x by omega)
    have h7:=W _ _ ah;exact(ag a (h.reach a (by have :=(h.dir h7).1;omega)) (h.notSelf h7)).step ah
  ·rw[kk,aA (λh=>e h.1)] at V
   exact ag x (h.reach x V) e
def Kj (M:Nat->Nd) (d t:Nat) (E h:List (ByteArray×Int)):Nat->Nd:=oN (oN M d E) t h
theorem dw.moved{M:Nat->Nd}(h:dw M){d t i:Nat}{A B U J:List (ByteArray×Int)}{nm nm':ByteArray}(hs:iP (M d).E A [(nm,(i:Int))] B nm)(ht:(M t).K=2)(ac:iP (oN M d (A++B) t).E U [] J nm')
  (hb:¬kS M i t):dw (Kj M d t (A++B) (U++([(nm',(i:Int))]++J))):=by
 have ah:Edge M d i:=hs.leads;obtain⟨hd,Og,aj,jG⟩:=h.dir ah;have ag:=h.rng (i:=t) (by omega);have Mq:(M d).E=A++([(nm,(i:Int))]++B):=hs.eq;have aa:(oN M d (A++B) t).E=U++J:=ac.eq;have kk:∀x,(Kj M d t (A++B) (U++([(nm',(i:Int))]++J)) x).K=(M x).K/\(Kj M d t (A++B) (U++([(nm',(i:Int))]++J)) x).L=(M x).L/\(Kj M d t (A++B) (U++([(nm',(i:Int))]++J)) x).D=(M x).D:=λx=>by
  have z:=yA (oN M d (A++B)) t (U++([(nm',(i:Int))]++J)) x;have h2:=yA M d (A++B) x;exact⟨z.1.trans h2.1,z.2.1.trans h2.2.1,z.2.2.trans h2.2.2⟩
 have e1:∀a b,Edge M a b->Edge (oN M d (A++B)) a b\/(a=d/\b=i):=λa b ⟨e,hm,G⟩=>by
  by_cases e2:a=d
  ·rw[e2,Mq] at hm
   simp only[aT,au] at hm;rcases hm with z|z|z
   ·exact .inl ⟨e,by rw[pd,aB e2];simp[z],G⟩
   ·right
    rw[z] at G;have h2:(i:Int)=(b:Int):=G;exact⟨e2,by omega⟩
   ·exact .inl ⟨e,by rw[pd,aB e2];simp[z],G⟩
  ·exact .inl ⟨e,by rw[pd,aA e2];exact hm,G⟩
 have e2:∀a b,Edge (oN M d (A++B)) a b->Edge (Kj M d t (A++B) (U++([(nm',(i:Int))]++J))) a b:=λa b ⟨e,hm,G⟩=>⟨e,by
  unfold Kj;rw[pd];split
  ·next e3=>rw[e3,aa] at hm;rcases aT.1 hm with z|z<;>simp[z]
  ·exact hm,G⟩
 have e3:Edge (Kj M d t (A++B) (U++([(nm',(i:Int))]++J))) t i:=⟨(nm',(i:Int)),by unfold Kj;rw[pd,aB rfl];simp,rfl⟩;have yB:∀x,lC (Kj M d t (A++B) (U++([(nm',(i:Int))]++J))) 32 x=lC M 32 x:=λx=>by
  have z:=BI M Og (A++B) x;have h2:=BI (oN M d (A++B)) ag (U++([(nm',(i:Int))]++J)) x;rw[Mq,lh,lh,lh,yz] at z;rw[aa,lh,lh,lh,yz] at h2;unfold Kj;omega
 have af:∀x,kS M 0 x->¬kS M i x->kS (Kj M d t (A++B) (U++([(nm',(i:Int))]++J))) 0 x:=λx W=>by
  induction W with
  |here=>exact λ_=> .here
  | @step a b _ G ih=>
   intro hn;rcases e1 _ _ G with z|⟨-,z⟩
   ·exact(ih λhc=>hn (hc.step G)).step (e2 _ _ z)
   ·rw[z] at hn;exact absurd kS.here hn
 have ai:kS (Kj M d t (A++B) (U++([(nm',(i:Int))]++J))) 0 i:=(af t (h.reach t (by omega)) hb).step e3;refine⟨λx W=> ?_,λx=> ?_,?_,λx e G=> ?_,λx=> ?_,λx W=> ?_,λx W=> ?_⟩
 ·unfold Kj oN
  rw[dI _ _ (by omega),dI _ _ (by omega)];exact h.out x W
 ·obtain⟨k1,k2,k3⟩:=kk x
  by_cases ex:x=d\/x=t
  ·right;right
   rw[k1,k3];have :(M x).K=2:=by rcases ex with rfl|rfl<;>assumption
   refine⟨this,?_⟩;rcases h.kind x with z|z|z
   ·rw[z] at this;simp[wh] at this
   ·omega
   ·exact z.2
  ·have :Kj M d t (A++B) (U++([(nm',(i:Int))]++J)) x=M x:=by
    unfold Kj oN;rw[dI _ _ (λe=>ex (.inr e)),dI _ _ (λe=>ex (.inl e))]
   rw[this];exact h.kind x
 ·rw[(kk 0).1];exact h.root
 ·rw[(kk _).1]
  have :e∈(M x).E\/e=(nm',(i:Int)):=by
   unfold Kj at G;have V:∀y,∀e∈(oN M d (A++B) y).E,e∈(M y).E:=λy e G=>by
    rw[pd] at G;split at G
    ·next e4=>rw[e4,Mq];rcases aT.1 G with z|z<;>simp[z]
    ·exact G
   rw[pd] at G;split at G
   ·next e4=>
    simp only[aT,au] at G;rcases G with z|z|z
    ·exact .inl (V x e (by rw[e4,aa];simp[z]))
    ·exact .inr z
    ·exact .inl (V x e (by rw[e4,aa];simp[z]))
   ·exact .inl (V x e G)
  rcases this with z|rfl
  ·exact h.lead x e z
  ·refine⟨by show(0:Int)<=(i:Int)/\(i:Int)<32;omega,?_⟩
   show(M (i:Int).toNat).K≠0;rw[aG];exact aj
 ·have hr:∀y,yt (oN M d (A++B) y).E:=λy=>by
   rw[pd];split
   ·have :=hs.rises (h.rises d) [] (.inl rfl)
    simpa using this
   ·exact h.rises y
  unfold Kj;rw[pd];split
  ·exact ac.rises (hr t) _ (.inr ⟨_,rfl⟩)
  ·exact hr x
 ·rw[(kk x).1,(kk x).2.1,yB]
  exact h.links x W
 ·rw[(kk x).1] at W
  have ae:=h.reach x W;clear W;induction ae with
  |here=>exact .here
  | @step a b ha G ih=>
   rcases e1 _ _ G with z|⟨-,z⟩
   ·exact ih.step (e2 _ _ z)
   ·rw[z];exact ai
theorem dw.data{M:Nat->Nd}(h:dw M){i:Nat}(V:(M i).K=1)(D:List Int):dw (nv M i { M i with D:=D }):=by
 have z:∀x,(nv M i { M i with D:=D } x).K=(M x).K/\(nv M i { M i with D:=D } x).L=(M x).L/\(nv M i { M i with D:=D } x).E=(M x).E:=λx=>by
  unfold nv;split
  ·next e=>rw[e];exact⟨rfl,rfl,rfl⟩
  ·exact⟨rfl,rfl,rfl⟩
 have yB:∀x,lC (nv M i { M i with D:=D }) 32 x=lC M 32 x:=λx=>Hd (λa _=>(z a).2.2) x
 have Ef:∀a b,Edge M a b->Edge (nv M i { M i with D:=D }) a b:=λa b ⟨e,W,U⟩=>⟨e,by rw[(z a).2.2];exact W,U⟩
 have jG:=h.rng (i:=i) (by omega);refine⟨λx G=>by rw[dI _ _ (by omega)];exact h.out x G,λx=> ?_,by rw[(z 0).1];exact h.root,λx e U=> ?_,λx=>by rw[(z x).2.2];exact h.rises x,λx G=> ?_,λx G=> ?_⟩
 ·by_cases e:x=i
  ·subst e
   rw[nH];rcases h.kind x with J|J|J
   ·rw[J] at V;simp[wh] at V
   ·exact .inr (.inl ⟨J.1,J.2⟩)
   ·omega
  ·rw[dI _ _ e];exact h.kind x
 ·rw[(z x).2.2] at U
  rw[(z _).1];exact h.lead x e U
 ·rw[(z x).1,(z x).2.1,yB]
  exact h.links x G
 ·rw[(z x).1] at G
  exact(h.reach x G).mono Ef
theorem lM (h:iP E A M B nm)(U:∀p∈E,0<=p.2):(bg E nm<0↔M=[])/\(0<=bg E nm->M=[(nm,bg E nm)]):=by
 have J:bg E nm=bg (M++B) nm:=by
  rw[h.eq,C5 A _ nm λp z=>tD (h.ahead p z)]
 rcases h.one with rfl|⟨i,rfl⟩
 ·have G:bg E nm= -1:=by
   rw[J,bQ];exact AF B nm λp z e=>tD (h.behind p z) e.symm
  rw[G];exact⟨⟨λ_=>rfl,λ_=>by omega⟩,λh=>by omega⟩
 ·have G:bg E nm=i:=by
   rw[J];show(if nm=nm then i else _)=i;rw[aB rfl]
  have V:0<=i:=U (nm,i) (by rw[h.eq];simp);rw[G];exact⟨⟨λh=>by omega,λh=>by simp at h⟩,λ_=>rfl⟩
def xG:List (ByteArray×Int)->ByteArray×Int->List (ByteArray×Int)
 | [],x=>[x]
 |p::E,x=>if Op.bytesLess x.1.toList p.1.toList=true then x::p::E else p::xG E x
theorem AJ (h:iP E A [] B nm)(i:Int):xG E (nm,i)=A++([(nm,i)]++B):=by
 have G:∀(A B:List (ByteArray×Int)),(∀p∈A,J5 p.1 nm)->(∀p∈B,J5 nm p.1)->xG (A++B) (nm,i)=A++([(nm,i)]++B):=by
  intro A;induction A with
  |nil=>
   intro B _ z;cases B with
   |nil=>rfl
   |cons p B=>
    show(if Op.bytesLess nm.toList p.1.toList=true then _ else _)=_;rw[aB (show Op.bytesLess nm.toList p.1.toList=true from z p (by simp))];rfl
  |cons p A ih=>
   intro B J z;show(if Op.bytesLess nm.toList p.1.toList=true then _ else p::xG (A++B) (nm,i))=_;rw[aA ?_,ih B (λq V=>J q (by simp[V])) z]
   ·rfl
   ·intro W
    exact mG _ (vJ (J p (by simp)) W)
 have U:E=A++B:=h.eq;rw[U];exact G A B h.ahead h.behind
def ja (E:List (ByteArray×Int)) (nm:ByteArray):List (ByteArray×Int):=E.filter λp=>decide (p.1≠nm)
theorem tI (h:iP E A M B nm):ja E nm=A++B:=by
 have V:ja A nm=A:=List.filter_eq_self.2 λp z=>by
  have :p.1≠nm:=tD (h.ahead p z);simpa using this
 have U:ja B nm=B:=List.filter_eq_self.2 λp z=>by
  have :p.1≠nm:=λe=>tD (h.behind p z) e.symm
  simpa using this
 have G:ja M nm=[]:=by
  rcases h.one with rfl|⟨i,rfl⟩
  ·rfl
  ·simp[ja]
 have J:ja E nm=ja A nm++(ja M nm++ja B nm):=by
  rw[h.eq];simp[ja]
 rw[J,V,U,G];rfl
structure jB where
 K:Int
 P:List ByteArray
 Q:List ByteArray
 O:Int
 N:Int
 D:List Int
structure mM where
 E:Int
 N:Int
 K:Int
 L:Int
 I:Int
 D:List Int
 S:List (ByteArray×Int)
def fy:mM:=⟨0,0,0,0,0,[],[]⟩
def cV (e:Int):mM:={ fy with E:=e }
def mj (l:List ByteArray):Bool:=l.all λs=>iy (bl s)
def iQ (M:Nat->Nd):Nat->List ByteArray->Nat×Int
 |a,[]=>(a,0)
 |a,p::ps=>if (M a).K=2 then (if bg (M a).E p<0 then (0,2) else iQ M (bg (M a).E p).toNat ps) else (0,4)
def cM (M:Nat->Nd) (p:List ByteArray):Nat×Int:=if mj p=true then iQ M 0 p else (0,1)
def bq (M:Nat->Nd) (p:List ByteArray):Nat×Int:=
 if p=[]\/mj p=false then (0,1) else
  if (iQ M 0 p.dropLast).2=0/\(M (iQ M 0 p.dropLast).1).K≠2 then (0,4) else iQ M 0 p.dropLast
def aS (p:List ByteArray):ByteArray:=p.getLastD ByteArray.empty
def vL (M:Nat->Nd):Option Nat:=(List.range 32).find? λi=>(M i).K==0
def yC (D:List Int) (n:Nat):List Int:=D.take n++List.replicate (n-D.length) 0
def xt (D:List Int) (o:Nat) (x:List Int):List Int:=(yC D (max D.length (o+x.length))).take o++(x++D.drop (o+x.length))
def He (M:Nat->Nd) (o:jB):(Nat->Nd)×mM:=
 if o.P=[] then (M,cV 3) else
 if (bq M o.P).2≠0 then (M,cV (bq M o.P).2) else
 if 0<=bg (M (bq M o.P).1).E (aS o.P) then (M,cV 3) else
 match vL M with
 |none=>(M,cV 7)
 |some i=>if (M (bq M o.P).1).E.length<24 then (Rf M (bq M o.P).1 i (1+o.K) (xG (M (bq M o.P).1).E (aS o.P,(i:Int))),{ fy with N:=(i:Int) }) else (M,cV 7)
def BJ (M:Nat->Nd) (o:jB):(Nat->Nd)×mM:=
 if (cM M o.P).2≠0 then (M,cV (cM M o.P).2) else
 if (M (cM M o.P).1).K=2 then (M,cV 5) else
 if (o.K≠4/\o.O<0)\/(o.K≠2/\o.N<0) then (M,cV 1) else
 if o.K=3 then (M,{ fy with D:=((M (cM M o.P).1).D.drop o.O.toNat).take o.N.toNat }) else
 if o.K=4 then
  if 832<o.N then (M,cV 8) else (nv M (cM M o.P).1 { M (cM M o.P).1 with D:=yC (M (cM M o.P).1).D o.N.toNat },fy)
 else
  if 832<o.O\/(832:Int)-o.O<o.D.length then (M,cV 8) else
  if o.D=[] then (M,fy) else
   (nv M (cM M o.P).1 { M (cM M o.P).1 with D:=xt (M (cM M o.P).1).D o.O.toNat o.D },{ fy with N:=(o.D.length:Int) })
def Cg (M:Nat->Nd) (d:Nat) (nm:ByteArray):Nat->Nd:=ER M d (bg (M d).E nm).toNat (ja (M d).E nm)
def uz (M:Nat->Nd) (o:jB):(Nat->Nd)×mM:=
 if o.P=[]/\o.K=5 then (M,cV 5) else
 if (bq M o.P).2≠0 then (M,cV (bq M o.P).2) else
 if bg (M (bq M o.P).1).E (aS o.P)<0 then (M,cV 2) else
 if o.K=5/\(M (bg (M (bq M o.P).1).E (aS o.P)).toNat).K=2 then (M,cV 5) else
 if o.K=6/\(M (bg (M (bq M o.P).1).E (aS o.P)).toNat).K≠2 then (M,cV 4) else
 if o.K=6/\(M (bg (M (bq M o.P).1).E (aS o.P)).toNat).E≠[] then (M,cV 6) else
 (Cg M (bq M o.P).1 (aS o.P),fy)
def uA (M:Nat->Nd) (i j:Nat):Int:=
 if (M i).K=1/\(M j).K=2 then 5 else if (M i).K=2/\(M j).K=1 then 4 else if (M j).K=2/\(M j).E≠[] then 6 else 0
def Oh (M:Nat->Nd) (d t i:Nat) (nm nm':ByteArray):Nat->Nd:=
 Kj M d t (ja (M d).E nm) (xG (oN M d (ja (M d).E nm) t).E (nm',(i:Int)))
open Classical in
noncomputable def uB (M:Nat->Nd) (o:jB):(Nat->Nd)×mM:=
 if o.P=[]\/o.Q=[] then (M,cV 1) else
 if (bq M o.P).2≠0 then (M,cV (bq M o.P).2) else
 if bg (M (bq M o.P).1).E (aS o.P)<0 then (M,cV 2) else
 if (bq M o.Q).2≠0 then (M,cV (bq M o.Q).2) else
 if bg (M (bq M o.Q).1).E (aS o.Q)=bg (M (bq M o.P).1).E (aS o.P) then (M,fy) else
 if kS M (bg (M (bq M o.P).1).E (aS o.P)).toNat (bq M o.Q).1 then (M,cV 11) else
 if 0<=bg (M (bq M o.Q).1).E (aS o.Q) then
  if uA M (bg (M (bq M o.P).1).E (aS o.P)).toNat (bg (M (bq M o.Q).1).E (aS o.Q)).toNat≠0 then
   (M,cV (uA M (bg (M (bq M o.P).1).E (aS o.P)).toNat (bg (M (bq M o.Q).1).E (aS o.Q)).toNat)) else
   (Oh (Cg M (bq M o.Q).1 (aS o.Q)) (bq M o.P).1 (bq M o.Q).1 (bg (M (bq M o.P).1).E (aS o.P)).toNat (aS o.P) (aS o.Q),fy)
 else
  if (bq M o.P).1≠(bq M o.Q).1/\24<=(M (bq M o.Q).1).E.length then (M,cV 7) else
   (Oh M (bq M o.P).1 (bq M o.Q).1 (bg (M (bq M o.P).1).E (aS o.P)).toNat (aS o.P) (aS o.Q),fy)
def Eg (M:Nat->Nd) (o:jB):(Nat->Nd)×mM:=
 if (cM M o.P).2≠0 then (M,cV (cM M o.P).2) else
 if (M (cM M o.P).1).K=2 then (M,cV 5) else
 if o.Q=[] then (M,cV 3) else
 if (bq M o.Q).2≠0 then (M,cV (bq M o.Q).2) else
 if 0<=bg (M (bq M o.Q).1).E (aS o.Q) then (M,cV 3) else
 if 24<=(M (bq M o.Q).1).E.length then (M,cV 7) else
 (S9 M (bq M o.Q).1 (cM M o.P).1 (xG (M (bq M o.Q).1).E (aS o.Q,((cM M o.P).1:Int))),fy)
def BK (M:Nat->Nd) (o:jB):mM:=
 if (cM M o.P).2≠0 then cV (cM M o.P).2 else
 if o.K=10 then { fy with N:=((M (cM M o.P).1).D.length+(M (cM M o.P).1).E.length:Nat),K:=(M (cM M o.P).1).K,L:=(M (cM M o.P).1).L,I:=((cM M o.P).1:Int) } else
 if (M (cM M o.P).1).K≠2 then cV 4 else { fy with S:=(M (cM M o.P).1).E }
noncomputable def kF (M:Nat->Nd) (o:jB):(Nat->Nd)×mM:=
 if o.K=0\/o.K=1 then He M o else
 if o.K=2\/o.K=3\/o.K=4 then BJ M o else
 if o.K=5\/o.K=6 then uz M o else
 if o.K=7 then uB M o else
 if o.K=8 then Eg M o else
 if o.K=9\/o.K=10 then (M,BK M o) else
 if o.K=11 then (M,if o.N=1\/o.N=2 then fy else cV 1) else
 if o.K=12 then (M,fy) else (M,cV 1)
theorem C8 {M:Nat->Nd}(h:dw M):∀(p:List ByteArray) (a:Nat),(M a).K≠0->(iQ M a p).2=0->(M (iQ M a p).1).K≠0/\kS M a (iQ M a p).1
 | [],a,ha,_=>⟨ha,.here⟩
 |p::ps,a,ha,he=>by
  unfold iQ at he ⊢;by_cases G:(M a).K=2
  ·rw[aB G] at he ⊢
   by_cases U:bg (M a).E p<0
   ·rw[aB U] at he;simp at he
   ·rw[aA U] at he ⊢
    obtain⟨A,X,B,W⟩:=lL (h.rises a) p;have h1:=(lM W λq hq=>(h.lead a q hq).1.1).2 (by omega);have V:(p,bg (M a).E p)∈(M a).E:=by
     have z:=W.eq;rw[h1] at z;exact(cN (λl=>(p,bg (M a).E p)∈l) z).mpr (by simp)
    have z:=h.lead a _ V;have J:=C8 h ps (bg (M a).E p).toNat z.2 he;exact⟨J.1,(kS.step .here ⟨_,V,by show bg (M a).E p=_;omega⟩).trans J.2⟩
  ·rw[aA G] at he;simp at he
theorem nW{M:Nat->Nd}(h:dw M){p:List ByteArray}(z:(cM M p).2=0):(M (cM M p).1).K≠0/\mj p=true:=by
 unfold cM at z ⊢;split at z
 ·next e=>rw[aB e];exact⟨(C8 h p 0 (by rw[h.root];omega) z).1,e⟩
 ·simp at z
theorem pV{M:Nat->Nd}{p:List ByteArray}(z:(bq M p).2=0):(M (bq M p).1).K=2/\iy (bl (aS p))=true/\p≠[]/\mj p=true:=by
 unfold bq at z ⊢;split at z
 ·simp at z
 ·next e=>
  rw[aA e];have J:p≠[]:=λh=>e (.inl h)
  have G:mj p=true:=by
   cases h:mj p
   ·exact absurd (.inr h) e
   ·rfl
  have V:iy (bl (aS p))=true:=by
   unfold mj at G;rw[eP] at G;apply G;unfold aS;cases p with
   |nil=>exact absurd rfl J
   |cons x xs=>rw[List.getLastD_cons,List.getLastD_eq_getLast?];exact(by
     cases hx:(xs.getLast?) with
     |none=>simp
     |some y=>simp;exact .inr (List.mem_of_getLast? hx))
  split at z
  ·simp at z
  ·next e2=>
   rw[aA e2];refine⟨?_,V,J,G⟩;by_cases U:(M (iQ M 0 p.dropLast).1).K=2
   ·exact U
   ·exact absurd ⟨z,U⟩ e2
theorem Y3{M:Nat->Nd}(h:dw M){i:Nat}(G:vL M=some i):M i=wh/\i<32:=by
 unfold vL at G;have U:=List.find?_some G;have J:=List.mem_of_find?_eq_some G;rw[bW] at J;refine⟨?_,J⟩;rcases h.kind i with z|z|z
 ·exact z
 ·simp at U;omega
 ·simp at U;omega
structure nj (M:Nat->Nd):Prop where
 names:∀i,∀e∈(M i).E,iy (bl e.1)=true
 len:∀i,(M i).E.length<=24
 data:∀i,(M i).D.length<=832
 bytes:∀i,∀x∈(M i).D,0<=x/\x<256
theorem nj.up{M:Nat->Nd}(h:nj M)(i:Nat){n:Nd}(V:∀e∈n.E,iy (bl e.1)=true)(U:n.E.length<=24)(G:n.D.length<=832)(J:∀x∈n.D,0<=x/\x<256):nj (nv M i n):=by
 have z:∀(P:Nd->Prop),(∀j,P (M j))->P n->∀j,P (nv M i n j):=λP a b j=>by unfold nv;split;exact b;exact a j
 exact⟨z (λm=>∀e∈m.E,iy (bl e.1)=true) h.names V,z (λm=>m.E.length<=24) h.len U,z (λm=>m.D.length<=832) h.data G,z (λm=>∀x∈m.D,0<=x/\x<256) h.bytes J⟩
theorem nj.ed{M:Nat->Nd}(h:nj M)(d:Nat){E:List (ByteArray×Int)}(G:∀e∈E,iy (bl e.1)=true)(z:E.length<=24):nj (oN M d E):=h.up d G z (h.data d) (h.bytes d)
theorem yD (D:List Int)(n:Nat):(yC D n).length=n:=by unfold yC;simp;omega
theorem Kk (D:List Int)(o:Nat)(x:List Int):(xt D o x).length=max D.length (o+x.length):=by unfold xt;simp[yD];omega
theorem Oi{n:Nat}(h:y∈yC D n):y∈D\/y=0:=by
 unfold yC at h;rcases aT.1 h with z|z
 ·exact .inl (bO z)
 ·exact .inr (il z)
theorem VD{o:Nat}{x:List Int}(h:y∈xt D o x):y∈D\/y=0\/y∈x:=by
 unfold xt at h;simp only[aT] at h;rcases h with z|z|z
 ·rcases Oi (bO z) with G|G
  ·exact .inl G
  ·exact .inr (.inl G)
 ·exact .inr (.inr z)
 ·exact .inl (gA z)
theorem pW{e:ByteArray×Int}(h:e∈ja E nm):e∈E:=(List.mem_filter.1 h).1
theorem vM (E:List (ByteArray×Int))(nm:ByteArray):(ja E nm).length<=E.length:=fQ _ _
theorem Hf {x e:ByteArray×Int}:∀{E:List (ByteArray×Int)},e∈xG E x->e=x\/e∈E
 | [],h=> .inl (by simpa[xG] using h)
 |p::E,h=>by
  unfold xG at h;split at h
  ·rcases aL.1 h with z|z
   ·exact .inl z
   ·exact .inr z
  ·rcases aL.1 h with z|z
   ·exact .inr (by rw[z];simp)
   ·rcases Hf z with G|G
    ·exact .inl G
    ·exact .inr (by simp[G])
theorem vN (x:ByteArray×Int):∀E:List (ByteArray×Int),(xG E x).length=E.length+1
 | []=>rfl
 |p::E=>by
  unfold xG;split
  ·rfl
  ·simp[vN x E]
theorem yE{M:Nat->Nd}(h:dw M)(d:Nat)(nm:ByteArray):bg (M d).E nm<0\/(0<=bg (M d).E nm/\∃A B,iP (M d).E A [(nm,bg (M d).E nm)] B nm/\ja (M d).E nm=A++B/\(ja (M d).E nm).length+1=(M d).E.length):=by
 obtain⟨A,X,B,z⟩:=lL (h.rises d) nm;have V:=lM z λq U=>(h.lead d q U).1.1
 rcases Int.lt_or_le (bg (M d).E nm) 0 with G|G
 ·exact .inl G
 ·have J:=V.2 G
  subst J;refine .inr ⟨G,A,B,z,tI z,?_⟩;rw[tI z];have :=cN List.length z.eq;simp at this ⊢;omega
theorem BL{M:Nat->Nd}(h:dw M){d:Nat}{nm:ByteArray}(G:bg (M d).E nm<0):∃A B,iP (M d).E A [] B nm/\∀i,xG (M d).E (nm,i)=A++([(nm,i)]++B):=by
 obtain⟨A,X,B,z⟩:=lL (h.rises d) nm;have U:=(lM z λq J=>(h.lead d q J).1.1).1.1 G;subst U;exact⟨A,B,z,λi=>AJ z i⟩
theorem jb{M:Nat->Nd}(h:dw M){d:Nat}{nm:ByteArray}(V:0<=bg (M d).E nm):Edge M d (bg (M d).E nm).toNat/\(M (bg (M d).E nm).toNat).K≠0/\(((bg (M d).E nm).toNat:Nat):Int)=bg (M d).E nm/\bg (M d).E nm<32:=by
 rcases yE h d nm with U|⟨U,A,B,J,-⟩
 ·omega
 ·have z:Edge M d (bg (M d).E nm).toNat:=⟨(nm,bg (M d).E nm),by
   exact(cN (λl=>(nm,bg (M d).E nm)∈l) J.eq).mpr (by simp),by show bg (M d).E nm=_;omega⟩
  have G:=h.dir z;exact⟨z,G.2.2.1,by omega,by omega⟩
theorem Oj (nm:ByteArray):bg (ja E nm) nm<0:=by
 rw[AF]
 ·omega
 ·intro p h
  have :=(List.mem_filter.1 h).2;simpa using this
theorem nj.del{M:Nat->Nd}(h:nj M)(d:Nat)(nm:ByteArray):nj (oN M d (ja (M d).E nm)):=h.ed d (λe z=>h.names d e (pW z)) (cE (vM _ _) (h.len d))
theorem nj.ins{M:Nat->Nd}(h:nj M)(d:Nat){nm:ByteArray}(G:iy (bl nm)=true)(i:Int)(U:(M d).E.length<24):nj (oN M d (xG (M d).E (nm,i))):=h.ed d (λe z=>by
 rcases Hf z with rfl|J
 ·exact G
 ·exact h.names d e J) (by rw[vN];omega)
theorem Ta{M:Nat->Nd}(h:dw M)(hF:nj M){d:Nat}{nm:ByteArray}(U:0<=bg (M d).E nm)(V:(M (bg (M d).E nm).toNat).E=[]):dw (Cg M d nm)/\nj (Cg M d nm):=by
 rcases yE h d nm with h1|⟨h1,A,B,W,J,hl⟩
 ·omega
 ·obtain⟨z,hk,hc,-⟩:=jb h U
  constructor
  ·have :=h.removed (j:=(bg (M d).E nm).toNat) (nm:=nm) (A:=A) (B:=B) V (by rw[hc];exact W)
   unfold Cg;rw[J];exact this
  ·have G:nj (nv M (bg (M d).E nm).toNat (if (M (bg (M d).E nm).toNat).L=1 then wh else { M (bg (M d).E nm).toNat with L:=(M (bg (M d).E nm).toNat).L-1 })):=by
    refine hF.up _ ?_ ?_ ?_ ?_
    ·split
     ·intro e z;simp[wh] at z
     ·exact hF.names _
    ·split
     ·simp[wh]
     ·exact hF.len _
    ·split
     ·simp[wh]
     ·exact hF.data _
    ·split
     ·intro e z;simp[wh] at z
     ·exact hF.bytes _
   exact G.ed d (λe z=>hF.names d e (pW z)) (cE (vM _ _) (hF.len d))
theorem Tb{M:Nat->Nd}(h:dw M)(hF:nj M){d t i:Nat}{nm nm':ByteArray}(hf:bg (M d).E nm=(i:Int))(ht:(M t).K=2)(hn:bg (M t).E nm'<0\/(d=t/\nm=nm'))(hb:¬kS M i t)(hg:iy (bl nm')=true)(hl:d=t\/(M t).E.length<24):
  dw (Oh M d t i nm nm')/\nj (Oh M d t i nm nm'):=by
 rcases yE h d nm with h1|⟨h1,A,B,hs,hd,ac⟩
 ·omega
 ·rw[hf] at hs
  have hr:yt (oN M d (ja (M d).E nm) t).E:=by
   rw[pd];split
   ·rw[hd];simpa using hs.rises (h.rises d) [] (.inl rfl)
   ·exact h.rises t
  have aa:∀p∈(oN M d (ja (M d).E nm) t).E,0<=p.2:=λp U=>by
   rw[pd] at U;split at U
   ·exact(h.lead d p (pW U)).1.1
   ·exact(h.lead t p U).1.1
  have V:bg (oN M d (ja (M d).E nm) t).E nm'<0:=by
   rw[pd];split
   ·next e=>
    by_cases en:nm=nm'
    ·rw[<-en];exact Oj nm
    ·rcases hn with J|J
     ·rw[AF]
      ·omega
      ·intro p U
       rw[e] at J;intro e2;obtain⟨A2,X2,B2,z⟩:=lL (h.rises d) nm';have W:=(lM z λq hq=>(h.lead d q hq).1.1).1.1 J;subst W;have h5:p∈A2++B2:=by have :=z.eq;rw[bQ] at this;rw[<-this];exact pW U
       rcases aT.1 h5 with h6|h6
       ·exact tD (z.ahead p h6) e2
       ·exact tD (z.behind p h6) e2.symm
     ·exact absurd J.2 en
   ·next e=>
    rcases hn with J|J
    ·exact J
    ·exact absurd J.1.symm e
  obtain⟨A',X,B',G⟩:=lL hr nm';have h3:=(lM G aa).1.1 V;subst h3;have hi:=AJ G (i:Int);constructor
  ·unfold Oh
   rw[hi,hd];rw[hd] at G;exact h.moved hs ht G hb
  ·unfold Oh Kj
   refine(hF.del d nm).ins t hg _ ?_;rw[pd];split
   ·next e=>rw[<-e] at ac ⊢;have :=hF.len d;rw[<-e] at this;omega
   ·next e=>
    rcases hl with W|W
    ·exact absurd W.symm e
    ·exact W
def aex (o:jB):Prop:=∀x∈o.D,0<=x/\x<256
theorem VE{M:Nat->Nd}(h:dw M)(hF:nj M){o:jB}(hK:o.K=0\/o.K=1):dw (He M o).1/\nj (He M o).1:=by
 unfold He;split
 ·exact⟨h,hF⟩
 ·split
  ·exact⟨h,hF⟩
  ·next hp=>
   have z:=pV (M:=M) (p:=o.P) (Decidable.not_not.1 hp);split
   ·exact⟨h,hF⟩
   ·next hn=>
    cases hi:vL M with
    |none=>exact⟨h,hF⟩
    |some i=>
     dsimp only
     split
     ·next hl=>
      obtain⟨U,jG⟩:=Y3 h hi;obtain⟨A,B,W,G⟩:=BL h (d:=(bq M o.P).1) (nm:=aS o.P) (by omega);refine⟨?_,?_⟩
      ·dsimp only
       rw[G];exact h.made z.1 U jG (by omega) W
      ·have J:(bq M o.P).1≠i:=λe=>by
        have :=z.1;rw[e,U] at this;simp[wh] at this
       have h1:nj (nv M i ⟨1+o.K,1,[],[]⟩):=hF.up i (λe G=>by simp at G) (by simp) (by simp) (λe G=>by simp at G);have V:=h1.ins (bq M o.P).1 (nm:=aS o.P) z.2.1 (i:Int) (by rw[dI _ _ J];exact hl);rw[dI _ _ J] at V;exact V
     ·exact⟨h,hF⟩
theorem VF{M:Nat->Nd}(h:dw M)(hF:nj M){o:jB}(W:aex o):dw (BJ M o).1/\nj (BJ M o).1:=by
 unfold BJ;split
 ·exact⟨h,hF⟩
 ·next hw=>
  have U:=nW h (p:=o.P) (Decidable.not_not.1 hw);split
  ·exact⟨h,hF⟩
  ·next hk=>
   have G:(M (cM M o.P).1).K=1:=by
    rcases h.kind (cM M o.P).1 with J|J|J
    ·exact absurd (by rw[J];rfl) U.1
    ·exact J.1
    ·exact absurd J.1 hk
   split
   ·exact⟨h,hF⟩
   ·next hneg=>
    split
    ·exact⟨h,hF⟩
    ·next h3=>
     split
     ·next h4=>
      split
      ·exact⟨h,hF⟩
      ·next hN=>
       refine⟨h.data G _,hF.up _ (hF.names _) (hF.len _) ?_ ?_⟩
       ·show(yC _ _).length<=832
        rw[yD];omega
       ·intro x V
        rcases Oi V with z|z
        ·exact hF.bytes _ x z
        ·omega
     ·split
      ·exact⟨h,hF⟩
      ·next hl=>
       split
       ·exact⟨h,hF⟩
       ·refine⟨h.data G _,hF.up _ (hF.names _) (hF.len _) ?_ ?_⟩
        ·show(xt _ _ _).length<=832
         rw[Kk];have :=hF.data (cM M o.P).1;omega
        ·intro x V
         rcases VD V with z|z|z
         ·exact hF.bytes _ x z
         ·omega
         ·exact W x z
theorem Ol{M:Nat->Nd}(h:dw M)(hF:nj M){o:jB}(J:o.K=5\/o.K=6):dw (uz M o).1/\nj (uz M o).1:=by
 unfold uz;split
 ·exact⟨h,hF⟩
 ·split
  ·exact⟨h,hF⟩
  ·split
   ·exact⟨h,hF⟩
   ·next hf=>
    split
    ·exact⟨h,hF⟩
    ·next h5=>
     split
     ·exact⟨h,hF⟩
     ·next h6=>
      split
      ·exact⟨h,hF⟩
      ·next h7=>
       refine Ta h hF (by omega) ?_;obtain⟨-,U,-⟩:=jb h (d:=(bq M o.P).1) (nm:=aS o.P) (by omega);rcases h.kind (bg (M (bq M o.P).1).E (aS o.P)).toNat with z|z|z
       ·rw[z];rfl
       ·exact z.2
       ·by_cases e:(M (bg (M (bq M o.P).1).E (aS o.P)).toNat).E=[]
        ·exact e
        ·rcases J with G|G
         ·exact absurd ⟨G,z.1⟩ h5
         ·exact absurd ⟨G,e⟩ h7
theorem VG{M:Nat->Nd}(h:dw M)(hF:nj M)(o:jB):dw (Eg M o).1/\nj (Eg M o).1:=by
 unfold Eg;split
 ·exact⟨h,hF⟩
 ·next hw=>
  have U:=nW h (p:=o.P) (Decidable.not_not.1 hw);split
  ·exact⟨h,hF⟩
  ·next hk=>
   have V:(M (cM M o.P).1).K=1:=by
    rcases h.kind (cM M o.P).1 with G|G|G
    ·exact absurd (by rw[G];rfl) U.1
    ·exact G.1
    ·exact absurd G.1 hk
   split
   ·exact⟨h,hF⟩
   ·split
    ·exact⟨h,hF⟩
    ·next hp=>
     have z:=pV (M:=M) (p:=o.Q) (Decidable.not_not.1 hp);split
     ·exact⟨h,hF⟩
     ·next hn=>
      split
      ·exact⟨h,hF⟩
      ·next hl=>
       obtain⟨A,B,hs,he⟩:=BL h (d:=(bq M o.Q).1) (nm:=aS o.Q) (by omega);refine⟨?_,?_⟩
       ·dsimp only
        rw[he];exact h.linked z.1 V hs
       ·have J:(bq M o.Q).1≠(cM M o.P).1:=λe=>by
         have :=z.1;rw[e] at this;omega
        have G:nj (nv M (cM M o.P).1 { M (cM M o.P).1 with L:=(M (cM M o.P).1).L+1 }):=hF.up _ (hF.names _) (hF.len _) (hF.data _) (hF.bytes _);have W:=G.ins (bq M o.Q).1 (nm:=aS o.Q) z.2.1 ((cM M o.P).1:Int) (by rw[dI _ _ J];omega);rw[dI _ _ J] at W;exact W
theorem kS.sub{M M':Nat->Nd}(h:∀a b,Edge M' a b->Edge M a b){d x:Nat}(k:kS M' d x):kS M d x:=kS.mono h k
theorem Y4{M:Nat->Nd}{d:Nat}(J:(M (bg (M d).E nm).toNat).E=[]):
  (∀x,(Cg M d nm x).E=if x=d then ja (M d).E nm else (M x).E)/\(∀x,x≠(bg (M d).E nm).toNat->(Cg M d nm x).K=(M x).K)/\(∀a b,Edge (Cg M d nm) a b->Edge M a b):=by
 have G:∀x,(Cg M d nm x).E=if x=d then ja (M d).E nm else (M x).E:=λx=>by
  unfold Cg ER;rw[pd];by_cases e:x=d
  ·rw[aB e,aB e]
  ·rw[aA e,aA e]
   unfold nv;by_cases h:x=(bg (M d).E nm).toNat
   ·rw[aB h,h,J]
    split
    ·rfl
    ·exact J
   ·rw[aA h]
 refine⟨G,λx V=> ?_,λa b ⟨e,z,U⟩=>⟨e,?_,U⟩⟩
 ·unfold Cg ER
  rw[(yA _ _ _ x).1,dI _ _ V]
 ·rw[G] at z
  split at z
  ·next h=>rw[h];exact pW z
  ·exact z
theorem Om{M:Nat->Nd}(h:dw M)(hF:nj M)(o:jB):dw (uB M o).1/\nj (uB M o).1:=by
 unfold uB;split
 ·exact⟨h,hF⟩
 ·split
  ·exact⟨h,hF⟩
  ·split
   ·exact⟨h,hF⟩
   ·next hf=>
    split
    ·exact⟨h,hF⟩
    ·next hq=>
     have V:=pV (M:=M) (p:=o.Q) (Decidable.not_not.1 hq);split
     ·exact⟨h,hF⟩
     ·next hne=>
      split
      ·exact⟨h,hF⟩
      ·next hc=>
       obtain⟨ak,xI,PC,jG⟩:=jb h (d:=(bq M o.P).1) (nm:=aS o.P) (by omega);generalize (bq M o.P).1=d,(bq M o.Q).1=t,aS o.P=nm,aS o.Q=nm' at *;split
       ·next Oo=>
        obtain⟨ag,ar,av,ai⟩:=jb h (d:=t) (nm:=nm') Oo;split
        ·exact⟨h,hF⟩
        ·next hov=>
         have hE:(M (bg (M t).E nm').toNat).E=[]:=by
          have U:uA M (bg (M d).E nm).toNat (bg (M t).E nm').toNat=0:=Decidable.not_not.1 hov;unfold uA at U;rcases h.kind (bg (M t).E nm').toNat with G|G|G
          ·rw[G];rfl
          ·exact G.2
          ·split at U
           ·omega
           ·split at U
            ·omega
            ·split at U
             ·omega
             ·next h2=>
              by_cases e:(M (bg (M t).E nm').toNat).E=[]
              ·exact e
              ·exact absurd ⟨G.1,e⟩ h2
         obtain⟨aa,af⟩:=Ta h hF Oo hE;obtain⟨kE,kK,kB⟩:=Y4 hE;have aj:(bg (M d).E nm).toNat≠(bg (M t).E nm').toNat:=λe=>hne (by omega)
         have ah:t≠(bg (M t).E nm').toNat:=h.notSelf ag;refine Tb aa af ?_ ?_ ?_ ?_ V.2.1 ?_
         ·rw[kE]
          split
          ·next e=>
           subst e
           -- another name of the same directory
           have ac:nm≠nm':=λe=>by subst e;exact hne rfl
           rw[PC];obtain⟨A,X,B,hs⟩:=lL (h.rises d) nm;have G:=(lM hs λq hq=>(h.lead d q hq).1.1).2 (by omega);have J:(nm,bg (M d).E nm)∈ja (M d).E nm':=by
            refine List.mem_filter.2 ⟨?_,by simpa using ac⟩;have h2:=hs.eq;rw[G] at h2;exact(cN (λl=>(nm,bg (M d).E nm)∈l) h2).mpr (by simp)
           obtain⟨A2,X2,B2,z⟩:=lL (aa.rises d) nm;have Mq:(Cg M d nm' d).E=ja (M d).E nm':=by rw[kE,aB rfl]
           rw[Mq] at z;have h3:=lM z λq hq=>(h.lead d q (pW hq)).1.1
           have h4:X2≠[]:=λe=>by
            subst e;have h5:=z.eq;rw[bQ] at h5;rw[h5] at J;rcases aT.1 J with W|W
            ·exact mG _ (z.ahead _ W)
            ·exact mG _ (z.behind _ W)
           have h5:0<=bg (ja (M d).E nm') nm:=by
            rcases Int.lt_or_le (bg (ja (M d).E nm') nm) 0 with W|W
            ·exact absurd (h3.1.1 W) h4
            ·exact W
           have W:=h3.2 h5
           -- both stand in the same rising list
           have h7:=z.eq;rw[W] at h7;have h8:(nm,bg (M d).E nm)∈A2++([(nm,bg (ja (M d).E nm') nm)]++B2):=h7▸J;simp only[aT,au] at h8;rcases h8 with h9|h9|h9
           ·exact absurd (z.ahead _ h9) (mG _)
           ·exact(cN Prod.snd h9).symm
           ·exact absurd (z.behind _ h9) (mG _)
          ·exact PC.symm
         ·rw[kK t ah];exact V.1
         ·left
          rw[kE,aB rfl];exact Oj nm'
         ·exact λae=>hc (ae.sub kB)
         ·rw[kE,aB rfl]
          rcases yE h t nm' with G|⟨-,A,B,-,-,hl⟩
          ·omega
          ·have :=hF.len t
           right;omega
       ·next Oo=>
        split
        ·exact⟨h,hF⟩
        ·next hl=>
         refine Tb h hF PC.symm V.1 (.inl (by omega)) hc V.2.1 ?_;by_cases e:d=t
         ·exact .inl e
         ·right
          rcases dE (M t).E.length 24 with G|G
          ·exact G
          ·exact absurd ⟨e,G⟩ hl
theorem ab1{M:Nat->Nd}(h:dw M)(hF:nj M){o:jB}(z:aex o):dw (kF M o).1/\nj (kF M o).1:=by
 unfold kF;split
 ·next h0=>exact VE h hF h0
 ·split
  ·exact VF h hF z
  ·split
   ·next h0=>exact Ol h hF h0
   ·split
    ·exact Om h hF o
    ·split
     ·exact VG h hF o
     ·split
      ·exact⟨h,hF⟩
      ·split
       ·exact⟨h,hF⟩
       ·split
        ·exact⟨h,hF⟩
        ·exact⟨h,hF⟩
end
section
variable{a b c i j k:Nat}{A B E M:List (ByteArray×Int)}{nm:ByteArray}{D X:List Int}{y:Int}{p:Int×Int}{n:bT}{own:Nat->List Nat}{ex z:List Nat}{T V:List (bT×Value)}
end
section
variable{a b c i j k:Nat}{A B E M:List (ByteArray×Int)}{nm:ByteArray}{D X:List Int}{y:Int}{p:Int×Int}{n:bT}{own:Nat->List Nat}{ex z:List Nat}{T V:List (bT×Value)}
theorem Kl{u:Bool}(h:p∈eI X b u):816<=p.1.toNat/\p.1.toNat<820:=by
 unfold eI at h;split at h
 ·simp at h
 ·rw[au] at h
  subst h;show 816<=((816+b/64:Nat):Int).toNat/\_;rw[aG];show 816<=816+b/64/\((816+b/64:Nat):Int).toNat<820;rw[aG];omega
theorem tJ (l:List Nat):∀(X:List Int) (p:Int×Int),p∈cj X l->816<=p.1.toNat/\p.1.toNat<820:=by
 induction l with
 |nil=>intro X p h;simp[cj] at h
 |cons b l ih=>
  intro X p h;unfold cj at h;rcases aT.1 h with h|h
  ·exact Kl h
  ·exact ih _ p h
theorem Oq (h:p∈gW b):1080<=p.1.toNat/\(p.1.toNat-1080)/8=b:=by
 unfold gW np at h;obtain⟨j,z,rfl⟩:=bF.1 h;rw[bW] at z;show 1080<=((1080+b*8+j:Nat):Int).toNat/\(((1080+b*8+j:Nat):Int).toNat-1080)/8=b;rw[aG];omega
theorem qD (l:List Nat):∀(X:List Int) (p:Int×Int),p∈dh X l->(816<=p.1.toNat/\p.1.toNat<820)\/(1080<=p.1.toNat/\(p.1.toNat-1080)/8∈l):=by
 induction l with
 |nil=>intro X p h;simp[dh] at h
 |cons b l ih=>
  intro X p h;unfold dh at h;rcases aT.1 h with h|h
  ·rcases aT.1 h with h|h
   ·exact .inl (Kl h)
   ·have :=Oq h
    exact .inr ⟨this.1,by rw[this.2];simp⟩
  ·rcases ih _ p h with z|z
   ·exact .inl z
   ·exact .inr ⟨z.1,by simp[z.2]⟩
theorem Y5{own:List Nat}(_:i<32)(U:cm n)(ho:own.length=dv n){p:Int×Int}(h:p∈I4 X i n own):
  (816<=p.1.toNat/\p.1.toNat<820)\/(824+8*i<=p.1.toNat/\p.1.toNat<824+8*i+8)\/(1080<=p.1.toNat/\(p.1.toNat-1080)/8∈own):=by
 unfold I4 at h;split at h
 ·unfold ng at h
  rcases aT.1 h with h|h
  ·rcases qD _ _ p h with z|z
   ·exact .inl z
   ·exact .inr (.inr z)
  ·rcases aT.1 h with h|h
   ·obtain⟨m,j,G,W,z,-⟩:=vF h
    refine .inr (.inr ⟨by omega,?_⟩);have e:(p.1.toNat-1080)/8=own.getD m 0:=by omega
    rw[e,aj,aD G];exact bG G
   ·obtain⟨j,W,z,-⟩:=mg h
    exact .inr (.inl ⟨by omega,by omega⟩)
 ·rename_i hF
  have vz:dv n=eY n:=aA hF;have V:=jQ U;have J:=wM n;unfold pO at h;rcases aT.1 h with h|h
  ·rcases qD _ _ p h with z|z
   ·exact .inl z
   ·exact .inr (.inr z)
  ·rcases tq (by omega) h with z|z
   ·exact .inr (.inr ⟨z.1,z.2.1⟩)
   ·exact .inr (.inl (by have :=z.1;have :=z.2.1;omega))
theorem zb{own:List Nat}(V:i<32)(G:cm n)(U:z=(aZ (az X (cj X own))).take (dv n))(J:dv n<=(aZ (az X (cj X own))).length){p:Int×Int}(h:p∈mi X i n own):
  (816<=p.1.toNat/\p.1.toNat<820)\/(824+8*i<=p.1.toNat/\p.1.toNat<824+8*i+8)\/(1080<=p.1.toNat/\(p.1.toNat-1080)/8∈z):=by
 unfold mi at h;rcases aT.1 h with h|h
 ·exact .inl (tJ _ _ p h)
 ·subst U
  exact Y5 V G (uw J) h
theorem C9 (l:List Nat):∀X:List Int,In64 X->X.length=3128->dF (az X (cj X l)) 0=dF X 0:=by
 induction l with
 |nil=>intro X _ _;rfl
 |cons b l ih=>
  intro X h z;have G:=iD [b] X h z;unfold cj at G ⊢;have J:cj (az X (eI X b false)) []=[]:=rfl;rw[J,br] at G;rw[bz,ih _ G.1 (by rw[ct,z])];by_cases U:b=0\/256<=b
  ·unfold eI;rw[aB U];rfl
  ·rw[Cu h z b (by omega) (by omega),aA]
theorem Y6 (z:In64 X)(V:X.length=3128){i:Nat}{n:bT}{own:List Nat}(hi:i<32)(hR:cm n)(hn:dv n<=(aZ (az X (cj X own))).length):dF (az X (mi X i n own)) 0=dF X 0:=by
 obtain⟨g1,-,-⟩:=iD own X z V;have U:=C9 own X z V;have hl:=ct (cj X own) X;rw[<-U];unfold mi;rw[bz];generalize az X (cj X own)=Y at *;have W:∀c∈(aZ Y).take (dv n),c≠0/\c<256:=qy;have G:∀qs:List (Int×Int),(∀p∈qs,820<=p.1.toNat)->dF (az Y (dh Y ((aZ Y).take (dv n))++qs)) 0=dF Y 0:=λqs hq=>by
  rw[(GZ g1 (by omega) W hq).1 0 (by omega),aQ (λh=>(W 0 h).1 rfl),Bool.or_false]
 unfold I4;split
 ·unfold ng
  refine G _ λp J=> ?_
  rcases aT.1 J with h|h
  ·obtain⟨m,j,-,-,U,-⟩:=vF h
   omega
  ·obtain⟨j,-,U,-⟩:=mg h
   omega
 ·rename_i hF
  have vz:dv n=eY n:=aA hF;have ac:=jQ hR;have aa:=wM n;have ae:=uw hn;unfold pO;refine G _ λp J=> ?_
  rcases tq (by omega) J with ⟨h,-⟩|⟨h,-⟩<;>omega
def Ja (own:Nat->List Nat) (i:Nat) (o:List Nat):Nat->List Nat:=λj=>if j=i then o else own j
def nI (T:List (bT×Value)) (own:Nat->List Nat) (k:Nat):List Nat:=own k++dm (nT T k)
def nX (T:List (bT×Value)) (i:Nat) (n:bT):List (bT×Value):=T.set i (n,.slice none 0 0)
theorem pX (h:T.length=32){i:Nat}(z:i<32)(n:bT)(j:Nat):nT (nX T i n) j=if i=j then n else nT T j:=aer (by omega) n _ j
theorem Hg (J:T.length=32)(own:Nat->List Nat){i:Nat}(U:i<32)(n:bT)(o:List Nat)(b:Nat):∀k,
  (k<=i->kr (nX T i n) (Ja own i o) k b=kr T own k b)/\(i<k->kr (nX T i n) (Ja own i o) k b+(nI T own i).count b=kr T own k b+(o++dm n).count b):=by
 intro k;induction k with
 |zero=>exact⟨λ_=>rfl,λh=>by omega⟩
 |succ k ih=>
  have e:∀(G:List (bT×Value)) (z:Nat->List Nat),kr G z (k+1) b=kr G z k b+(z k++dm (nT G k)).count b:=λ_ _=>rfl
  refine⟨λh=> ?_,λh=> ?_⟩
  ·rw[e,e,ih.1 (by omega),pX J U,aA,Ja,aA]
  ·rw[e,e]
   by_cases V:k=i
   ·subst V
    rw[ih.1 (by omega),pX J U,aB rfl,Ja,aB rfl];unfold nI;omega
   ·have W:=ih.2 (by omega)
    rw[pX J U,aA,Ja,aA V];omega
theorem Hh:∀m,k<m->(nI T own k).count b<=kr T own m b:=by
 intro m;induction m with
 |zero=>intro h;omega
 |succ m ih=>
  intro h;show _<=kr T own m b+(nI T own m).count b;by_cases e:k=m
  ·subst e;omega
  ·have :=ih (by omega);omega
theorem Tc (z:j<k):∀m,k<m->(nI T own j).count b+(nI T own k).count b<=kr T own m b:=by
 intro m;induction m with
 |zero=>intro h;omega
 |succ m ih=>
  intro h;show _<=kr T own m b+(nI T own m).count b;by_cases e:k=m
  ·subst e
   have :=Hh (T:=T) (own:=own) (b:=b) k z;omega
  ·have :=ih (by omega);omega
structure rA (X:List Int) (T V:List (bT×Value)) (own:Nat->List Nat) (ex:List Nat):Prop where
 len:X.length=3128
 w64:In64 X
 sup:lq X
 gots:rH X T own
 all:wU X T
 once:∀b,b<256->xE V own b+ex.count b<=1/\(dF X b=true↔xE V own b+ex.count b=1)
 exr:∀c∈ex,c≠0/\c<256
 tails:yw X V
 vlen:V.length=32
 vir:∀j,nT V j=nT T j\/nT V j=cg
abbrev StX (X:List Int) (T:List (bT×Value)) (own:Nat->List Nat) (h:List Nat):Prop:=rA X T T own h
theorem rA.each(h:rA X T V own ex){i:Nat}(U:i<32):((nT T i).F≠0/\eH X (i:Int) (nT T i) (own i))\/(dR X (i:Int)/\nT T i=cg/\own i=[]):=by
 rcases h.gots.form i with ⟨J,-,G⟩|⟨J,G,W⟩
 ·exact .inl ⟨J,G⟩
 ·right
  refine⟨?_,G,(W U).1⟩;rcases h.all i U with z|z
  ·exact z
  ·exact absurd J z
theorem VH (z:nT T k=cg)(h:own k=[]):nI T own k=[]:=by
 unfold nI;rw[z,h]
 decide
theorem uC:dm cg=[]:=by decide
theorem rA.rng(h:rA X T V own ex){k c:Nat}(W:k<32)(U:c∈nI V own k):c≠0/\c<256:=by
 rcases h.each W with ⟨-,J⟩|⟨-,J,h2⟩
 ·rcases aT.1 U with z|z
  ·exact J.mem c z
  ·rcases h.vir k with G|G
   ·rw[G] at z;exact qC J.len J.right c z
   ·rw[G,uC] at z;simp at z
 ·rw[VH (by rcases h.vir k with G|G<;>rw[G];exact J) h2] at U;simp at U
theorem rA.used{W:List Nat}(h:rA X T V own W){k c:Nat}(z:k<32)(J:c∈nI V own k):dF X c=true:=by
 have U:=h.rng z J;have G:=h.once c U.2;have h3:=Hh (T:=V) (own:=own) (b:=c) 32 z;have h4:0<(nI V own k).count c:=List.count_pos_iff.2 J;unfold xE at G;exact G.2.2 (by omega)
theorem rA.usedEx(h:rA X T V own z){c:Nat}(G:c∈z):dF X c=true:=by
 have J:=h.once c (h.exr c G).2;have U:0<z.count c:=List.count_pos_iff.2 G;exact J.2.2 (by omega)
theorem rA.apart(h:rA X T V own ex){j k c:Nat}(J:j<32)(W:k<32)(G:j≠k)(U:c∈nI V own j):c∉nI V own k:=λz=>by
 have h1:=h.rng J U;have h2:=(h.once c h1.2).1;have h4:0<(nI V own j).count c:=List.count_pos_iff.2 U;have h5:0<(nI V own k).count c:=List.count_pos_iff.2 z;unfold xE at h2;rcases Nat.lt_or_gt_of_ne G with e|e
 ·have :=Tc (T:=V) (own:=own) (b:=c) e 32 W;omega
 ·have :=Tc (T:=V) (own:=own) (b:=c) e 32 J;omega
theorem rA.apartEx{G:List Nat}(h:rA X T V own G){k c:Nat}(J:k<32)(U:c∈nI V own k):c∉G:=λz=>by
 have h1:=h.rng J U;have W:=(h.once c h1.2).1;have h4:0<(nI V own k).count c:=List.count_pos_iff.2 U;have h5:0<G.count c:=List.count_pos_iff.2 z;have :=Hh (T:=V) (own:=own) (b:=c) 32 J;unfold xE at W;omega
theorem rA.inner(h:rA X T V own ex){k c:Nat}(G:k<32)(U:c∈own k):c∉dm (nT V k):=λz=>by
 have h1:=h.rng G (bV _ U);have W:=(h.once c h1.2).1;have J:=Hh (T:=V) (own:=own) (b:=c) 32 G;have h4:0<(own k).count c:=List.count_pos_iff.2 U;have h5:0<(dm (nT V k)).count c:=List.count_pos_iff.2 z;unfold xE at W;unfold nI at J;rw[fL] at J;omega
theorem vO{Y:List Int}(hB:n.B.length=13)(h:j5 X n)(V:∀c∈dm n,∀j,j<8->Y.getD (1080+8*c+j) 0=X.getD (1080+8*c+j) 0):j5 Y n:=by
 intro U k J G j W z;have hc:(n.B.getD k 0).toNat∈dm n:=by
  unfold dm ey;refine bF.2 ⟨n.B.getD k 0,List.mem_filter.2 ⟨?_,by simpa using G⟩,rfl⟩;rw[aW (by omega),aj,aD (by omega)];exact bG _
 have :=V _ hc (j/8) (by omega);rw[this];exact h U k J G j W z
end
end Go.Proofs.YtepbpdipenedhaaGreatDoor
