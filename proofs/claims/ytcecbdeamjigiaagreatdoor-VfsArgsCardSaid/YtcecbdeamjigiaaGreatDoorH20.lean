/- Lemmas. -/
import Derived.Test.YtcecbdeamjigiaaGreatDoorH19
namespace Go.Proofs.YtcecbdeamjigiaaGreatDoor
open Go.RowKit
variable{a b c i j k:Nat}{A B E M:List (ByteArray×Int)}{nm:ByteArray}{D X:List Int}{U y:List Nat}{p:Int×Int}{n:bM}{own:Nat->List Nat}{T V:List (bM×Value)}
structure Nd where
 K:Int
 L:Int
 D:List Int
 E:List (ByteArray×Int)
def sA:Nd:=⟨0,0,[],[]⟩
def mN (M:Nat->Nd) (i:Nat) (n:Nd):Nat->Nd:=λj=>if j=i then n else M j
theorem ku (M:Nat->Nd)(i:Nat)(n:Nd):mN M i n i=n:=aB rfl
theorem cV (M:Nat->Nd){i j:Nat}(n:Nd)(h:j≠i):mN M i n j=M j:=aA h
def Edge (M:Nat->Nd) (a b:Nat):Prop:=∃e∈(M a).E,e.2=(b:Int)
inductive kG (M:Nat->Nd) (d:Nat):Nat->Prop
 |here:kG M d d
 |step {a b:Nat}:kG M d a->Edge M a b->kG M d b
theorem kG.trans{M:Nat->Nd}(h:kG M a b)(k:kG M b c):kG M a c:=by
 induction k with
 |here=>exact h
 |step _ e ih=>exact ih.step e
theorem kG.mono{M M':Nat->Nd}(h:∀a b,Edge M a b->Edge M' a b){d x:Nat}(k:kG M d x):kG M' d x:=by
 induction k with
 |here=>exact .here
 |step _ e ih=>exact ih.step (h _ _ e)
def pK (E:List (ByteArray×Int)) (i:Nat):Nat:=E.countP λe=>e.2==(i:Int)
theorem jc (A B:List (ByteArray×Int))(i:Nat):pK (A++B) i=pK A i+pK B i:=List.countP_append
theorem tM (nm:ByteArray)(x:Int)(i:Nat):pK [(nm,x)] i=if x=(i:Int) then 1 else 0:=by simp[pK,List.countP_singleton]
theorem Jo (i:Nat):pK [] i=0:=rfl
theorem Cy:0<pK E i↔∃e∈E,e.2=(i:Int):=by simp[pK,List.countP_pos_iff]
def jh (M:Nat->Nd):Nat->Nat->Nat
 |0,_=>0
 |k+1,i=>jh M k i+pK (M k).E i
theorem Cz{M M':Nat->Nd}(h:∀a,a<k->(M' a).E=(M a).E)(i:Nat):jh M' k i=jh M k i:=by
 induction k with
 |zero=>rfl
 |succ k ih=>show _+_=_+_;rw[ih λa y=>h a (by omega),h k (by omega)]
theorem AU (M:Nat->Nd)(d:Nat)(n:Nd)(i:Nat):∀k,d<k->jh (mN M d n) k i+pK (M d).E i=jh M k i+pK n.E i:=by
 intro k;induction k with
 |zero=>intro h;omega
 |succ k ih=>
  intro h;show(jh (mN M d n) k i+pK (mN M d n k).E i)+_=(jh M k i+pK (M k).E i)+_;by_cases e:d=k
  ·subst e
   rw[ku,Cz (M:=M) (M':=mN M d n) (λa y=>by rw[cV M n (by omega)])];omega
  ·rw[cV M n (by omega)]
   have :=ih (by omega);omega
theorem ng{M:Nat->Nd}:0<jh M k i↔∃a,a<k/\Edge M a i:=by
 induction k with
 |zero=>exact⟨λh=>by simp[jh] at h,λ⟨_,h,_⟩=>by omega⟩
 |succ k ih=>
  show 0<jh M k i+pK (M k).E i↔_;constructor
  ·intro h
   rcases eC (jh M k i) with z|z
   ·exact⟨k,by omega,Cy.1 (by omega)⟩
   ·obtain⟨a,G,y⟩:=ih.1 z
    exact⟨a,by omega,y⟩
  ·rintro⟨a,G,y⟩
   by_cases e:a=k
   ·subst e
    have :=Cy.2 y;omega
   ·have :=ih.2 ⟨a,by omega,y⟩
    omega
theorem Jp{M:Nat->Nd}(z:Edge M a i)(G:Edge M c i)(y:a<c):∀k,c<k->2<=jh M k i:=by
 intro k;induction k with
 |zero=>intro h;omega
 |succ k ih=>
  intro h;show 2<=jh M k i+pK (M k).E i;by_cases e:c=k
  ·subst e
   have U:=Cy.2 G;have J:=ng.2 ⟨a,y,z⟩;omega
  ·have :=ih (by omega)
   omega
structure eb (M:Nat->Nd):Prop where
 out:∀i,32<=i->M i=sA
 kind:∀i,M i=sA\/((M i).K=1/\(M i).E=[])\/((M i).K=2/\(M i).D=[])
 root:(M 0).K=2
 lead:∀i,∀e∈(M i).E,(0<=e.2/\e.2<32)/\(M e.2.toNat).K≠0
 rises:∀i,tI (M i).E
 links:∀i,i<32->((M i).K=1->(jh M 32 i:Int)=(M i).L/\1<=jh M 32 i)/\((M i).K=2->(M i).L=1/\(i=0->jh M 32 i=0)/\(i≠0->jh M 32 i=1))
 reach:∀i,(M i).K≠0->kG M 0 i
theorem eb.rng{M:Nat->Nd}(h:eb M){i:Nat}(z:(M i).K≠0):i<32:=by
 rcases dr i 32 with y|y
 ·exact y
 ·exact absurd (by rw[h.out i y];rfl) z
theorem eb.dir{M:Nat->Nd}(h:eb M){a b:Nat}(G:Edge M a b):(M a).K=2/\a<32/\(M b).K≠0/\b<32:=by
 obtain⟨e,z,G⟩:=G;have J:(M a).K=2:=by
  rcases h.kind a with y|⟨-,y⟩|y
  ·rw[y] at z;simp[sA] at z
  ·rw[y] at z;simp at z
  ·exact y.1
 have y:=h.lead a e z;rw[G,aH] at y;exact⟨J,h.rng (by omega),y.2,by omega⟩
theorem eb.parent{M:Nat->Nd}(h:eb M){a c b:Nat}(J:(M b).K=2)(y:Edge M a b)(z:Edge M c b):a=c:=by
 have G:=((h.links b (h.dir y).2.2.2).2 J).2;have U:jh M 32 b<=1:=by
  by_cases e:b=0
  ·rw[G.1 e];omega
  ·rw[G.2 e];omega
 rcases Nat.lt_trichotomy a c with e|e|e
 ·have :=Jp y z e 32 (h.dir z).2.1;omega
 ·exact e
 ·have :=Jp z y e 32 (h.dir y).2.1;omega
theorem eb.noRoot{M:Nat->Nd}(h:eb M){a:Nat}:¬Edge M a 0:=λy=>by
 have G:=((h.links 0 (by omega)).2 h.root).2.1 rfl;have z:=ng.2 ⟨a,(h.dir y).2.1,y⟩;omega
def acK (M:Nat->Nd) (a b:Nat):Prop:=∃c,kG M a c/\Edge M c b
theorem LL{M:Nat->Nd}(h:kG M a b):a=b\/∃c,Edge M a c/\kG M c b:=by
 induction h with
 |here=>exact .inl rfl
 |step h e ih=>
  rcases ih with rfl|⟨c,z,y⟩
  ·exact .inr ⟨_,e,.here⟩
  ·exact .inr ⟨c,z,y.step e⟩
theorem eb.acyclic{M:Nat->Nd}(h:eb M){x:Nat}(W:kG M 0 x):¬acK M x x:=by
 induction W with
 |here=>rintro⟨c,-,U⟩;exact h.noRoot U
 | @step a b _ e ih=>
  rintro⟨c,J,G⟩;have V:(M b).K=2:=by
   rcases LL J with rfl|⟨d,z,-⟩
   ·exact(h.dir G).1
   ·exact(h.dir z).1
  have y:=h.parent V G e;subst y;cases J with
  |here=>exact ih ⟨_,.here,e⟩
  |step z h4=>exact ih ⟨_,(kG.step .here e).trans z,h4⟩
def rX (M:Nat->Nd) (d:Nat) (E:List (ByteArray×Int)):Nat->Nd:=mN M d { M d with E:=E }
theorem nh (M:Nat->Nd)(d:Nat)(E:List (ByteArray×Int))(j:Nat):(rX M d E j).E=if j=d then E else (M j).E:=by
 unfold rX mN;by_cases h:j=d
 ·rw[aB h,aB h]
 ·rw[aA h,aA h]
theorem uR (M:Nat->Nd)(d:Nat)(E:List (ByteArray×Int))(j:Nat):(rX M d E j).K=(M j).K/\(rX M d E j).L=(M j).L/\(rX M d E j).D=(M j).D:=by
 unfold rX mN;by_cases h:j=d
 ·rw[aB h,h];exact⟨rfl,rfl,rfl⟩
 ·rw[aA h];exact⟨rfl,rfl,rfl⟩
theorem xu (M:Nat->Nd){d:Nat}(h:d<32)(E:List (ByteArray×Int))(i:Nat):jh (rX M d E) 32 i+pK (M d).E i=jh M 32 i+pK E i:=AU M d _ i 32 h
def LM (M:Nat->Nd) (d i:Nat) (K:Int) (E:List (ByteArray×Int)):Nat->Nd:=rX (mN M i ⟨K,1,[],[]⟩) d E
theorem eb.noEdge{M:Nat->Nd}(h:eb M){i:Nat}(y:M i=sA)(a:Nat):¬Edge M a i:=λz=>(h.dir z).2.2.1 (by rw[y];rfl)
theorem eb.made{M:Nat->Nd}(h:eb M){d i:Nat}{K:Int}{A B:List (ByteArray×Int)}{nm:ByteArray}(W:(M d).K=2)(G:M i=sA)(jt:i<32)(hK:K=1\/K=2)(hs:gy (M d).E A [] B nm):
  eb (LM M d i K (A++([(nm,(i:Int))]++B))):=by
 have Jq:=h.rng (i:=d) (by omega);have Ty:d≠i:=λe=>by rw[e,G] at W;simp[sA] at W
 have GV:(M d).E=A++B:=hs.eq;have V:∀j,(LM M d i K (A++([(nm,(i:Int))]++B)) j).K=if j=i then K else (M j).K:=λj=>by
  unfold LM;rw[(uR _ _ _ j).1];unfold mN;split<;>rfl
 have kL:∀j,(LM M d i K (A++([(nm,(i:Int))]++B)) j).L=if j=i then 1 else (M j).L:=λj=>by
  unfold LM;rw[(uR _ _ _ j).2.1];unfold mN;split<;>rfl
 have Z:∀j,(LM M d i K (A++([(nm,(i:Int))]++B)) j).E=if j=d then A++([(nm,(i:Int))]++B) else (M j).E:=λj=>by
  unfold LM;rw[nh];by_cases e:j=d
  ·rw[aB e,aB e]
  ·rw[aA e,aA e]
   unfold mN;by_cases z:j=i
   ·rw[aB z,z,G];rfl
   ·rw[aA z]
 have zL:∀a b,Edge M a b->Edge (LM M d i K (A++([(nm,(i:Int))]++B))) a b:=λa b ⟨e,hm,U⟩=>⟨e,by
  rw[Z];split
  ·next z=>rw[z,GV] at hm;rcases aP.1 hm with y|y<;>simp[y]
  ·exact hm,U⟩
 have pk:Edge (LM M d i K (A++([(nm,(i:Int))]++B))) d i:=⟨(nm,(i:Int)),by rw[Z,aB rfl];simp,rfl⟩;have tN:∀j,jh (LM M d i K (A++([(nm,(i:Int))]++B))) 32 j=jh M 32 j+if j=i then 1 else 0:=λj=>by
  have y:=xu (mN M i ⟨K,1,[],[]⟩) Jq (A++([(nm,(i:Int))]++B)) j;have h2:=AU M i ⟨K,1,[],[]⟩ j 32 jt;rw[cV M _ Ty,GV,jc,jc,jc,tM] at y;rw[G,show(sA).E=[] from rfl,Jo] at h2;unfold LM;by_cases e:j=i
  ·subst e;simp only[aB] at y ⊢;omega
  ·rw[aA (by omega)] at y;rw[aA e];omega
 refine⟨λj J=> ?_,λj=> ?_,?_,λj e U=> ?_,λj=> ?_,λj J=> ?_,λj J=> ?_⟩
 ·unfold LM rX
  rw[cV _ _ (by omega),cV _ _ (by omega)];exact h.out j J
 ·unfold LM rX
  by_cases e:j=d
  ·subst e
   rw[ku,cV _ _ Ty];rcases h.kind j with y|y|y
   ·rw[y] at W;simp[sA] at W
   ·omega
   ·exact .inr (.inr ⟨y.1,y.2⟩)
  ·rw[cV _ _ e]
   by_cases z:j=i
   ·subst z
    rw[ku];rcases hK with rfl|rfl
    ·exact .inr (.inl ⟨rfl,rfl⟩)
    ·exact .inr (.inr ⟨rfl,rfl⟩)
   ·rw[cV _ _ z]
    exact h.kind j
 ·rw[V,aA (λe=>by rw[<-e] at G;have :=h.root;rw[G] at this;simp[sA] at this)]
  exact h.root
 ·rw[Z] at U
  have :e∈(M j).E\/e=(nm,(i:Int)):=by
   split at U
   ·next z=>
    rw[z,GV];simp only[aP,au] at U ⊢;rcases U with y|y|y
    ·exact .inl (.inl y)
    ·exact .inr y
    ·exact .inl (.inr y)
   ·exact .inl U
  rcases this with y|rfl
  ·have :=h.lead j e y
   refine⟨this.1,?_⟩;rw[V];split
   ·omega
   ·exact this.2
  ·refine⟨by show(0:Int)<=(i:Int)/\(i:Int)<32;omega,?_⟩
   rw[V,aB (by simp)];omega
 ·rw[Z]
  split
  ·exact hs.rises (h.rises d) _ (.inr ⟨_,rfl⟩)
  ·exact h.rises j
 ·rw[V,kL,tN]
  by_cases e:j=i
  ·subst e
   have h0:jh M 32 j=0:=by
    rcases eC (jh M 32 j) with y|y
    ·exact y
    ·obtain⟨a,-,ha⟩:=ng.1 y
     exact absurd ha (h.noEdge G a)
   have zi:j≠0:=λe=>by subst e;have :=h.root;rw[G] at this;simp[sA] at this
   simp only[aB,h0];exact⟨λ_=>⟨by first|rfl|trivial,by omega⟩,λ_=>⟨trivial,λh2=>absurd h2 zi,λ_=>by first|rfl|trivial⟩⟩
  ·simp only[aA e,dH]
   exact h.links j J
 ·rw[V] at J
  by_cases e:j=i
  ·subst e
   exact((h.reach d (by omega)).mono zL).step pk
  ·rw[aA e] at J
   exact(h.reach j J).mono zL
def PA (M:Nat->Nd) (d i:Nat) (E:List (ByteArray×Int)):Nat->Nd:=rX (mN M i { M i with L:=(M i).L+1 }) d E
theorem eb.linked{M:Nat->Nd}(h:eb M){d i:Nat}{A B:List (ByteArray×Int)}{nm:ByteArray}(V:(M d).K=2)(W:(M i).K=1)(hs:gy (M d).E A [] B nm):
  eb (PA M d i (A++([(nm,(i:Int))]++B))):=by
 have Jq:=h.rng (i:=d) (by omega);have jt:=h.rng (i:=i) (by omega);have Ty:d≠i:=λe=>by rw[e] at V;omega
 have GV:(M d).E=A++B:=hs.eq;have U:∀j,(PA M d i (A++([(nm,(i:Int))]++B)) j).K=(M j).K:=λj=>by
  unfold PA;rw[(uR _ _ _ j).1];unfold mN;split
  ·next e=>rw[e]
  ·rfl
 have kL:∀j,(PA M d i (A++([(nm,(i:Int))]++B)) j).L=(M j).L+if j=i then 1 else 0:=λj=>by
  unfold PA;rw[(uR _ _ _ j).2.1];unfold mN;split
  ·next e=>rw[e]
  ·simp
 have kE:∀j,(PA M d i (A++([(nm,(i:Int))]++B)) j).E=if j=d then A++([(nm,(i:Int))]++B) else (M j).E:=λj=>by
  unfold PA;rw[nh];by_cases e:j=d
  ·rw[aB e,aB e]
  ·rw[aA e,aA e]
   unfold mN;split
   ·next z=>rw[z]
   ·rfl
 have zL:∀a b,Edge M a b->Edge (PA M d i (A++([(nm,(i:Int))]++B))) a b:=λa b ⟨e,Z,G⟩=>⟨e,by
  rw[kE];split
  ·next z=>rw[z,GV] at Z;rcases aP.1 Z with y|y<;>simp[y]
  ·exact Z,G⟩
 have tN:∀j,jh (PA M d i (A++([(nm,(i:Int))]++B))) 32 j=jh M 32 j+if j=i then 1 else 0:=λj=>by
  have h0:({ M i with L:=(M i).L+1 }:Nd).E=(M i).E:=rfl;unfold PA;generalize ({ M i with L:=(M i).L+1 }:Nd)=n0 at *;have y:=xu (mN M i n0) Jq (A++([(nm,(i:Int))]++B)) j;have h2:=AU M i n0 j 32 jt;rw[cV M _ Ty,GV,jc,jc,jc,tM] at y;rw[h0] at h2;by_cases e:j=i
  ·subst e;simp only[aB] at y ⊢;omega
  ·rw[aA (by omega)] at y;rw[aA e];omega
 refine⟨λj J=> ?_,λj=> ?_,?_,λj e G=> ?_,λj=> ?_,λj J=> ?_,λj J=> ?_⟩
 ·unfold PA rX
  rw[cV _ _ (by omega),cV _ _ (by omega)];exact h.out j J
 ·unfold PA rX
  by_cases e:j=d
  ·subst e
   rw[ku,cV _ _ Ty];rcases h.kind j with y|y|y
   ·rw[y] at V;simp[sA] at V
   ·omega
   ·exact .inr (.inr ⟨y.1,y.2⟩)
  ·rw[cV _ _ e]
   by_cases z:j=i
   ·subst z
    rw[ku];rcases h.kind j with y|y|y
    ·rw[y] at W;simp[sA] at W
    ·exact .inr (.inl ⟨y.1,y.2⟩)
    ·omega
   ·rw[cV _ _ z]
    exact h.kind j
 ·rw[U]
  exact h.root
 ·rw[kE] at G
  have :e∈(M j).E\/e=(nm,(i:Int)):=by
   split at G
   ·next z=>
    rw[z,GV];simp only[aP,au] at G ⊢;rcases G with y|y|y
    ·exact .inl (.inl y)
    ·exact .inr y
    ·exact .inl (.inr y)
   ·exact .inl G
  rw[U];rcases this with y|rfl
  ·exact h.lead j e y
  ·refine⟨by show(0:Int)<=(i:Int)/\(i:Int)<32;omega,?_⟩
   show(M (i:Int).toNat).K≠0;rw[aH];omega
 ·rw[kE]
  split
  ·exact hs.rises (h.rises d) _ (.inr ⟨_,rfl⟩)
  ·exact h.rises j
 ·rw[U,kL,tN]
  have y:=h.links j J;by_cases e:j=i
  ·subst e
   simp only[aB];exact⟨λ_=>⟨by have :=(y.1 W).1;omega,by omega⟩,λh2=>by omega⟩
  ·simp only[aA e,dH,Int.add_zero]
   exact y
 ·rw[U] at J
  exact(h.reach j J).mono zL
def C8 (M:Nat->Nd) (d j:Nat) (E:List (ByteArray×Int)):Nat->Nd:=rX (mN M j (if (M j).L=1 then sA else { M j with L:=(M j).L-1 })) d E
theorem gy.leads(h:gy E A [(nm,(j:Int))] B nm):∃e∈E,e.2=(j:Int):=⟨(nm,(j:Int)),by rw[h.eq];simp,rfl⟩
theorem eb.notSelf{M:Nat->Nd}(h:eb M){d j:Nat}(y:Edge M d j):d≠j:=λe=>by
 subst e;exact h.acyclic (h.reach d (h.dir y).2.2.1) ⟨d,.here,y⟩
theorem eb.removed{M:Nat->Nd}(h:eb M){d j:Nat}{A B:List (ByteArray×Int)}{nm:ByteArray}(hj:(M j).E=[])(hs:gy (M d).E A [(nm,(j:Int))] B nm):
  eb (C8 M d j (A++B)):=by
 have ac:Edge M d j:=hs.leads;obtain⟨hd,Jq,aa,WK⟩:=h.dir ac;have ag:=h.notSelf ac;have GV:(M d).E=A++([(nm,(j:Int))]++B):=hs.eq;have zi:j≠0:=λe=>by subst e;exact h.noRoot ac
 have C4:1<=jh M 32 j:=ng.2 ⟨d,Jq,ac⟩
 -- one link left, or a file with more
 have hL:((M j).L=1/\jh M 32 j=1)\/((M j).K=1/\(M j).L≠1/\(jh M 32 j:Int)=(M j).L/\2<=jh M 32 j):=by
  have y:=h.links j WK;rcases h.kind j with W|W|W
  ·rw[W] at aa;simp[sA] at aa
  ·have h3:=(y.1 W.1).1
   by_cases e:(M j).L=1
   ·exact .inl ⟨e,by omega⟩
   ·exact .inr ⟨W.1,e,h3,by omega⟩
  ·exact .inl ⟨(y.2 W.1).1,(y.2 W.1).2.2 zi⟩
 have kk:∀x,(C8 M d j (A++B) x).K=if x=j/\(M j).L=1 then 0 else (M x).K:=λx=>by
  unfold C8;rw[(uR _ _ _ x).1];unfold mN;by_cases e:x=j
  ·rw[aB e]
   by_cases z:(M j).L=1
   ·rw[aB z,aB ⟨e,z⟩];rfl
   ·rw[aA z,aA (λh=>z h.2),e]
  ·rw[aA e,aA (λh=>e h.1)]
 have kE:∀x,(C8 M d j (A++B) x).E=if x=d then A++B else (M x).E:=λx=>by
  unfold C8;rw[nh];by_cases e:x=d
  ·rw[aB e,aB e]
  ·rw[aA e,aA e]
   unfold mN;by_cases z:x=j
   ·rw[aB z,z,hj]
    split
    ·rfl
    ·exact hj
   ·rw[aA z]
 have zL:∀a b,b≠j->Edge M a b->Edge (C8 M d j (A++B)) a b:=λa b hb ⟨e,G,J⟩=>⟨e,by
  rw[kE];split
  ·next z=>
   rw[z,GV] at G;simp only[aP,au] at G ⊢;rcases G with y|y|y
   ·exact .inl y
   ·rw[y] at J
    have :(j:Int)=(b:Int):=J;omega
   ·exact .inr y
  ·exact G,J⟩
 have V:∀a b,Edge (C8 M d j (A++B)) a b->Edge M a b:=λa b ⟨e,G,J⟩=>⟨e,by
  rw[kE] at G;split at G
  ·next z=>rw[z,GV];rcases aP.1 G with y|y<;>simp[y]
  ·exact G,J⟩
 have tN:∀x,jh (C8 M d j (A++B)) 32 x+(if x=j then 1 else 0)=jh M 32 x:=λx=>by
  have h3:pK (if (M j).L=1 then sA else { M j with L:=(M j).L-1 }).E x=0:=by
   split
   ·rfl
   ·show pK (M j).E x=0;rw[hj];rfl
  unfold C8;generalize (if (M j).L=1 then sA else { M j with L:=(M j).L-1 })=n0 at *;have y:=xu (mN M j n0) Jq (A++B) x;have W:=AU M j n0 x 32 WK;rw[cV M _ ag,GV,jc,jc,jc,tM] at y;rw[hj,h3,Jo] at W;by_cases e:x=j
  ·subst e;simp only[aB] at y ⊢;omega
  ·rw[aA (by omega)] at y;rw[aA e];omega
 have ah:∀a,¬Edge M j a:=λa ⟨e,G,_⟩=>by rw[hj] at G;simp at G
 have Yf:∀x,kG M 0 x->x≠j->kG (C8 M d j (A++B)) 0 x:=λx U=>by
  induction U with
  |here=>exact λ_=> .here
  | @step a b _ J ih=>exact λhb=>(ih λe=>by subst e;exact ah _ J).step (zL _ _ hb J)
 refine⟨λx U=> ?_,λx=> ?_,?_,λx e J=> ?_,λx=> ?_,λx U=> ?_,λx U=> ?_⟩
 ·unfold C8 rX
  rw[cV _ _ (by omega),cV _ _ (by omega)];exact h.out x U
 ·unfold C8 rX
  by_cases e:x=d
  ·subst e
   rw[ku,cV _ _ ag];rcases h.kind x with y|y|y
   ·rw[y] at hd;simp[sA] at hd
   ·omega
   ·exact .inr (.inr ⟨y.1,y.2⟩)
  ·rw[cV _ _ e]
   by_cases z:x=j
   ·subst z
    rw[ku];split
    ·exact .inl rfl
    ·rcases h.kind x with y|y|y
     ·rw[y] at aa;simp[sA] at aa
     ·exact .inr (.inl ⟨y.1,y.2⟩)
     ·exact .inr (.inr ⟨y.1,y.2⟩)
   ·rw[cV _ _ z]
    exact h.kind x
 ·rw[kk,aA (λe=>zi e.1.symm)]
  exact h.root
 ·have G:e∈(M x).E:=by
   rw[kE] at J;split at J
   ·next z=>rw[z,GV];rcases aP.1 J with y|y<;>simp[y]
   ·exact J
  have y:=h.lead x e G;refine⟨y.1,?_⟩;rw[kk];rw[aA]
  ·exact y.2
  ·rintro⟨e1,z⟩
   have h3:Edge (C8 M d j (A++B)) x j:=⟨e,J,by omega⟩;have ai:x<32:=(h.dir (V _ _ h3)).2.1;have h4:=ng.2 ⟨x,ai,h3⟩;have h5:=tN j;rw[aB rfl] at h5;rcases hL with Z|Z<;>omega
 ·rw[kE]
  split
  ·have :=hs.rises (h.rises d) [] (.inl rfl)
   simpa using this
  ·exact h.rises x
 ·have h5:=tN x
  by_cases e:x=j
  ·subst e
   rw[aB rfl] at h5;rcases hL with Z|Z
   ·rw[kk,aB ⟨rfl,Z.1⟩]
    exact⟨λh=>by omega,λh=>by omega⟩
   ·rw[kk,aA (λh=>Z.2.1 h.2)]
    have ae:(C8 M d x (A++B) x).L=(M x).L-1:=by
     unfold C8;rw[(uR _ _ _ x).2.1,ku,aA Z.2.1]
    rw[ae];exact⟨λ_=>⟨by omega,by omega⟩,λh=>by omega⟩
  ·rw[aA e] at h5
   have ae:(C8 M d j (A++B) x).L=(M x).L:=by
    unfold C8;rw[(uR _ _ _ x).2.1,cV _ _ e]
   rw[kk,aA (λh=>e h.1),ae,show jh (C8 M d j (A++B)) 32 x=jh M 32 x by omega];exact h.links x U
 ·by_cases e:x=j
  ·subst e
   rw[kk] at U;have h5:=tN x;rw[aB rfl] at h5;rcases hL with Z|Z
   ·rw[aB ⟨rfl,Z.1⟩] at U;exact absurd rfl U
   ·obtain⟨a,ha,af⟩:=ng.1 (show 0<jh (C8 M d x (A++B)) 32 x by omega)
    have h7:=V _ _ af;exact(Yf a (h.reach a (by have :=(h.dir h7).1;omega)) (h.notSelf h7)).step af
  ·rw[kk,aA (λh=>e h.1)] at U
   exact Yf x (h.reach x U) e
def Gp (M:Nat->Nd) (d t:Nat) (E h:List (ByteArray×Int)):Nat->Nd:=rX (rX M d E) t h
theorem eb.moved{M:Nat->Nd}(h:eb M){d t i:Nat}{A B V U:List (ByteArray×Int)}{nm J:ByteArray}(hs:gy (M d).E A [(nm,(i:Int))] B nm)(ht:(M t).K=2)(aa:gy (rX M d (A++B) t).E V [] U J)
  (hb:¬kG M i t):eb (Gp M d t (A++B) (V++([(J,(i:Int))]++U))):=by
 have ah:Edge M d i:=hs.leads;obtain⟨hd,Jq,ae,jt⟩:=h.dir ah;have af:=h.rng (i:=t) (by omega);have GV:(M d).E=A++([(nm,(i:Int))]++B):=hs.eq;have W:(rX M d (A++B) t).E=V++U:=aa.eq;have kk:∀x,(Gp M d t (A++B) (V++([(J,(i:Int))]++U)) x).K=(M x).K/\(Gp M d t (A++B) (V++([(J,(i:Int))]++U)) x).L=(M x).L/\(Gp M d t (A++B) (V++([(J,(i:Int))]++U)) x).D=(M x).D:=λx=>by
  have z:=uR (rX M d (A++B)) t (V++([(J,(i:Int))]++U)) x;have h2:=uR M d (A++B) x;exact⟨z.1.trans h2.1,z.2.1.trans h2.2.1,z.2.2.trans h2.2.2⟩
 have e1:∀a b,Edge M a b->Edge (rX M d (A++B)) a b\/(a=d/\b=i):=λa b ⟨e,hm,G⟩=>by
  by_cases e2:a=d
  ·rw[e2,GV] at hm
   simp only[aP,au] at hm;rcases hm with z|z|z
   ·exact .inl ⟨e,by rw[nh,aB e2];simp[z],G⟩
   ·right
    rw[z] at G;have h2:(i:Int)=(b:Int):=G;exact⟨e2,by omega⟩
   ·exact .inl ⟨e,by rw[nh,aB e2];simp[z],G⟩
  ·exact .inl ⟨e,by rw[nh,aA e2];exact hm,G⟩
 have e2:∀a b,Edge (rX M d (A++B)) a b->Edge (Gp M d t (A++B) (V++([(J,(i:Int))]++U))) a b:=λa b ⟨e,hm,G⟩=>⟨e,by
  unfold Gp;rw[nh];split
  ·next e3=>rw[e3,W] at hm;rcases aP.1 hm with z|z<;>simp[z]
  ·exact hm,G⟩
 have e3:Edge (Gp M d t (A++B) (V++([(J,(i:Int))]++U))) t i:=⟨(J,(i:Int)),by unfold Gp;rw[nh,aB rfl];simp,rfl⟩;have tN:∀x,jh (Gp M d t (A++B) (V++([(J,(i:Int))]++U))) 32 x=jh M 32 x:=λx=>by
  have z:=xu M Jq (A++B) x;have h2:=xu (rX M d (A++B)) af (V++([(J,(i:Int))]++U)) x;rw[GV,jc,jc,jc,tM] at z;rw[W,jc,jc,jc,tM] at h2;unfold Gp;omega
 have ag:∀x,kG M 0 x->¬kG M i x->kG (Gp M d t (A++B) (V++([(J,(i:Int))]++U))) 0 x:=λx Z=>by
  induction Z with
  |here=>exact λ_=> .here
  | @step a b _ G ih=>
   intro hn;rcases e1 _ _ G with z|⟨-,z⟩
   ·exact(ih λhc=>hn (hc.step G)).step (e2 _ _ z)
   ·rw[z] at hn;exact absurd kG.here hn
 have ac:kG (Gp M d t (A++B) (V++([(J,(i:Int))]++U))) 0 i:=(ag t (h.reach t (by omega)) hb).step e3;refine⟨λx Z=> ?_,λx=> ?_,?_,λx e G=> ?_,λx=> ?_,λx Z=> ?_,λx Z=> ?_⟩
 ·unfold Gp rX
  rw[cV _ _ (by omega),cV _ _ (by omega)];exact h.out x Z
 ·obtain⟨k1,k2,k3⟩:=kk x
  by_cases ex:x=d\/x=t
  ·right;right
   rw[k1,k3];have :(M x).K=2:=by rcases ex with rfl|rfl<;>assumption
   refine⟨this,?_⟩;rcases h.kind x with z|z|z
   ·rw[z] at this;simp[sA] at this
   ·omega
   ·exact z.2
  ·have :Gp M d t (A++B) (V++([(J,(i:Int))]++U)) x=M x:=by
    unfold Gp rX;rw[cV _ _ (λe=>ex (.inr e)),cV _ _ (λe=>ex (.inl e))]
   rw[this];exact h.kind x
 ·rw[(kk 0).1];exact h.root
 ·rw[(kk _).1]
  have :e∈(M x).E\/e=(J,(i:Int)):=by
   unfold Gp at G;have Hv:∀y,∀e∈(rX M d (A++B) y).E,e∈(M y).E:=λy e G=>by
    rw[nh] at G;split at G
    ·next e4=>rw[e4,GV];rcases aP.1 G with z|z<;>simp[z]
    ·exact G
   rw[nh] at G;split at G
   ·next e4=>
    simp only[aP,au] at G;rcases G with z|z|z
    ·exact .inl (Hv x e (by rw[e4,W];simp[z]))
    ·exact .inr z
    ·exact .inl (Hv x e (by rw[e4,W];simp[z]))
   ·exact .inl (Hv x e G)
  rcases this with z|rfl
  ·exact h.lead x e z
  ·refine⟨by show(0:Int)<=(i:Int)/\(i:Int)<32;omega,?_⟩
   show(M (i:Int).toNat).K≠0;rw[aH];exact ae
 ·have hr:∀y,tI (rX M d (A++B) y).E:=λy=>by
   rw[nh];split
   ·have :=hs.rises (h.rises d) [] (.inl rfl)
    simpa using this
   ·exact h.rises y
  unfold Gp;rw[nh];split
  ·exact aa.rises (hr t) _ (.inr ⟨_,rfl⟩)
  ·exact hr x
 ·rw[(kk x).1,(kk x).2.1,tN]
  exact h.links x Z
 ·rw[(kk x).1] at Z
  have ai:=h.reach x Z;clear Z;induction ai with
  |here=>exact .here
  | @step a b ha G ih=>
   rcases e1 _ _ G with z|⟨-,z⟩
   ·exact ih.step (e2 _ _ z)
   ·rw[z];exact ac
theorem eb.data{M:Nat->Nd}(h:eb M){i:Nat}(U:(M i).K=1)(D:List Int):eb (mN M i { M i with D:=D }):=by
 have y:∀x,(mN M i { M i with D:=D } x).K=(M x).K/\(mN M i { M i with D:=D } x).L=(M x).L/\(mN M i { M i with D:=D } x).E=(M x).E:=λx=>by
  unfold mN;split
  ·next e=>rw[e];exact⟨rfl,rfl,rfl⟩
  ·exact⟨rfl,rfl,rfl⟩
 have V:∀x,jh (mN M i { M i with D:=D }) 32 x=jh M 32 x:=λx=>Cz (λa _=>(y a).2.2) x
 have W:∀a b,Edge M a b->Edge (mN M i { M i with D:=D }) a b:=λa b ⟨e,Z,J⟩=>⟨e,by rw[(y a).2.2];exact Z,J⟩
 have jt:=h.rng (i:=i) (by omega);refine⟨λx z=>by rw[cV _ _ (by omega)];exact h.out x z,λx=> ?_,by rw[(y 0).1];exact h.root,λx e J=> ?_,λx=>by rw[(y x).2.2];exact h.rises x,λx z=> ?_,λx z=> ?_⟩
 ·by_cases e:x=i
  ·subst e
   rw[ku];rcases h.kind x with G|G|G
   ·rw[G] at U;simp[sA] at U
   ·exact .inr (.inl ⟨G.1,G.2⟩)
   ·omega
  ·rw[cV _ _ e];exact h.kind x
 ·rw[(y x).2.2] at J
  rw[(y _).1];exact h.lead x e J
 ·rw[(y x).1,(y x).2.1,V]
  exact h.links x z
 ·rw[(y x).1] at z
  exact(h.reach x z).mono W
theorem jk (h:gy E A M B nm)(J:∀p∈E,0<=p.2):(bZ E nm<0↔M=[])/\(0<=bZ E nm->M=[(nm,bZ E nm)]):=by
 have G:bZ E nm=bZ (M++B) nm:=by
  rw[h.eq,yI A _ nm λp z=>rE (h.ahead p z)]
 rcases h.one with rfl|⟨i,rfl⟩
 ·have y:bZ E nm= -1:=by
   rw[G,bW];exact vO B nm λp z e=>rE (h.behind p z) e.symm
  rw[y];exact⟨⟨λ_=>rfl,λ_=>by omega⟩,λh=>by omega⟩
 ·have y:bZ E nm=i:=by
   rw[G];show(if nm=nm then i else _)=i;rw[aB rfl]
  have U:0<=i:=J (nm,i) (by rw[h.eq];simp);rw[y];exact⟨⟨λh=>by omega,λh=>by simp at h⟩,λ_=>rfl⟩
def tO:List (ByteArray×Int)->ByteArray×Int->List (ByteArray×Int)
 | [],x=>[x]
 |p::E,x=>if Op.bytesLess x.1.toList p.1.toList=true then x::p::E else p::tO E x
theorem vR (h:gy E A [] B nm)(i:Int):tO E (nm,i)=A++([(nm,i)]++B):=by
 have z:∀(A B:List (ByteArray×Int)),(∀p∈A,EM p.1 nm)->(∀p∈B,EM nm p.1)->tO (A++B) (nm,i)=A++([(nm,i)]++B):=by
  intro A;induction A with
  |nil=>
   intro B _ y;cases B with
   |nil=>rfl
   |cons p B=>
    show(if Op.bytesLess nm.toList p.1.toList=true then _ else _)=_;rw[aB (show Op.bytesLess nm.toList p.1.toList=true from y p (by simp))];rfl
  |cons p A ih=>
   intro B G y;show(if Op.bytesLess nm.toList p.1.toList=true then _ else p::tO (A++B) (nm,i))=_;rw[aA,ih B (λq V=>G q (by simp[V])) y]
   ·rfl
   ·intro U
    exact jP _ (qB (G p (by simp)) U)
 have J:E=A++B:=h.eq;rw[J];exact z A B h.ahead h.behind
def kv (E:List (ByteArray×Int)) (nm:ByteArray):List (ByteArray×Int):=E.filter λp=>decide (p.1≠nm)
theorem rF (h:gy E A M B nm):kv E nm=A++B:=by
 have G:kv A nm=A:=List.filter_eq_self.2 λp y=>by
  have :p.1≠nm:=rE (h.ahead p y);simpa using this
 have z:kv B nm=B:=List.filter_eq_self.2 λp y=>by
  have :p.1≠nm:=λe=>rE (h.behind p y) e.symm
  simpa using this
 have U:kv M nm=[]:=by
  rcases h.one with rfl|⟨i,rfl⟩
  ·rfl
  ·simp[kv]
 have J:kv E nm=kv A nm++(kv M nm++kv B nm):=by
  rw[h.eq];simp[kv]
 rw[J,G,z,U];rfl
structure qR where
 K:Int
 P:List ByteArray
 Q:List ByteArray
 O:Int
 N:Int
 D:List Int
structure kX where
 E:Int
 N:Int
 K:Int
 L:Int
 I:Int
 D:List Int
 S:List (ByteArray×Int)
def nG:kX:=⟨0,0,0,0,0,[],[]⟩
def fH (e:Int):kX:={ nG with E:=e }
def j6 (l:List ByteArray):Bool:=l.all λs=>fN (bl s)
def gG (M:Nat->Nd):Nat->List ByteArray->Nat×Int
 |a,[]=>(a,0)
 |a,p::ps=>if (M a).K=2 then (if bZ (M a).E p<0 then (0,2) else gG M (bZ (M a).E p).toNat ps) else (0,4)
def ib (M:Nat->Nd) (p:List ByteArray):Nat×Int:=if j6 p=true then gG M 0 p else (0,1)
def dh (M:Nat->Nd) (p:List ByteArray):Nat×Int:=
 if p=[]\/j6 p=false then (0,1) else
  if (gG M 0 p.dropLast).2=0/\(M (gG M 0 p.dropLast).1).K≠2 then (0,4) else gG M 0 p.dropLast
def ct (p:List ByteArray):ByteArray:=p.getLastD ByteArray.empty
def qC (M:Nat->Nd):Option Nat:=(List.range 32).find? λi=>(M i).K==0
def vS (D:List Int) (n:Nat):List Int:=D.take n++List.replicate (n-D.length) 0
def uS (D:List Int) (o:Nat) (x:List Int):List Int:=(vS D (max D.length (o+x.length))).take o++(x++D.drop (o+x.length))
def CA (M:Nat->Nd) (o:qR):(Nat->Nd)×kX:=
 if o.P=[] then (M,fH 3) else
 if (dh M o.P).2≠0 then (M,fH (dh M o.P).2) else
 if 0<=bZ (M (dh M o.P).1).E (ct o.P) then (M,fH 3) else
 match qC M with
 |none=>(M,fH 7)
 |some i=>if (M (dh M o.P).1).E.length<24 then (LM M (dh M o.P).1 i (1+o.K) (tO (M (dh M o.P).1).E (ct o.P,(i:Int))),{ nG with N:=(i:Int) }) else (M,fH 7)
def Nb (M:Nat->Nd) (o:qR):(Nat->Nd)×kX:=
 if (ib M o.P).2≠0 then (M,fH (ib M o.P).2) else
 if (M (ib M o.P).1).K=2 then (M,fH 5) else
 if (o.K≠4/\o.O<0)\/(o.K≠2/\o.N<0) then (M,fH 1) else
 if o.K=3 then (M,{ nG with D:=((M (ib M o.P).1).D.drop o.O.toNat).take o.N.toNat }) else
 if o.K=4 then
  if 832<o.N then (M,fH 8) else (mN M (ib M o.P).1 { M (ib M o.P).1 with D:=vS (M (ib M o.P).1).D o.N.toNat },nG)
 else
  if 832<o.O\/(832:Int)-o.O<o.D.length then (M,fH 8) else
  if o.D=[] then (M,nG) else
   (mN M (ib M o.P).1 { M (ib M o.P).1 with D:=uS (M (ib M o.P).1).D o.O.toNat o.D },{ nG with N:=(o.D.length:Int) })
def QT (M:Nat->Nd) (d:Nat) (nm:ByteArray):Nat->Nd:=C8 M d (bZ (M d).E nm).toNat (kv (M d).E nm)
def AV (M:Nat->Nd) (o:qR):(Nat->Nd)×kX:=
 if o.P=[]/\o.K=5 then (M,fH 5) else
 if (dh M o.P).2≠0 then (M,fH (dh M o.P).2) else
 if bZ (M (dh M o.P).1).E (ct o.P)<0 then (M,fH 2) else
 if o.K=5/\(M (bZ (M (dh M o.P).1).E (ct o.P)).toNat).K=2 then (M,fH 5) else
 if o.K=6/\(M (bZ (M (dh M o.P).1).E (ct o.P)).toNat).K≠2 then (M,fH 4) else
 if o.K=6/\(M (bZ (M (dh M o.P).1).E (ct o.P)).toNat).E≠[] then (M,fH 6) else
 (QT M (dh M o.P).1 (ct o.P),nG)
def Nc (M:Nat->Nd) (i j:Nat):Int:=
 if (M i).K=1/\(M j).K=2 then 5 else if (M i).K=2/\(M j).K=1 then 4 else if (M j).K=2/\(M j).E≠[] then 6 else 0
def goM (M:Nat->Nd) (d t i:Nat) (nm h:ByteArray):Nat->Nd:=
 Gp M d t (kv (M d).E nm) (tO (rX M d (kv (M d).E nm) t).E (h,(i:Int)))
open Classical in
noncomputable def AW (M:Nat->Nd) (o:qR):(Nat->Nd)×kX:=
 if o.P=[]\/o.Q=[] then (M,fH 1) else
 if (dh M o.P).2≠0 then (M,fH (dh M o.P).2) else
 if bZ (M (dh M o.P).1).E (ct o.P)<0 then (M,fH 2) else
 if (dh M o.Q).2≠0 then (M,fH (dh M o.Q).2) else
 if bZ (M (dh M o.Q).1).E (ct o.Q)=bZ (M (dh M o.P).1).E (ct o.P) then (M,nG) else
 if kG M (bZ (M (dh M o.P).1).E (ct o.P)).toNat (dh M o.Q).1 then (M,fH 11) else
 if 0<=bZ (M (dh M o.Q).1).E (ct o.Q) then
  if Nc M (bZ (M (dh M o.P).1).E (ct o.P)).toNat (bZ (M (dh M o.Q).1).E (ct o.Q)).toNat≠0 then
   (M,fH (Nc M (bZ (M (dh M o.P).1).E (ct o.P)).toNat (bZ (M (dh M o.Q).1).E (ct o.Q)).toNat)) else
   (goM (QT M (dh M o.Q).1 (ct o.Q)) (dh M o.P).1 (dh M o.Q).1 (bZ (M (dh M o.P).1).E (ct o.P)).toNat (ct o.P) (ct o.Q),nG)
 else
  if (dh M o.P).1≠(dh M o.Q).1/\24<=(M (dh M o.Q).1).E.length then (M,fH 7) else
   (goM M (dh M o.P).1 (dh M o.Q).1 (bZ (M (dh M o.P).1).E (ct o.P)).toNat (ct o.P) (ct o.Q),nG)
def Nf (M:Nat->Nd) (o:qR):(Nat->Nd)×kX:=
 if (ib M o.P).2≠0 then (M,fH (ib M o.P).2) else
 if (M (ib M o.P).1).K=2 then (M,fH 5) else
 if o.Q=[] then (M,fH 3) else
 if (dh M o.Q).2≠0 then (M,fH (dh M o.Q).2) else
 if 0<=bZ (M (dh M o.Q).1).E (ct o.Q) then (M,fH 3) else
 if 24<=(M (dh M o.Q).1).E.length then (M,fH 7) else
 (PA M (dh M o.Q).1 (ib M o.P).1 (tO (M (dh M o.Q).1).E (ct o.Q,((ib M o.P).1:Int))),nG)
def acL (M:Nat->Nd) (o:qR):kX:=
 if (ib M o.P).2≠0 then fH (ib M o.P).2 else
 if o.K=10 then { nG with N:=((M (ib M o.P).1).D.length+(M (ib M o.P).1).E.length:Nat),K:=(M (ib M o.P).1).K,L:=(M (ib M o.P).1).L,I:=((ib M o.P).1:Int) } else
 if (M (ib M o.P).1).K≠2 then fH 4 else { nG with S:=(M (ib M o.P).1).E }
noncomputable def xM (M:Nat->Nd) (o:qR):(Nat->Nd)×kX:=
 if o.K=0\/o.K=1 then CA M o else
 if o.K=2\/o.K=3\/o.K=4 then Nb M o else
 if o.K=5\/o.K=6 then AV M o else
 if o.K=7 then AW M o else
 if o.K=8 then Nf M o else
 if o.K=9\/o.K=10 then (M,acL M o) else
 if o.K=11 then (M,if o.N=1\/o.N=2 then nG else fH 1) else
 if o.K=12 then (M,nG) else (M,fH 1)
theorem yK {M:Nat->Nd}(h:eb M):∀(p:List ByteArray) (a:Nat),(M a).K≠0->(gG M a p).2=0->(M (gG M a p).1).K≠0/\kG M a (gG M a p).1
 | [],a,ha,_=>⟨ha,.here⟩
 |p::ps,a,ha,he=>by
  unfold gG at he ⊢;by_cases J:(M a).K=2
  ·rw[aB J] at he ⊢
   by_cases z:bZ (M a).E p<0
   ·rw[aB z] at he;simp at he
   ·rw[aA z] at he ⊢
    obtain⟨A,X,B,G⟩:=jF (h.rises a) p;have W:=(jk G λq Z=>(h.lead a q Z).1.1).2 (by omega);have U:(p,bZ (M a).E p)∈(M a).E:=by
     have y:=G.eq;rw[W] at y;exact(ck (λl=>(p,bZ (M a).E p)∈l) y).mpr (by simp)
    have y:=h.lead a _ U;have V:=yK h ps (bZ (M a).E p).toNat y.2 he;exact⟨V.1,(kG.step .here ⟨_,U,by show bZ (M a).E p=_;omega⟩).trans V.2⟩
  ·rw[aA J] at he;simp at he
theorem EZ{M:Nat->Nd}(h:eb M){p:List ByteArray}(y:(ib M p).2=0):(M (ib M p).1).K≠0/\j6 p=true:=by
 unfold ib at y ⊢;split at y
 ·next e=>rw[aB e];exact⟨(yK h p 0 (by rw[h.root];omega) y).1,e⟩
 ·simp at y
theorem qD{M:Nat->Nd}{p:List ByteArray}(z:(dh M p).2=0):(M (dh M p).1).K=2/\fN (bl (ct p))=true/\p≠[]/\j6 p=true:=by
 unfold dh at z ⊢;split at z
 ·simp at z
 ·next e=>
  rw[aA e];have U:p≠[]:=λh=>e (.inl h)
  have G:j6 p=true:=by
   cases h:j6 p
   ·exact absurd (.inr h) e
   ·rfl
  have V:fN (bl (ct p))=true:=by
   unfold j6 at G;rw[eP] at G;apply G;unfold ct;cases p with
   |nil=>exact absurd rfl U
   |cons x xs=>rw[List.getLastD_cons,List.getLastD_eq_getLast?];exact(by
     cases hx:(xs.getLast?) with
     |none=>simp
     |some y=>simp;exact .inr (List.mem_of_getLast? hx))
  split at z
  ·simp at z
  ·next e2=>
   rw[aA e2];refine⟨?_,V,U,G⟩;by_cases J:(M (gG M 0 p.dropLast).1).K=2
   ·exact J
   ·exact absurd ⟨z,J⟩ e2
theorem Tz{M:Nat->Nd}(h:eb M){i:Nat}(y:qC M=some i):M i=sA/\i<32:=by
 unfold qC at y;have J:=List.find?_some y;have G:=List.mem_of_find?_eq_some y;rw[bS] at G;refine⟨?_,G⟩;rcases h.kind i with z|z|z
 ·exact z
 ·simp at J;omega
 ·simp at J;omega
structure kS (M:Nat->Nd):Prop where
 names:∀i,∀e∈(M i).E,fN (bl e.1)=true
 len:∀i,(M i).E.length<=24
 data:∀i,(M i).D.length<=832
 bytes:∀i,∀x∈(M i).D,0<=x/\x<256
theorem kS.up{M:Nat->Nd}(h:kS M)(i:Nat){n:Nd}(G:∀e∈n.E,fN (bl e.1)=true)(z:n.E.length<=24)(U:n.D.length<=832)(J:∀x∈n.D,0<=x/\x<256):kS (mN M i n):=by
 have y:∀(P:Nd->Prop),(∀j,P (M j))->P n->∀j,P (mN M i n j):=λP a b j=>by unfold mN;split;exact b;exact a j
 exact⟨y (λm=>∀e∈m.E,fN (bl e.1)=true) h.names G,y (λm=>m.E.length<=24) h.len z,y (λm=>m.D.length<=832) h.data U,y (λm=>∀x∈m.D,0<=x/\x<256) h.bytes J⟩
theorem kS.ed{M:Nat->Nd}(h:kS M)(d:Nat){E:List (ByteArray×Int)}(z:∀e∈E,fN (bl e.1)=true)(y:E.length<=24):kS (rX M d E):=h.up d z y (h.data d) (h.bytes d)
theorem tP (D:List Int)(n:Nat):(vS D n).length=n:=by unfold vS;simp;omega
theorem E0 (D:List Int)(o:Nat)(x:List Int):(uS D o x).length=max D.length (o+x.length):=by unfold uS;simp[tP];omega
theorem Jr{n:Nat}{y:Int}(h:y∈vS D n):y∈D\/y=0:=by
 unfold vS at h;rcases aP.1 h with z|z
 ·exact .inl (bA z)
 ·exact .inr (gN z)
theorem PB{o:Nat}{x:List Int}{y:Int}(h:y∈uS D o x):y∈D\/y=0\/y∈x:=by
 unfold uS at h;simp only[aP] at h;rcases h with z|z|z
 ·rcases Jr (bA z) with G|G
  ·exact .inl G
  ·exact .inr (.inl G)
 ·exact .inr (.inr z)
 ·exact .inl (fL z)
theorem ni{e:ByteArray×Int}(h:e∈kv E nm):e∈E:=(List.mem_filter.1 h).1
theorem CB (E:List (ByteArray×Int))(nm:ByteArray):(kv E nm).length<=E.length:=eN _ _
theorem CD {x e:ByteArray×Int}:∀{E:List (ByteArray×Int)},e∈tO E x->e=x\/e∈E
 | [],h=> .inl (by simpa[tO] using h)
 |p::E,h=>by
  unfold tO at h;split at h
  ·rcases aS.1 h with y|y
   ·exact .inl y
   ·exact .inr y
  ·rcases aS.1 h with y|y
   ·exact .inr (by rw[y];simp)
   ·rcases CD y with z|z
    ·exact .inl z
    ·exact .inr (by simp[z])
theorem CE (x:ByteArray×Int):∀E:List (ByteArray×Int),(tO E x).length=E.length+1
 | []=>rfl
 |p::E=>by
  unfold tO;split
  ·rfl
  ·simp[CE x E]
theorem xv{M:Nat->Nd}(h:eb M)(d:Nat)(nm:ByteArray):bZ (M d).E nm<0\/(0<=bZ (M d).E nm/\∃A B,gy (M d).E A [(nm,bZ (M d).E nm)] B nm/\kv (M d).E nm=A++B/\(kv (M d).E nm).length+1=(M d).E.length):=by
 obtain⟨A,X,B,y⟩:=jF (h.rises d) nm;have G:=jk y λq U=>(h.lead d q U).1.1
 rcases Int.lt_or_le (bZ (M d).E nm) 0 with z|z
 ·exact .inl z
 ·have J:=G.2 z
  subst J;refine .inr ⟨z,A,B,y,rF y,?_⟩;rw[rF y];have :=ck List.length y.eq;simp at this ⊢;omega
theorem CF{M:Nat->Nd}(h:eb M){d:Nat}{nm:ByteArray}(z:bZ (M d).E nm<0):∃A B,gy (M d).E A [] B nm/\∀i,tO (M d).E (nm,i)=A++([(nm,i)]++B):=by
 obtain⟨A,X,B,y⟩:=jF (h.rises d) nm;have G:=(jk y λq J=>(h.lead d q J).1.1).1.1 z;subst G;exact⟨A,B,y,λi=>vR y i⟩
theorem oq{M:Nat->Nd}(h:eb M){d:Nat}{nm:ByteArray}(U:0<=bZ (M d).E nm):Edge M d (bZ (M d).E nm).toNat/\(M (bZ (M d).E nm).toNat).K≠0/\(((bZ (M d).E nm).toNat:Nat):Int)=bZ (M d).E nm/\bZ (M d).E nm<32:=by
 rcases xv h d nm with G|⟨G,A,B,J,-⟩
 ·omega
 ·have y:Edge M d (bZ (M d).E nm).toNat:=⟨(nm,bZ (M d).E nm),by
   exact(ck (λl=>(nm,bZ (M d).E nm)∈l) J.eq).mpr (by simp),by show bZ (M d).E nm=_;omega⟩
  have z:=h.dir y;exact⟨y,z.2.2.1,by omega,by omega⟩
theorem Js (nm:ByteArray):bZ (kv E nm) nm<0:=by
 rw[vO]
 ·omega
 ·intro p h
  have :=(List.mem_filter.1 h).2;simpa using this
theorem kS.del{M:Nat->Nd}(h:kS M)(d:Nat)(nm:ByteArray):kS (rX M d (kv (M d).E nm)):=h.ed d (λe y=>h.names d e (ni y)) (cu (CB _ _) (h.len d))
theorem kS.ins{M:Nat->Nd}(h:kS M)(d:Nat){nm:ByteArray}(z:fN (bl nm)=true)(i:Int)(J:(M d).E.length<24):kS (rX M d (tO (M d).E (nm,i))):=h.ed d (λe y=>by
 rcases CD y with rfl|G
 ·exact z
 ·exact h.names d e G) (by rw[CE];omega)
theorem Ng{M:Nat->Nd}(h:eb M)(hF:kS M){d:Nat}{nm:ByteArray}(G:0<=bZ (M d).E nm)(Z:(M (bZ (M d).E nm).toNat).E=[]):eb (QT M d nm)/\kS (QT M d nm):=by
 rcases xv h d nm with U|⟨U,A,B,V,J,hl⟩
 ·omega
 ·obtain⟨y,hk,W,-⟩:=oq h G
  constructor
  ·have :=h.removed (j:=(bZ (M d).E nm).toNat) (nm:=nm) (A:=A) (B:=B) Z (by rw[W];exact V)
   unfold QT;rw[J];exact this
  ·have z:kS (mN M (bZ (M d).E nm).toNat (if (M (bZ (M d).E nm).toNat).L=1 then sA else { M (bZ (M d).E nm).toNat with L:=(M (bZ (M d).E nm).toNat).L-1 })):=by
    refine hF.up _ ?_ ?_ ?_ ?_
    ·split
     ·intro e y;simp[sA] at y
     ·exact hF.names _
    ·split
     ·simp[sA]
     ·exact hF.len _
    ·split
     ·simp[sA]
     ·exact hF.data _
    ·split
     ·intro e y;simp[sA] at y
     ·exact hF.bytes _
   exact z.ed d (λe y=>hF.names d e (ni y)) (cu (CB _ _) (hF.len d))
theorem Nh{M:Nat->Nd}(h:eb M)(hF:kS M){d t i:Nat}{nm G:ByteArray}(hf:bZ (M d).E nm=(i:Int))(ht:(M t).K=2)(hn:bZ (M t).E G<0\/(d=t/\nm=G))(hb:¬kG M i t)(hg:fN (bl G)=true)(hl:d=t\/(M t).E.length<24):
  eb (goM M d t i nm G)/\kS (goM M d t i nm G):=by
 rcases xv h d nm with h1|⟨h1,A,B,Z,W,aa⟩
 ·omega
 ·rw[hf] at Z
  have hr:tI (rX M d (kv (M d).E nm) t).E:=by
   rw[nh];split
   ·rw[W];simpa using Z.rises (h.rises d) [] (.inl rfl)
   ·exact h.rises t
  have oU:∀p∈(rX M d (kv (M d).E nm) t).E,0<=p.2:=λp U=>by
   rw[nh] at U;split at U
   ·exact(h.lead d p (ni U)).1.1
   ·exact(h.lead t p U).1.1
  have FM:bZ (rX M d (kv (M d).E nm) t).E G<0:=by
   rw[nh];split
   ·next e=>
    by_cases en:nm=G
    ·rw[<-en];exact Js nm
    ·rcases hn with J|J
     ·rw[vO]
      ·omega
      ·intro p U
       rw[e] at J;intro e2;obtain⟨A2,X2,B2,z⟩:=jF (h.rises d) G;have V:=(jk z λq hq=>(h.lead d q hq).1.1).1.1 J;subst V;have h5:p∈A2++B2:=by have :=z.eq;rw[bW] at this;rw[<-this];exact ni U
       rcases aP.1 h5 with h6|h6
       ·exact rE (z.ahead p h6) e2
       ·exact rE (z.behind p h6) e2.symm
     ·exact absurd J.2 en
   ·next e=>
    rcases hn with J|J
    ·exact J
    ·exact absurd J.1.symm e
  obtain⟨A',X,B',y⟩:=jF hr G;have h3:=(jk y oU).1.1 FM;subst h3;have hi:=vR y (i:Int);constructor
  ·unfold goM
   rw[hi,W];rw[W] at y;exact h.moved Z ht y hb
  ·unfold goM Gp
   refine(hF.del d nm).ins t hg _ ?_;rw[nh];split
   ·next e=>rw[<-e] at aa ⊢;have :=hF.len d;rw[<-e] at this;omega
   ·next e=>
    rcases hl with V|V
    ·exact absurd V.symm e
    ·exact V
def acM (o:qR):Prop:=∀x∈o.D,0<=x/\x<256
theorem PC{M:Nat->Nd}(h:eb M)(hF:kS M){o:qR}(hK:o.K=0\/o.K=1):eb (CA M o).1/\kS (CA M o).1:=by
 unfold CA;split
 ·exact⟨h,hF⟩
 ·split
  ·exact⟨h,hF⟩
  ·next hp=>
   have z:=qD (M:=M) (p:=o.P) (Decidable.not_not.1 hp);split
   ·exact⟨h,hF⟩
   ·next hn=>
    cases hi:qC M with
    |none=>exact⟨h,hF⟩
    |some i=>
     dsimp only
     split
     ·next hl=>
      obtain⟨U,V⟩:=Tz h hi;obtain⟨A,B,Z,y⟩:=CF h (d:=(dh M o.P).1) (nm:=ct o.P) (by omega);refine⟨?_,?_⟩
      ·dsimp only
       rw[y];exact h.made z.1 U V (by omega) Z
      ·have J:(dh M o.P).1≠i:=λe=>by
        have :=z.1;rw[e,U] at this;simp[sA] at this
       have W:kS (mN M i ⟨1+o.K,1,[],[]⟩):=hF.up i (λe y=>by simp at y) (by simp) (by simp) (λe y=>by simp at y);have G:=W.ins (dh M o.P).1 (nm:=ct o.P) z.2.1 (i:Int) (by rw[cV _ _ J];exact hl);rw[cV _ _ J] at G;exact G
     ·exact⟨h,hF⟩
theorem PD{M:Nat->Nd}(h:eb M)(hF:kS M){o:qR}(V:acM o):eb (Nb M o).1/\kS (Nb M o).1:=by
 unfold Nb;split
 ·exact⟨h,hF⟩
 ·next hw=>
  have J:=EZ h (p:=o.P) (Decidable.not_not.1 hw);split
  ·exact⟨h,hF⟩
  ·next hk=>
   have U:(M (ib M o.P).1).K=1:=by
    rcases h.kind (ib M o.P).1 with z|z|z
    ·exact absurd (by rw[z];rfl) J.1
    ·exact z.1
    ·exact absurd z.1 hk
   split
   ·exact⟨h,hF⟩
   ·next FM=>
    split
    ·exact⟨h,hF⟩
    ·next h3=>
     split
     ·next h4=>
      split
      ·exact⟨h,hF⟩
      ·next hN=>
       refine⟨h.data U _,hF.up _ (hF.names _) (hF.len _) ?_ ?_⟩
       ·show(vS _ _).length<=832
        rw[tP];omega
       ·intro x G
        rcases Jr G with y|y
        ·exact hF.bytes _ x y
        ·omega
     ·split
      ·exact⟨h,hF⟩
      ·next hl=>
       split
       ·exact⟨h,hF⟩
       ·refine⟨h.data U _,hF.up _ (hF.names _) (hF.len _) ?_ ?_⟩
        ·show(uS _ _ _).length<=832
         rw[E0];have :=hF.data (ib M o.P).1;omega
        ·intro x G
         rcases PB G with y|y|y
         ·exact hF.bytes _ x y
         ·omega
         ·exact V x y
theorem Jt{M:Nat->Nd}(h:eb M)(hF:kS M){o:qR}(G:o.K=5\/o.K=6):eb (AV M o).1/\kS (AV M o).1:=by
 unfold AV;split
 ·exact⟨h,hF⟩
 ·split
  ·exact⟨h,hF⟩
  ·split
   ·exact⟨h,hF⟩
   ·next hf=>
    split
    ·exact⟨h,hF⟩
    ·next h5=>
     split
     ·exact⟨h,hF⟩
     ·next h6=>
      split
      ·exact⟨h,hF⟩
      ·next h7=>
       refine Ng h hF (by omega) ?_;obtain⟨-,J,-⟩:=oq h (d:=(dh M o.P).1) (nm:=ct o.P) (by omega);rcases h.kind (bZ (M (dh M o.P).1).E (ct o.P)).toNat with y|y|y
       ·rw[y];rfl
       ·exact y.2
       ·by_cases e:(M (bZ (M (dh M o.P).1).E (ct o.P)).toNat).E=[]
        ·exact e
        ·rcases G with z|z
         ·exact absurd ⟨z,y.1⟩ h5
         ·exact absurd ⟨z,e⟩ h7
theorem PE{M:Nat->Nd}(h:eb M)(hF:kS M)(o:qR):eb (Nf M o).1/\kS (Nf M o).1:=by
 unfold Nf;split
 ·exact⟨h,hF⟩
 ·next hw=>
  have G:=EZ h (p:=o.P) (Decidable.not_not.1 hw);split
  ·exact⟨h,hF⟩
  ·next hk=>
   have W:(M (ib M o.P).1).K=1:=by
    rcases h.kind (ib M o.P).1 with y|y|y
    ·exact absurd (by rw[y];rfl) G.1
    ·exact y.1
    ·exact absurd y.1 hk
   split
   ·exact⟨h,hF⟩
   ·split
    ·exact⟨h,hF⟩
    ·next hp=>
     have z:=qD (M:=M) (p:=o.Q) (Decidable.not_not.1 hp);split
     ·exact⟨h,hF⟩
     ·next hn=>
      split
      ·exact⟨h,hF⟩
      ·next hl=>
       obtain⟨A,B,Z,V⟩:=CF h (d:=(dh M o.Q).1) (nm:=ct o.Q) (by omega);refine⟨?_,?_⟩
       ·dsimp only
        rw[V];exact h.linked z.1 W Z
       ·have U:(dh M o.Q).1≠(ib M o.P).1:=λe=>by
         have :=z.1;rw[e] at this;omega
        have y:kS (mN M (ib M o.P).1 { M (ib M o.P).1 with L:=(M (ib M o.P).1).L+1 }):=hF.up _ (hF.names _) (hF.len _) (hF.data _) (hF.bytes _);have J:=y.ins (dh M o.Q).1 (nm:=ct o.Q) z.2.1 ((ib M o.P).1:Int) (by rw[cV _ _ U];omega);rw[cV _ _ U] at J;exact J
theorem kG.sub{M M':Nat->Nd}(h:∀a b,Edge M' a b->Edge M a b){d x:Nat}(k:kG M' d x):kG M d x:=kG.mono h k
theorem TA{M:Nat->Nd}{d:Nat}(z:(M (bZ (M d).E nm).toNat).E=[]):
  (∀x,(QT M d nm x).E=if x=d then kv (M d).E nm else (M x).E)/\(∀x,x≠(bZ (M d).E nm).toNat->(QT M d nm x).K=(M x).K)/\(∀a b,Edge (QT M d nm) a b->Edge M a b):=by
 have G:∀x,(QT M d nm x).E=if x=d then kv (M d).E nm else (M x).E:=λx=>by
  unfold QT C8;rw[nh];by_cases e:x=d
  ·rw[aB e,aB e]
  ·rw[aA e,aA e]
   unfold mN;by_cases h:x=(bZ (M d).E nm).toNat
   ·rw[aB h,h,z]
    split
    ·rfl
    ·exact z
   ·rw[aA h]
 refine⟨G,λx U=> ?_,λa b ⟨e,y,J⟩=>⟨e,?_,J⟩⟩
 ·unfold QT C8
  rw[(uR _ _ _ x).1,cV _ _ U]
 ·rw[G] at y
  split at y
  ·next h=>rw[h];exact ni y
  ·exact y
theorem Ju{M:Nat->Nd}(h:eb M)(hF:kS M)(o:qR):eb (AW M o).1/\kS (AW M o).1:=by
 unfold AW;split
 ·exact⟨h,hF⟩
 ·split
  ·exact⟨h,hF⟩
  ·split
   ·exact⟨h,hF⟩
   ·next hf=>
    split
    ·exact⟨h,hF⟩
    ·next W=>
     have J:=qD (M:=M) (p:=o.Q) (Decidable.not_not.1 W);split
     ·exact⟨h,hF⟩
     ·next hne=>
      split
      ·exact⟨h,hF⟩
      ·next hc=>
       obtain⟨ai,ye,Mz,jt⟩:=oq h (d:=(dh M o.P).1) (nm:=ct o.P) (by omega);generalize (dh M o.P).1=d at *;generalize (dh M o.Q).1=t at *;generalize ct o.P=nm at *;generalize ct o.Q=z at *;split
       ·next hth=>
        obtain⟨ac,ah,ag,WK⟩:=oq h (d:=t) (nm:=z) hth;split
        ·exact⟨h,hF⟩
        ·next XO=>
         have hE:(M (bZ (M t).E z).toNat).E=[]:=by
          have WL:Nc M (bZ (M d).E nm).toNat (bZ (M t).E z).toNat=0:=Decidable.not_not.1 XO;unfold Nc at WL;rcases h.kind (bZ (M t).E z).toNat with G|G|G
          ·rw[G];rfl
          ·exact G.2
          ·split at WL
           ·omega
           ·split at WL
            ·omega
            ·split at WL
             ·omega
             ·next h2=>
              by_cases e:(M (bZ (M t).E z).toNat).E=[]
              ·exact e
              ·exact absurd ⟨G.1,e⟩ h2
         obtain⟨Z,aa⟩:=Ng h hF hth hE;obtain⟨kE,kK,kB⟩:=TA hE;have OT:(bZ (M d).E nm).toNat≠(bZ (M t).E z).toNat:=λe=>hne (by omega)
         have af:t≠(bZ (M t).E z).toNat:=h.notSelf ac;refine Nh Z aa ?_ ?_ ?_ ?_ J.2.1 ?_
         ·rw[kE]
          split
          ·next e=>
           subst e
           -- another name of the same directory
           have Vr:nm≠z:=λe=>by subst e;exact hne rfl
           rw[Mz];obtain⟨A,X,B,hs⟩:=jF (h.rises d) nm;have G:=(jk hs λq W=>(h.lead d q W).1.1).2 (by omega);have Am:(nm,bZ (M d).E nm)∈kv (M d).E z:=by
            refine List.mem_filter.2 ⟨?_,by simpa using Vr⟩;have h2:=hs.eq;rw[G] at h2;exact(ck (λl=>(nm,bZ (M d).E nm)∈l) h2).mpr (by simp)
           obtain⟨A2,X2,B2,y⟩:=jF (Z.rises d) nm;have GV:(QT M d z d).E=kv (M d).E z:=by rw[kE,aB rfl]
           rw[GV] at y;have h3:=jk y λq W=>(h.lead d q (ni W)).1.1
           have h4:X2≠[]:=λe=>by
            subst e;have h5:=y.eq;rw[bW] at h5;rw[h5] at Am;rcases aP.1 Am with U|U
            ·exact jP _ (y.ahead _ U)
            ·exact jP _ (y.behind _ U)
           have h5:0<=bZ (kv (M d).E z) nm:=by
            rcases Int.lt_or_le (bZ (kv (M d).E z) nm) 0 with U|U
            ·exact absurd (h3.1.1 U) h4
            ·exact U
           have U:=h3.2 h5
           -- both stand in the same rising list
           have h7:=y.eq;rw[U] at h7;have h8:(nm,bZ (M d).E nm)∈A2++([(nm,bZ (kv (M d).E z) nm)]++B2):=h7▸Am;simp only[aP,au] at h8;rcases h8 with V|V|V
           ·exact absurd (y.ahead _ V) (jP _)
           ·exact(ck Prod.snd V).symm
           ·exact absurd (y.behind _ V) (jP _)
          ·exact Mz.symm
         ·rw[kK t af];exact J.1
         ·left
          rw[kE,aB rfl];exact Js z
         ·exact λae=>hc (ae.sub kB)
         ·rw[kE,aB rfl]
          rcases xv h t z with G|⟨-,A,B,-,-,hl⟩
          ·omega
          ·have :=hF.len t
           right;omega
       ·next hth=>
        split
        ·exact⟨h,hF⟩
        ·next hl=>
         refine Nh h hF Mz.symm J.1 (.inl (by omega)) hc J.2.1 ?_;by_cases e:d=t
         ·exact .inl e
         ·right
          rcases dr (M t).E.length 24 with G|G
          ·exact G
          ·exact absurd ⟨e,G⟩ hl
theorem WM{M:Nat->Nd}(h:eb M)(hF:kS M){o:qR}(y:acM o):eb (xM M o).1/\kS (xM M o).1:=by
 unfold xM;split
 ·next h0=>exact PC h hF h0
 ·split
  ·exact PD h hF y
  ·split
   ·next h0=>exact Jt h hF h0
   ·split
    ·exact Ju h hF o
    ·split
     ·exact PE h hF o
     ·split
      ·exact⟨h,hF⟩
      ·split
       ·exact⟨h,hF⟩
       ·split
        ·exact⟨h,hF⟩
        ·exact⟨h,hF⟩
end Go.Proofs.YtcecbdeamjigiaaGreatDoor
namespace Go.Proofs.YtcecbdeamjigiaaGreatDoor
open Go.RowKit
variable{a b c i j k:Nat}{A B E M:List (ByteArray×Int)}{nm:ByteArray}{D X:List Int}{U y:List Nat}{p:Int×Int}{n:bM}{own:Nat->List Nat}{T V:List (bM×Value)}
end Go.Proofs.YtcecbdeamjigiaaGreatDoor
namespace Go.Proofs.YtcecbdeamjigiaaGreatDoor
open Go.RowKit
variable{a b c i j k:Nat}{A B E M:List (ByteArray×Int)}{nm:ByteArray}{D X:List Int}{U y:List Nat}{p:Int×Int}{n:bM}{own:Nat->List Nat}{T V:List (bM×Value)}
theorem E9{u:Bool}(h:p∈dG X b u):816<=p.1.toNat/\p.1.toNat<820:=by
 unfold dG at h;split at h
 ·simp at h
 ·rw[au] at h
  subst h;show 816<=((816+b/64:Nat):Int).toNat/\_;rw[aH];show 816<=816+b/64/\((816+b/64:Nat):Int).toNat<820;rw[aH];omega
theorem o5 (l:List Nat):∀(X:List Int) (p:Int×Int),p∈bQ X l->816<=p.1.toNat/\p.1.toNat<820:=by
 induction l with
 |nil=>intro X p h;simp[bQ] at h
 |cons b l ih=>
  intro X p h;unfold bQ at h;rcases aP.1 h with h|h
  ·exact E9 h
  ·exact ih _ p h
theorem Jv (h:p∈fg b):1080<=p.1.toNat/\(p.1.toNat-1080)/8=b:=by
 unfold fg kd at h;obtain⟨j,y,rfl⟩:=bB.1 h;rw[bS] at y;show 1080<=((1080+b*8+j:Nat):Int).toNat/\(((1080+b*8+j:Nat):Int).toNat-1080)/8=b;rw[aH];omega
theorem o6 (l:List Nat):∀(X:List Int) (p:Int×Int),p∈cL X l->(816<=p.1.toNat/\p.1.toNat<820)\/(1080<=p.1.toNat/\(p.1.toNat-1080)/8∈l):=by
 induction l with
 |nil=>intro X p h;simp[cL] at h
 |cons b l ih=>
  intro X p h;unfold cL at h;rcases aP.1 h with h|h
  ·rcases aP.1 h with h|h
   ·exact .inl (E9 h)
   ·have :=Jv h
    exact .inr ⟨this.1,by rw[this.2];simp⟩
  ·rcases ih _ p h with y|y
   ·exact .inl y
   ·exact .inr ⟨y.1,by simp[y.2]⟩
theorem TB{own:List Nat}(_:i<32)(J:bP n)(ho:own.length=cN n){p:Int×Int}(h:p∈DD X i n own):
  (816<=p.1.toNat/\p.1.toNat<820)\/(824+8*i<=p.1.toNat/\p.1.toNat<824+8*i+8)\/(1080<=p.1.toNat/\(p.1.toNat-1080)/8∈own):=by
 unfold DD at h;split at h
 ·unfold j4 at h
  rcases aP.1 h with h|h
  ·rcases o6 _ _ p h with y|y
   ·exact .inl y
   ·exact .inr (.inr y)
  ·rcases aP.1 h with h|h
   ·obtain⟨m,j,z,U,y,-⟩:=qx h
    refine .inr (.inr ⟨by omega,?_⟩);have e:(p.1.toNat-1080)/8=own.getD m 0:=by omega
    rw[e,aj,aD z];exact bp z
   ·obtain⟨j,U,y,-⟩:=jD h
    exact .inr (.inl ⟨by omega,by omega⟩)
 ·rename_i hF
  have Z:cN n=dX n:=aA hF;have G:=iA J;have W:=ry n;unfold l9 at h;rcases aP.1 h with h|h
  ·rcases o6 _ _ p h with y|y
   ·exact .inl y
   ·exact .inr (.inr y)
  ·rcases oN (by omega) h with y|y
   ·exact .inr (.inr ⟨y.1,y.2.1⟩)
   ·exact .inr (.inl (by have :=y.1;have :=y.2.1;omega))
theorem yL{own:List Nat}(G:i<32)(J:bP n)(U:y=(bb (az X (bQ X own))).take (cN n))(z:cN n<=(bb (az X (bQ X own))).length){p:Int×Int}(h:p∈jI X i n own):
  (816<=p.1.toNat/\p.1.toNat<820)\/(824+8*i<=p.1.toNat/\p.1.toNat<824+8*i+8)\/(1080<=p.1.toNat/\(p.1.toNat-1080)/8∈y):=by
 unfold jI at h;rcases aP.1 h with h|h
 ·exact .inl (o5 _ _ p h)
 ·subst U
  exact TB G J (rA z) h
theorem yM (l:List Nat):∀X:List Int,dD X->X.length=3128->cT (az X (bQ X l)) 0=cT X 0:=by
 induction l with
 |nil=>intro X _ _;rfl
 |cons b l ih=>
  intro X h z;have y:=iu [b] X h z;unfold bQ at y ⊢;have J:bQ (az X (dG X b false)) []=[]:=rfl;rw[J,bq] at y;rw[bo,ih _ y.1 (by rw[bO,z])];by_cases G:b=0\/256<=b
  ·unfold dG;rw[aB G];rfl
  ·rw[xY h z b (by omega) (by omega),aA (by omega)]
theorem TC (V:dD X)(J:X.length=3128){i:Nat}{n:bM}{own:List Nat}(hi:i<32)(hR:bP n)(Z:cN n<=(bb (az X (bQ X own))).length):cT (az X (jI X i n own)) 0=cT X 0:=by
 obtain⟨W,-,-⟩:=iu own X V J;have z:=yM own X V J;have hl:=bO (bQ X own) X;rw[<-z];unfold jI;rw[bo];generalize az X (bQ X own)=Y at *;have U:∀c∈(bb Y).take (cN n),c≠0/\c<256:=oP;have y:∀qs:List (Int×Int),(∀p∈qs,820<=p.1.toNat)->cT (az Y (cL Y ((bb Y).take (cN n))++qs)) 0=cT Y 0:=λqs hq=>by
  rw[(Co W (by omega) U hq).1 0 (by omega),aT (λh=>(U 0 h).1 rfl),Bool.or_false]
 unfold DD;split
 ·unfold j4
  refine y _ λp G=> ?_
  rcases aP.1 G with h|h
  ·obtain⟨m,j,-,-,z,-⟩:=qx h
   omega
  ·obtain⟨j,-,z,-⟩:=jD h
   omega
 ·rename_i hF
  have qm:cN n=dX n:=aA hF;have aa:=iA hR;have MM:=ry n;have nM:=rA Z;unfold l9;refine y _ λp G=> ?_
  rcases oN (by omega) G with ⟨h,-⟩|⟨h,-⟩<;>omega
def Gq (own:Nat->List Nat) (i:Nat) (o:List Nat):Nat->List Nat:=λj=>if j=i then o else own j
def kx (T:List (bM×Value)) (own:Nat->List Nat) (k:Nat):List Nat:=own k++cP (nT T k)
def kY (T:List (bM×Value)) (i:Nat) (n:bM):List (bM×Value):=T.set i (n,.slice none 0 0)
theorem mg (y:T.length=32){i:Nat}(h:i<32)(n:bM)(j:Nat):nT (kY T i n) j=if i=j then n else nT T j:=aas (by omega) n _ j
theorem CG (G:T.length=32)(own:Nat->List Nat){i:Nat}(z:i<32)(n:bM)(o:List Nat)(b:Nat):∀k,
  (k<=i->iB (kY T i n) (Gq own i o) k b=iB T own k b)/\(i<k->iB (kY T i n) (Gq own i o) k b+(kx T own i).count b=iB T own k b+(o++cP n).count b):=by
 intro k;induction k with
 |zero=>exact⟨λ_=>rfl,λh=>by omega⟩
 |succ k ih=>
  have e:∀(J:List (bM×Value)) (y:Nat->List Nat),iB J y (k+1) b=iB J y k b+(y k++cP (nT J k)).count b:=λ_ _=>rfl
  refine⟨λh=> ?_,λh=> ?_⟩
  ·rw[e,e,ih.1 (by omega),mg G z,aA (by omega),Gq,aA (by omega)]
  ·rw[e,e]
   by_cases U:k=i
   ·subst U
    rw[ih.1 (by omega),mg G z,aB rfl,Gq,aB rfl];unfold kx;omega
   ·have V:=ih.2 (by omega)
    rw[mg G z,aA (by omega),Gq,aA U];omega
theorem CH:∀m,k<m->(kx T own k).count b<=iB T own m b:=by
 intro m;induction m with
 |zero=>intro h;omega
 |succ m ih=>
  intro h;show _<=iB T own m b+(kx T own m).count b;by_cases e:k=m
  ·subst e;omega
  ·have :=ih (by omega);omega
theorem Ni (y:j<k):∀m,k<m->(kx T own j).count b+(kx T own k).count b<=iB T own m b:=by
 intro m;induction m with
 |zero=>intro h;omega
 |succ m ih=>
  intro h;show _<=iB T own m b+(kx T own m).count b;by_cases e:k=m
  ·subst e
   have :=CH (T:=T) (own:=own) (b:=b) k y;omega
  ·have :=ih (by omega);omega
structure nV (X:List Int) (T V:List (bM×Value)) (own:Nat->List Nat) (ex:List Nat):Prop where
 len:X.length=3128
 w64:dD X
 sup:k8 X
 gots:nE X T own
 all:uk X T
 once:∀b,b<256->sy V own b+ex.count b<=1/\(cT X b=true↔sy V own b+ex.count b=1)
 exr:∀c∈ex,c≠0/\c<256
 tails:tK X V
 vlen:V.length=32
 vir:∀j,nT V j=nT T j\/nT V j=cB
abbrev StX (X:List Int) (T:List (bM×Value)) (own:Nat->List Nat) (h:List Nat):Prop:=nV X T T own h
theorem nV.each(h:nV X T V own U){i:Nat}(J:i<32):((nT T i).F≠0/\dT X (i:Int) (nT T i) (own i))\/(dI X (i:Int)/\nT T i=cB/\own i=[]):=by
 rcases h.gots.form i with ⟨z,-,y⟩|⟨z,y,W⟩
 ·exact .inl ⟨z,y⟩
 ·right
  refine⟨?_,y,(W J).1⟩;rcases h.all i J with G|G
  ·exact G
  ·exact absurd z G
theorem PF (y:nT T k=cB)(h:own k=[]):kx T own k=[]:=by
 unfold kx;rw[y,h]
 decide
theorem pC:cP cB=[]:=by decide
theorem nV.rng(h:nV X T V own U){k c:Nat}(Z:k<32)(J:c∈kx V own k):c≠0/\c<256:=by
 rcases h.each Z with ⟨-,G⟩|⟨-,G,W⟩
 ·rcases aP.1 J with z|z
  ·exact G.mem c z
  ·rcases h.vir k with y|y
   ·rw[y] at z;exact oo G.len G.right c z
   ·rw[y,pC] at z;simp at z
 ·rw[PF (by rcases h.vir k with y|y<;>rw[y];exact G) W] at J;simp at J
theorem nV.used{J:List Nat}(h:nV X T V own J){k c:Nat}(z:k<32)(G:c∈kx V own k):cT X c=true:=by
 have U:=h.rng z G;have y:=h.once c U.2;have Z:=CH (T:=V) (own:=own) (b:=c) 32 z;have W:0<(kx V own k).count c:=List.count_pos_iff.2 G;unfold sy at y;exact y.2.2 (by omega)
theorem nV.usedEx(h:nV X T V own y){c:Nat}(z:c∈y):cT X c=true:=by
 have G:=h.once c (h.exr c z).2;have J:0<y.count c:=List.count_pos_iff.2 z;exact G.2.2 (by omega)
theorem nV.apart{ex:List Nat}(h:nV X T V own ex){j k c:Nat}(J:j<32)(Z:k<32)(y:j≠k)(G:c∈kx V own j):c∉kx V own k:=λz=>by
 have W:=h.rng J G;have U:=(h.once c W.2).1;have h4:0<(kx V own j).count c:=List.count_pos_iff.2 G;have h5:0<(kx V own k).count c:=List.count_pos_iff.2 z;unfold sy at U;rcases Nat.lt_or_gt_of_ne y with e|e
 ·have :=Ni (T:=V) (own:=own) (b:=c) e 32 Z;omega
 ·have :=Ni (T:=V) (own:=own) (b:=c) e 32 J;omega
theorem nV.apartEx(h:nV X T V own y){k c:Nat}(G:k<32)(J:c∈kx V own k):c∉y:=λz=>by
 have W:=h.rng G J;have U:=(h.once c W.2).1;have h4:0<(kx V own k).count c:=List.count_pos_iff.2 J;have Z:0<y.count c:=List.count_pos_iff.2 z;have :=CH (T:=V) (own:=own) (b:=c) 32 G;unfold sy at U;omega
theorem nV.inner(h:nV X T V own U){k c:Nat}(z:k<32)(G:c∈own k):c∉cP (nT V k):=λy=>by
 have Z:=h.rng z (bF _ G);have W:=(h.once c Z.2).1;have J:=CH (T:=V) (own:=own) (b:=c) 32 z;have h4:0<(own k).count c:=List.count_pos_iff.2 G;have h5:0<(cP (nT V k)).count c:=List.count_pos_iff.2 y;unfold sy at W;unfold kx at J;rw[eK] at J;omega
theorem qE{Y:List Int}(Z:n.B.length=13)(h:iC X n)(G:∀c∈cP n,∀j,j<8->Y.getD (1080+8*c+j) 0=X.getD (1080+8*c+j) 0):iC Y n:=by
 intro V k J z j W y;have U:(n.B.getD k 0).toNat∈cP n:=by
  unfold cP dB;refine bB.2 ⟨n.B.getD k 0,List.mem_filter.2 ⟨?_,by simpa using z⟩,rfl⟩;rw[aQ (by omega),aj,aD (by omega)];exact bp _
 have :=G _ U (j/8) (by omega);rw[this];exact h V k J z j W y
end Go.Proofs.YtcecbdeamjigiaaGreatDoor
