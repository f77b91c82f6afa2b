/- Lemmas. -/
import Derived.Test.YtepbpdipenedhaaGreatDoorS19
namespace Go.Proofs.YtepbpdipenedhaaGreatDoor
open Go.RowKit
variable{a b c i j k:Nat}{A B E M:List (ByteArray×Int)}{nm:ByteArray}{D X:List Int}{U W y:List Nat}{p:Int×Int}{n:bN}{own:Nat->List Nat}{T V:List (bN×Value)}
structure Nd where
 K:Int
 L:Int
 D:List Int
 E:List (ByteArray×Int)
def sU:Nd:=⟨0,0,[],[]⟩
def oI (M:Nat->Nd) (i:Nat) (n:Nd):Nat->Nd:=λj=>if j=i then n else M j
theorem lR (M:Nat->Nd)(i:Nat)(n:Nd):oI M i n i=n:=aB rfl
theorem cT (M:Nat->Nd){i j:Nat}(n:Nd)(h:j≠i):oI M i n j=M j:=aA h
def Edge (M:Nat->Nd) (a b:Nat):Prop:=∃e∈(M a).E,e.2=(b:Int)
inductive lv (M:Nat->Nd) (d:Nat):Nat->Prop
 |here:lv M d d
 |step {a b:Nat}:lv M d a->Edge M a b->lv M d b
theorem lv.trans{M:Nat->Nd}(h:lv M a b)(k:lv M b c):lv M a c:=by
 induction k with
 |here=>exact h
 |step _ e ih=>exact ih.step e
theorem lv.mono{M M':Nat->Nd}(h:∀a b,Edge M a b->Edge M' a b){d x:Nat}(k:lv M d x):lv M' d x:=by
 induction k with
 |here=>exact .here
 |step _ e ih=>exact ih.step (h _ _ e)
def qm (E:List (ByteArray×Int)) (i:Nat):Nat:=E.countP λe=>e.2==(i:Int)
theorem jw (A B:List (ByteArray×Int))(i:Nat):qm (A++B) i=qm A i+qm B i:=List.countP_append
theorem tZ (nm:ByteArray)(x:Int)(i:Nat):qm [(nm,x)] i=if x=(i:Int) then 1 else 0:=by simp[qm,List.countP_singleton]
theorem Jv (i:Nat):qm [] i=0:=rfl
theorem CO:0<qm E i↔∃e∈E,e.2=(i:Int):=by simp[qm,List.countP_pos_iff]
def jE (M:Nat->Nd):Nat->Nat->Nat
 |0,_=>0
 |k+1,i=>jE M k i+qm (M k).E i
theorem CP{M M':Nat->Nd}(h:∀a,a<k->(M' a).E=(M a).E)(i:Nat):jE M' k i=jE M k i:=by
 induction k with
 |zero=>rfl
 |succ k ih=>show _+_=_+_;rw[ih λa y=>h a (by omega),h k (by omega)]
theorem A5 (M:Nat->Nd)(d:Nat)(n:Nd)(i:Nat):∀k,d<k->jE (oI M d n) k i+qm (M d).E i=jE M k i+qm n.E i:=by
 intro k;induction k with
 |zero=>intro h;omega
 |succ k ih=>
  intro h;show(jE (oI M d n) k i+qm (oI M d n k).E i)+_=(jE M k i+qm (M k).E i)+_;by_cases e:d=k
  ·subst e
   rw[lR,CP (M:=M) (M':=oI M d n) (λa y=>by rw[cT M n (by omega)])];omega
  ·rw[cT M n (by omega)]
   have :=ih (by omega);omega
theorem nQ{M:Nat->Nd}:0<jE M k i↔∃a,a<k/\Edge M a i:=by
 induction k with
 |zero=>exact⟨λh=>by simp[jE] at h,λ⟨_,h,_⟩=>by omega⟩
 |succ k ih=>
  show 0<jE M k i+qm (M k).E i↔_;constructor
  ·intro h
   rcases eK (jE M k i) with z|z
   ·exact⟨k,by omega,CO.1 (by omega)⟩
   ·obtain⟨a,G,y⟩:=ih.1 z
    exact⟨a,by omega,y⟩
  ·rintro⟨a,G,y⟩
   by_cases e:a=k
   ·subst e
    have :=CO.2 y;omega
   ·have :=ih.2 ⟨a,by omega,y⟩
    omega
theorem Jw{M:Nat->Nd}(G:Edge M a i)(z:Edge M c i)(y:a<c):∀k,c<k->2<=jE M k i:=by
 intro k;induction k with
 |zero=>intro h;omega
 |succ k ih=>
  intro h;show 2<=jE M k i+qm (M k).E i;by_cases e:c=k
  ·subst e
   have U:=CO.2 z;have J:=nQ.2 ⟨a,y,G⟩;omega
  ·have :=ih (by omega)
   omega
structure dY (M:Nat->Nd):Prop where
 out:∀i,32<=i->M i=sU
 kind:∀i,M i=sU\/((M i).K=1/\(M i).E=[])\/((M i).K=2/\(M i).D=[])
 root:(M 0).K=2
 lead:∀i,∀e∈(M i).E,(0<=e.2/\e.2<32)/\(M e.2.toNat).K≠0
 rises:∀i,tU (M i).E
 links:∀i,i<32->((M i).K=1->(jE M 32 i:Int)=(M i).L/\1<=jE M 32 i)/\((M i).K=2->(M i).L=1/\(i=0->jE M 32 i=0)/\(i≠0->jE M 32 i=1))
 reach:∀i,(M i).K≠0->lv M 0 i
theorem dY.rng{M:Nat->Nd}(h:dY M){i:Nat}(z:(M i).K≠0):i<32:=by
 rcases dg i 32 with y|y
 ·exact y
 ·exact absurd (by rw[h.out i y];rfl) z
theorem dY.dir{M:Nat->Nd}(h:dY M){a b:Nat}(G:Edge M a b):(M a).K=2/\a<32/\(M b).K≠0/\b<32:=by
 obtain⟨e,z,G⟩:=G;have J:(M a).K=2:=by
  rcases h.kind a with y|⟨-,y⟩|y
  ·rw[y] at z;simp[sU] at z
  ·rw[y] at z;simp at z
  ·exact y.1
 have y:=h.lead a e z;rw[G,aJ] at y;exact⟨J,h.rng (by omega),y.2,by omega⟩
theorem dY.parent{M:Nat->Nd}(h:dY M){a c b:Nat}(U:(M b).K=2)(y:Edge M a b)(z:Edge M c b):a=c:=by
 have G:=((h.links b (h.dir y).2.2.2).2 U).2;have J:jE M 32 b<=1:=by
  by_cases e:b=0
  ·rw[G.1 e];omega
  ·rw[G.2 e];omega
 rcases Nat.lt_trichotomy a c with e|e|e
 ·have :=Jw y z e 32 (h.dir z).2.1;omega
 ·exact e
 ·have :=Jw z y e 32 (h.dir y).2.1;omega
theorem dY.noRoot{M:Nat->Nd}(h:dY M){a:Nat}:¬Edge M a 0:=λy=>by
 have z:=((h.links 0 (by omega)).2 h.root).2.1 rfl;have G:=nQ.2 ⟨a,(h.dir y).2.1,y⟩;omega
def aci (M:Nat->Nd) (a b:Nat):Prop:=∃c,lv M a c/\Edge M c b
theorem LO{M:Nat->Nd}(h:lv M a b):a=b\/∃c,Edge M a c/\lv M c b:=by
 induction h with
 |here=>exact .inl rfl
 |step h e ih=>
  rcases ih with rfl|⟨c,y,z⟩
  ·exact .inr ⟨_,e,.here⟩
  ·exact .inr ⟨c,y,z.step e⟩
theorem dY.acyclic{M:Nat->Nd}(h:dY M){x:Nat}(U:lv M 0 x):¬aci M x x:=by
 induction U with
 |here=>rintro⟨c,-,W⟩;exact h.noRoot W
 | @step a b _ e ih=>
  rintro⟨c,J,G⟩;have V:(M b).K=2:=by
   rcases LO J with rfl|⟨d,y,-⟩
   ·exact(h.dir G).1
   ·exact(h.dir y).1
  have z:=h.parent V G e;subst z;cases J with
  |here=>exact ih ⟨_,.here,e⟩
  |step y h4=>exact ih ⟨_,(lv.step .here e).trans y,h4⟩
def sK (M:Nat->Nd) (d:Nat) (E:List (ByteArray×Int)):Nat->Nd:=oI M d { M d with E:=E }
theorem nR (M:Nat->Nd)(d:Nat)(E:List (ByteArray×Int))(j:Nat):(sK M d E j).E=if j=d then E else (M j).E:=by
 unfold sK oI;by_cases h:j=d
 ·rw[aB h,aB h]
 ·rw[aA h,aA h]
theorem vC (M:Nat->Nd)(d:Nat)(E:List (ByteArray×Int))(j:Nat):(sK M d E j).K=(M j).K/\(sK M d E j).L=(M j).L/\(sK M d E j).D=(M j).D:=by
 unfold sK oI;by_cases h:j=d
 ·rw[aB h,h];exact⟨rfl,rfl,rfl⟩
 ·rw[aA h];exact⟨rfl,rfl,rfl⟩
theorem xP (M:Nat->Nd){d:Nat}(h:d<32)(E:List (ByteArray×Int))(i:Nat):jE (sK M d E) 32 i+qm (M d).E i=jE M 32 i+qm E i:=A5 M d _ i 32 h
def LP (M:Nat->Nd) (d i:Nat) (K:Int) (E:List (ByteArray×Int)):Nat->Nd:=sK (oI M i ⟨K,1,[],[]⟩) d E
theorem dY.noEdge{M:Nat->Nd}(h:dY M){i:Nat}(y:M i=sU)(a:Nat):¬Edge M a i:=λz=>(h.dir z).2.2.1 (by rw[y];rfl)
theorem dY.made{M:Nat->Nd}(h:dY M){d i:Nat}{K:Int}{A B:List (ByteArray×Int)}{nm:ByteArray}(hd:(M d).K=2)(G:M i=sU)(kg:i<32)(hK:K=1\/K=2)(hs:ia (M d).E A [] B nm):
  dY (LP M d i K (A++([(nm,(i:Int))]++B))):=by
 have Jy:=h.rng (i:=d) (by omega);have Z:d≠i:=λe=>by rw[e,G] at hd;simp[sU] at hd
 have Hb:(M d).E=A++B:=hs.eq;have W:∀j,(LP M d i K (A++([(nm,(i:Int))]++B)) j).K=if j=i then K else (M j).K:=λj=>by
  unfold LP;rw[(vC _ _ _ j).1];unfold oI;split<;>rfl
 have kL:∀j,(LP M d i K (A++([(nm,(i:Int))]++B)) j).L=if j=i then 1 else (M j).L:=λj=>by
  unfold LP;rw[(vC _ _ _ j).2.1];unfold oI;split<;>rfl
 have kE:∀j,(LP M d i K (A++([(nm,(i:Int))]++B)) j).E=if j=d then A++([(nm,(i:Int))]++B) else (M j).E:=λj=>by
  unfold LP;rw[nR];by_cases e:j=d
  ·rw[aB e,aB e]
  ·rw[aA e,aA e]
   unfold oI;by_cases z:j=i
   ·rw[aB z,z,G];rfl
   ·rw[aA z]
 have zY:∀a b,Edge M a b->Edge (LP M d i K (A++([(nm,(i:Int))]++B))) a b:=λa b ⟨e,hm,U⟩=>⟨e,by
  rw[kE];split
  ·next z=>rw[z,Hb] at hm;rcases aR.1 hm with y|y<;>simp[y]
  ·exact hm,U⟩
 have V:Edge (LP M d i K (A++([(nm,(i:Int))]++B))) d i:=⟨(nm,(i:Int)),by rw[kE,aB rfl];simp,rfl⟩;have ua:∀j,jE (LP M d i K (A++([(nm,(i:Int))]++B))) 32 j=jE M 32 j+if j=i then 1 else 0:=λj=>by
  have y:=xP (oI M i ⟨K,1,[],[]⟩) Jy (A++([(nm,(i:Int))]++B)) j;have h2:=A5 M i ⟨K,1,[],[]⟩ j 32 kg;rw[cT M _ Z,Hb,jw,jw,jw,tZ] at y;rw[G,show(sU).E=[] from rfl,Jv] at h2;unfold LP;by_cases e:j=i
  ·subst e;simp only[aB] at y ⊢;omega
  ·rw[aA (by omega)] at y;rw[aA e];omega
 refine⟨λj J=> ?_,λj=> ?_,?_,λj e U=> ?_,λj=> ?_,λj J=> ?_,λj J=> ?_⟩
 ·unfold LP sK
  rw[cT _ _ (by omega),cT _ _ (by omega)];exact h.out j J
 ·unfold LP sK
  by_cases e:j=d
  ·subst e
   rw[lR,cT _ _ Z];rcases h.kind j with y|y|y
   ·rw[y] at hd;simp[sU] at hd
   ·omega
   ·exact .inr (.inr ⟨y.1,y.2⟩)
  ·rw[cT _ _ e]
   by_cases z:j=i
   ·subst z
    rw[lR];rcases hK with rfl|rfl
    ·exact .inr (.inl ⟨rfl,rfl⟩)
    ·exact .inr (.inr ⟨rfl,rfl⟩)
   ·rw[cT _ _ z]
    exact h.kind j
 ·rw[W,aA (λe=>by rw[<-e] at G;have :=h.root;rw[G] at this;simp[sU] at this)]
  exact h.root
 ·rw[kE] at U
  have :e∈(M j).E\/e=(nm,(i:Int)):=by
   split at U
   ·next z=>
    rw[z,Hb];simp only[aR,au] at U ⊢;rcases U with y|y|y
    ·exact .inl (.inl y)
    ·exact .inr y
    ·exact .inl (.inr y)
   ·exact .inl U
  rcases this with y|rfl
  ·have :=h.lead j e y
   refine⟨this.1,?_⟩;rw[W];split
   ·omega
   ·exact this.2
  ·refine⟨by show(0:Int)<=(i:Int)/\(i:Int)<32;omega,?_⟩
   rw[W,aB (by simp)];omega
 ·rw[kE]
  split
  ·exact hs.rises (h.rises d) _ (.inr ⟨_,rfl⟩)
  ·exact h.rises j
 ·rw[W,kL,ua]
  by_cases e:j=i
  ·subst e
   have h0:jE M 32 j=0:=by
    rcases eK (jE M 32 j) with y|y
    ·exact y
    ·obtain⟨a,-,ha⟩:=nQ.1 y
     exact absurd ha (h.noEdge G a)
   have zz:j≠0:=λe=>by subst e;have :=h.root;rw[G] at this;simp[sU] at this
   simp only[aB,h0];exact⟨λ_=>⟨by first|rfl|trivial,by omega⟩,λ_=>⟨trivial,λh2=>absurd h2 zz,λ_=>by first|rfl|trivial⟩⟩
  ·simp only[aA e,dP]
   exact h.links j J
 ·rw[W] at J
  by_cases e:j=i
  ·subst e
   exact((h.reach d (by omega)).mono zY).step V
  ·rw[aA e] at J
   exact(h.reach j J).mono zY
def PA (M:Nat->Nd) (d i:Nat) (E:List (ByteArray×Int)):Nat->Nd:=sK (oI M i { M i with L:=(M i).L+1 }) d E
theorem dY.linked{M:Nat->Nd}(h:dY M){d i:Nat}{A B:List (ByteArray×Int)}{nm:ByteArray}(Z:(M d).K=2)(W:(M i).K=1)(hs:ia (M d).E A [] B nm):
  dY (PA M d i (A++([(nm,(i:Int))]++B))):=by
 have Jy:=h.rng (i:=d) (by omega);have kg:=h.rng (i:=i) (by omega);have U:d≠i:=λe=>by rw[e] at Z;omega
 have Hb:(M d).E=A++B:=hs.eq;have V:∀j,(PA M d i (A++([(nm,(i:Int))]++B)) j).K=(M j).K:=λj=>by
  unfold PA;rw[(vC _ _ _ j).1];unfold oI;split
  ·next e=>rw[e]
  ·rfl
 have kL:∀j,(PA M d i (A++([(nm,(i:Int))]++B)) j).L=(M j).L+if j=i then 1 else 0:=λj=>by
  unfold PA;rw[(vC _ _ _ j).2.1];unfold oI;split
  ·next e=>rw[e]
  ·simp
 have kE:∀j,(PA M d i (A++([(nm,(i:Int))]++B)) j).E=if j=d then A++([(nm,(i:Int))]++B) else (M j).E:=λj=>by
  unfold PA;rw[nR];by_cases e:j=d
  ·rw[aB e,aB e]
  ·rw[aA e,aA e]
   unfold oI;split
   ·next z=>rw[z]
   ·rfl
 have zY:∀a b,Edge M a b->Edge (PA M d i (A++([(nm,(i:Int))]++B))) a b:=λa b ⟨e,hm,G⟩=>⟨e,by
  rw[kE];split
  ·next z=>rw[z,Hb] at hm;rcases aR.1 hm with y|y<;>simp[y]
  ·exact hm,G⟩
 have ua:∀j,jE (PA M d i (A++([(nm,(i:Int))]++B))) 32 j=jE M 32 j+if j=i then 1 else 0:=λj=>by
  have h0:({ M i with L:=(M i).L+1 }:Nd).E=(M i).E:=rfl;unfold PA;generalize ({ M i with L:=(M i).L+1 }:Nd)=n0 at *;have y:=xP (oI M i n0) Jy (A++([(nm,(i:Int))]++B)) j;have h2:=A5 M i n0 j 32 kg;rw[cT M _ U,Hb,jw,jw,jw,tZ] at y;rw[h0] at h2;by_cases e:j=i
  ·subst e;simp only[aB] at y ⊢;omega
  ·rw[aA (by omega)] at y;rw[aA e];omega
 refine⟨λj J=> ?_,λj=> ?_,?_,λj e G=> ?_,λj=> ?_,λj J=> ?_,λj J=> ?_⟩
 ·unfold PA sK
  rw[cT _ _ (by omega),cT _ _ (by omega)];exact h.out j J
 ·unfold PA sK
  by_cases e:j=d
  ·subst e
   rw[lR,cT _ _ U];rcases h.kind j with y|y|y
   ·rw[y] at Z;simp[sU] at Z
   ·omega
   ·exact .inr (.inr ⟨y.1,y.2⟩)
  ·rw[cT _ _ e]
   by_cases z:j=i
   ·subst z
    rw[lR];rcases h.kind j with y|y|y
    ·rw[y] at W;simp[sU] at W
    ·exact .inr (.inl ⟨y.1,y.2⟩)
    ·omega
   ·rw[cT _ _ z]
    exact h.kind j
 ·rw[V]
  exact h.root
 ·rw[kE] at G
  have :e∈(M j).E\/e=(nm,(i:Int)):=by
   split at G
   ·next z=>
    rw[z,Hb];simp only[aR,au] at G ⊢;rcases G with y|y|y
    ·exact .inl (.inl y)
    ·exact .inr y
    ·exact .inl (.inr y)
   ·exact .inl G
  rw[V];rcases this with y|rfl
  ·exact h.lead j e y
  ·refine⟨by show(0:Int)<=(i:Int)/\(i:Int)<32;omega,?_⟩
   show(M (i:Int).toNat).K≠0;rw[aJ];omega
 ·rw[kE]
  split
  ·exact hs.rises (h.rises d) _ (.inr ⟨_,rfl⟩)
  ·exact h.rises j
 ·rw[V,kL,ua]
  have y:=h.links j J;by_cases e:j=i
  ·subst e
   simp only[aB];exact⟨λ_=>⟨by have :=(y.1 W).1;omega,by omega⟩,λh2=>by omega⟩
  ·simp only[aA e,dP,Int.add_zero]
   exact y
 ·rw[V] at J
  exact(h.reach j J).mono zY
def Dh (M:Nat->Nd) (d j:Nat) (E:List (ByteArray×Int)):Nat->Nd:=sK (oI M j (if (M j).L=1 then sU else { M j with L:=(M j).L-1 })) d E
theorem ia.leads(h:ia E A [(nm,(j:Int))] B nm):∃e∈E,e.2=(j:Int):=⟨(nm,(j:Int)),by rw[h.eq];simp,rfl⟩
theorem dY.notSelf{M:Nat->Nd}(h:dY M){d j:Nat}(y:Edge M d j):d≠j:=λe=>by
 subst e;exact h.acyclic (h.reach d (h.dir y).2.2.1) ⟨d,.here,y⟩
theorem dY.removed{M:Nat->Nd}(h:dY M){d j:Nat}{A B:List (ByteArray×Int)}{nm:ByteArray}(hj:(M j).E=[])(hs:ia (M d).E A [(nm,(j:Int))] B nm):
  dY (Dh M d j (A++B)):=by
 have aa:Edge M d j:=hs.leads;obtain⟨hd,Jy,W,Wk⟩:=h.dir aa;have af:=h.notSelf aa;have Hb:(M d).E=A++([(nm,(j:Int))]++B):=hs.eq;have zz:j≠0:=λe=>by subst e;exact h.noRoot aa
 have FL:1<=jE M 32 j:=nQ.2 ⟨d,Jy,aa⟩
 -- one link left, or a file with more
 have hL:((M j).L=1/\jE M 32 j=1)\/((M j).K=1/\(M j).L≠1/\(jE M 32 j:Int)=(M j).L/\2<=jE M 32 j):=by
  have y:=h.links j Wk;rcases h.kind j with Z|Z|Z
  ·rw[Z] at W;simp[sU] at W
  ·have h3:=(y.1 Z.1).1
   by_cases e:(M j).L=1
   ·exact .inl ⟨e,by omega⟩
   ·exact .inr ⟨Z.1,e,h3,by omega⟩
  ·exact .inl ⟨(y.2 Z.1).1,(y.2 Z.1).2.2 zz⟩
 have kk:∀x,(Dh M d j (A++B) x).K=if x=j/\(M j).L=1 then 0 else (M x).K:=λx=>by
  unfold Dh;rw[(vC _ _ _ x).1];unfold oI;by_cases e:x=j
  ·rw[aB e]
   by_cases z:(M j).L=1
   ·rw[aB z,aB ⟨e,z⟩];rfl
   ·rw[aA z,aA (λh=>z h.2),e]
  ·rw[aA e,aA (λh=>e h.1)]
 have kE:∀x,(Dh M d j (A++B) x).E=if x=d then A++B else (M x).E:=λx=>by
  unfold Dh;rw[nR];by_cases e:x=d
  ·rw[aB e,aB e]
  ·rw[aA e,aA e]
   unfold oI;by_cases z:x=j
   ·rw[aB z,z,hj]
    split
    ·rfl
    ·exact hj
   ·rw[aA z]
 have zY:∀a b,b≠j->Edge M a b->Edge (Dh M d j (A++B)) a b:=λa b hb ⟨e,G,J⟩=>⟨e,by
  rw[kE];split
  ·next z=>
   rw[z,Hb] at G;simp only[aR,au] at G ⊢;rcases G with y|y|y
   ·exact .inl y
   ·rw[y] at J
    have :(j:Int)=(b:Int):=J;omega
   ·exact .inr y
  ·exact G,J⟩
 have U:∀a b,Edge (Dh M d j (A++B)) a b->Edge M a b:=λa b ⟨e,G,J⟩=>⟨e,by
  rw[kE] at G;split at G
  ·next z=>rw[z,Hb];rcases aR.1 G with y|y<;>simp[y]
  ·exact G,J⟩
 have ua:∀x,jE (Dh M d j (A++B)) 32 x+(if x=j then 1 else 0)=jE M 32 x:=λx=>by
  have h3:qm (if (M j).L=1 then sU else { M j with L:=(M j).L-1 }).E x=0:=by
   split
   ·rfl
   ·show qm (M j).E x=0;rw[hj];rfl
  unfold Dh;generalize (if (M j).L=1 then sU else { M j with L:=(M j).L-1 })=n0 at *;have y:=xP (oI M j n0) Jy (A++B) x;have Z:=A5 M j n0 x 32 Wk;rw[cT M _ af,Hb,jw,jw,jw,tZ] at y;rw[hj,h3,Jv] at Z;by_cases e:x=j
  ·subst e;simp only[aB] at y ⊢;omega
  ·rw[aA (by omega)] at y;rw[aA e];omega
 have ah:∀a,¬Edge M j a:=λa ⟨e,G,_⟩=>by rw[hj] at G;simp at G
 have XM:∀x,lv M 0 x->x≠j->lv (Dh M d j (A++B)) 0 x:=λx V=>by
  induction V with
  |here=>exact λ_=> .here
  | @step a b _ J ih=>exact λhb=>(ih λe=>by subst e;exact ah _ J).step (zY _ _ hb J)
 refine⟨λx V=> ?_,λx=> ?_,?_,λx e J=> ?_,λx=> ?_,λx V=> ?_,λx V=> ?_⟩
 ·unfold Dh sK
  rw[cT _ _ (by omega),cT _ _ (by omega)];exact h.out x V
 ·unfold Dh sK
  by_cases e:x=d
  ·subst e
   rw[lR,cT _ _ af];rcases h.kind x with y|y|y
   ·rw[y] at hd;simp[sU] at hd
   ·omega
   ·exact .inr (.inr ⟨y.1,y.2⟩)
  ·rw[cT _ _ e]
   by_cases z:x=j
   ·subst z
    rw[lR];split
    ·exact .inl rfl
    ·rcases h.kind x with y|y|y
     ·rw[y] at W;simp[sU] at W
     ·exact .inr (.inl ⟨y.1,y.2⟩)
     ·exact .inr (.inr ⟨y.1,y.2⟩)
   ·rw[cT _ _ z]
    exact h.kind x
 ·rw[kk,aA (λe=>zz e.1.symm)]
  exact h.root
 ·have G:e∈(M x).E:=by
   rw[kE] at J;split at J
   ·next z=>rw[z,Hb];rcases aR.1 J with y|y<;>simp[y]
   ·exact J
  have y:=h.lead x e G;refine⟨y.1,?_⟩;rw[kk];rw[aA]
  ·exact y.2
  ·rintro⟨e1,z⟩
   have h3:Edge (Dh M d j (A++B)) x j:=⟨e,J,by omega⟩;have ag:x<32:=(h.dir (U _ _ h3)).2.1;have h4:=nQ.2 ⟨x,ag,h3⟩;have h5:=ua j;rw[aB rfl] at h5;rcases hL with h6|h6<;>omega
 ·rw[kE]
  split
  ·have :=hs.rises (h.rises d) [] (.inl rfl)
   simpa using this
  ·exact h.rises x
 ·have h5:=ua x
  by_cases e:x=j
  ·subst e
   rw[aB rfl] at h5;rcases hL with h6|h6
   ·rw[kk,aB ⟨rfl,h6.1⟩]
    exact⟨λh=>by omega,λh=>by omega⟩
   ·rw[kk,aA (λh=>h6.2.1 h.2)]
    have ac:(Dh M d x (A++B) x).L=(M x).L-1:=by
     unfold Dh;rw[(vC _ _ _ x).2.1,lR,aA h6.2.1]
    rw[ac];exact⟨λ_=>⟨by omega,by omega⟩,λh=>by omega⟩
  ·rw[aA e] at h5
   have ac:(Dh M d j (A++B) x).L=(M x).L:=by
    unfold Dh;rw[(vC _ _ _ x).2.1,cT _ _ e]
   rw[kk,aA (λh=>e h.1),ac,show jE (Dh M d j (A++B)) 32 x=jE M 32 x by omega];exact h.links x V
 ·by_cases e:x=j
  ·subst e
   rw[kk] at V;have h5:=ua x;rw[aB rfl] at h5;rcases hL with h6|h6
   ·rw[aB ⟨rfl,h6.1⟩] at V;exact absurd rfl V
   ·obtain⟨a,ha,ae⟩:=nQ.1 (show 0<jE (Dh M d x (A++B)) 32 x by omega)
    have h7:=U _ _ ae;exact(XM a (h.reach a (by have :=(h.dir h7).1;omega)) (h.notSelf h7)).step ae
  ·rw[kk,aA (λh=>e h.1)] at V
   exact XM x (h.reach x V) e
def GC (M:Nat->Nd) (d t:Nat) (E h:List (ByteArray×Int)):Nat->Nd:=sK (sK M d E) t h
theorem dY.moved{M:Nat->Nd}(h:dY M){d t i:Nat}{A B U V:List (ByteArray×Int)}{nm J:ByteArray}(hs:ia (M d).E A [(nm,(i:Int))] B nm)(ht:(M t).K=2)(aa:ia (sK M d (A++B) t).E U [] V J)
  (hb:¬lv M i t):dY (GC M d t (A++B) (U++([(J,(i:Int))]++V))):=by
 have ai:Edge M d i:=hs.leads;obtain⟨hd,Jy,ah,kg⟩:=h.dir ai;have ae:=h.rng (i:=t) (by omega);have Hb:(M d).E=A++([(nm,(i:Int))]++B):=hs.eq;have Z:(sK M d (A++B) t).E=U++V:=aa.eq;have kk:∀x,(GC M d t (A++B) (U++([(J,(i:Int))]++V)) x).K=(M x).K/\(GC M d t (A++B) (U++([(J,(i:Int))]++V)) x).L=(M x).L/\(GC M d t (A++B) (U++([(J,(i:Int))]++V)) x).D=(M x).D:=λx=>by
  have z:=vC (sK M d (A++B)) t (U++([(J,(i:Int))]++V)) x;have h2:=vC M d (A++B) x;exact⟨z.1.trans h2.1,z.2.1.trans h2.2.1,z.2.2.trans h2.2.2⟩
 have e1:∀a b,Edge M a b->Edge (sK M d (A++B)) a b\/(a=d/\b=i):=λa b ⟨e,hm,G⟩=>by
  by_cases e2:a=d
  ·rw[e2,Hb] at hm
   simp only[aR,au] at hm;rcases hm with z|z|z
   ·exact .inl ⟨e,by rw[nR,aB e2];simp[z],G⟩
   ·right
    rw[z] at G;have h2:(i:Int)=(b:Int):=G;exact⟨e2,by omega⟩
   ·exact .inl ⟨e,by rw[nR,aB e2];simp[z],G⟩
  ·exact .inl ⟨e,by rw[nR,aA e2];exact hm,G⟩
 have e2:∀a b,Edge (sK M d (A++B)) a b->Edge (GC M d t (A++B) (U++([(J,(i:Int))]++V))) a b:=λa b ⟨e,hm,G⟩=>⟨e,by
  unfold GC;rw[nR];split
  ·next e3=>rw[e3,Z] at hm;rcases aR.1 hm with z|z<;>simp[z]
  ·exact hm,G⟩
 have e3:Edge (GC M d t (A++B) (U++([(J,(i:Int))]++V))) t i:=⟨(J,(i:Int)),by unfold GC;rw[nR,aB rfl];simp,rfl⟩;have ua:∀x,jE (GC M d t (A++B) (U++([(J,(i:Int))]++V))) 32 x=jE M 32 x:=λx=>by
  have z:=xP M Jy (A++B) x;have h2:=xP (sK M d (A++B)) ae (U++([(J,(i:Int))]++V)) x;rw[Hb,jw,jw,jw,tZ] at z;rw[Z,jw,jw,jw,tZ] at h2;unfold GC;omega
 have af:∀x,lv M 0 x->¬lv M i x->lv (GC M d t (A++B) (U++([(J,(i:Int))]++V))) 0 x:=λx hx=>by
  induction hx with
  |here=>exact λ_=> .here
  | @step a b _ G ih=>
   intro hn;rcases e1 _ _ G with z|⟨-,z⟩
   ·exact(ih λhc=>hn (hc.step G)).step (e2 _ _ z)
   ·rw[z] at hn;exact absurd lv.here hn
 have ac:lv (GC M d t (A++B) (U++([(J,(i:Int))]++V))) 0 i:=(af t (h.reach t (by omega)) hb).step e3;refine⟨λx hx=> ?_,λx=> ?_,?_,λx e G=> ?_,λx=> ?_,λx hx=> ?_,λx hx=> ?_⟩
 ·unfold GC sK
  rw[cT _ _ (by omega),cT _ _ (by omega)];exact h.out x hx
 ·obtain⟨k1,k2,k3⟩:=kk x
  by_cases ex:x=d\/x=t
  ·right;right
   rw[k1,k3];have :(M x).K=2:=by rcases ex with rfl|rfl<;>assumption
   refine⟨this,?_⟩;rcases h.kind x with z|z|z
   ·rw[z] at this;simp[sU] at this
   ·omega
   ·exact z.2
  ·have :GC M d t (A++B) (U++([(J,(i:Int))]++V)) x=M x:=by
    unfold GC sK;rw[cT _ _ (λe=>ex (.inr e)),cT _ _ (λe=>ex (.inl e))]
   rw[this];exact h.kind x
 ·rw[(kk 0).1];exact h.root
 ·rw[(kk _).1]
  have :e∈(M x).E\/e=(J,(i:Int)):=by
   unfold GC at G;have W:∀y,∀e∈(sK M d (A++B) y).E,e∈(M y).E:=λy e G=>by
    rw[nR] at G;split at G
    ·next e4=>rw[e4,Hb];rcases aR.1 G with z|z<;>simp[z]
    ·exact G
   rw[nR] at G;split at G
   ·next e4=>
    simp only[aR,au] at G;rcases G with z|z|z
    ·exact .inl (W x e (by rw[e4,Z];simp[z]))
    ·exact .inr z
    ·exact .inl (W x e (by rw[e4,Z];simp[z]))
   ·exact .inl (W x e G)
  rcases this with z|rfl
  ·exact h.lead x e z
  ·refine⟨by show(0:Int)<=(i:Int)/\(i:Int)<32;omega,?_⟩
   show(M (i:Int).toNat).K≠0;rw[aJ];exact ah
 ·have hr:∀y,tU (sK M d (A++B) y).E:=λy=>by
   rw[nR];split
   ·have :=hs.rises (h.rises d) [] (.inl rfl)
    simpa using this
   ·exact h.rises y
  unfold GC;rw[nR];split
  ·exact aa.rises (hr t) _ (.inr ⟨_,rfl⟩)
  ·exact hr x
 ·rw[(kk x).1,(kk x).2.1,ua]
  exact h.links x hx
 ·rw[(kk x).1] at hx
  have ag:=h.reach x hx;clear hx;induction ag with
  |here=>exact .here
  | @step a b ha G ih=>
   rcases e1 _ _ G with z|⟨-,z⟩
   ·exact ih.step (e2 _ _ z)
   ·rw[z];exact ac
theorem dY.data{M:Nat->Nd}(h:dY M){i:Nat}(U:(M i).K=1)(D:List Int):dY (oI M i { M i with D:=D }):=by
 have y:∀x,(oI M i { M i with D:=D } x).K=(M x).K/\(oI M i { M i with D:=D } x).L=(M x).L/\(oI M i { M i with D:=D } x).E=(M x).E:=λx=>by
  unfold oI;split
  ·next e=>rw[e];exact⟨rfl,rfl,rfl⟩
  ·exact⟨rfl,rfl,rfl⟩
 have Z:∀x,jE (oI M i { M i with D:=D }) 32 x=jE M 32 x:=λx=>CP (λa _=>(y a).2.2) x
 have V:∀a b,Edge M a b->Edge (oI M i { M i with D:=D }) a b:=λa b ⟨e,W,J⟩=>⟨e,by rw[(y a).2.2];exact W,J⟩
 have kg:=h.rng (i:=i) (by omega);refine⟨λx z=>by rw[cT _ _ (by omega)];exact h.out x z,λx=> ?_,by rw[(y 0).1];exact h.root,λx e J=> ?_,λx=>by rw[(y x).2.2];exact h.rises x,λx z=> ?_,λx z=> ?_⟩
 ·by_cases e:x=i
  ·subst e
   rw[lR];rcases h.kind x with G|G|G
   ·rw[G] at U;simp[sU] at U
   ·exact .inr (.inl ⟨G.1,G.2⟩)
   ·omega
  ·rw[cT _ _ e];exact h.kind x
 ·rw[(y x).2.2] at J
  rw[(y _).1];exact h.lead x e J
 ·rw[(y x).1,(y x).2.1,Z]
  exact h.links x z
 ·rw[(y x).1] at z
  exact(h.reach x z).mono V
theorem jF (h:ia E A M B nm)(J:∀p∈E,0<=p.2):(bS E nm<0↔M=[])/\(0<=bS E nm->M=[(nm,bS E nm)]):=by
 have G:bS E nm=bS (M++B) nm:=by
  rw[h.eq,zb A _ nm λp z=>rT (h.ahead p z)]
 rcases h.one with rfl|⟨i,rfl⟩
 ·have y:bS E nm= -1:=by
   rw[G,bT];exact wC B nm λp z e=>rT (h.behind p z) e.symm
  rw[y];exact⟨⟨λ_=>rfl,λ_=>by omega⟩,λh=>by omega⟩
 ·have y:bS E nm=i:=by
   rw[G];show(if nm=nm then i else _)=i;rw[aB rfl]
  have U:0<=i:=J (nm,i) (by rw[h.eq];simp);rw[y];exact⟨⟨λh=>by omega,λh=>by simp at h⟩,λ_=>rfl⟩
def ub:List (ByteArray×Int)->ByteArray×Int->List (ByteArray×Int)
 | [],x=>[x]
 |p::E,x=>if Op.bytesLess x.1.toList p.1.toList=true then x::p::E else p::ub E x
theorem wF (h:ia E A [] B nm)(i:Int):ub E (nm,i)=A++([(nm,i)]++B):=by
 have z:∀(A B:List (ByteArray×Int)),(∀p∈A,EW p.1 nm)->(∀p∈B,EW nm p.1)->ub (A++B) (nm,i)=A++([(nm,i)]++B):=by
  intro A;induction A with
  |nil=>
   intro B _ y;cases B with
   |nil=>rfl
   |cons p B=>
    show(if Op.bytesLess nm.toList p.1.toList=true then _ else _)=_;rw[aB (show Op.bytesLess nm.toList p.1.toList=true from y p (by simp))];rfl
  |cons p A ih=>
   intro B G y;show(if Op.bytesLess nm.toList p.1.toList=true then _ else p::ub (A++B) (nm,i))=_;rw[aA,ih B (λq U=>G q (by simp[U])) y]
   ·rfl
   ·intro V
    exact kp _ (qU (G p (by simp)) V)
 have J:E=A++B:=h.eq;rw[J];exact z A B h.ahead h.behind
def l7 (E:List (ByteArray×Int)) (nm:ByteArray):List (ByteArray×Int):=E.filter λp=>decide (p.1≠nm)
theorem wG (h:ia E A M B nm):l7 E nm=A++B:=by
 have J:l7 A nm=A:=List.filter_eq_self.2 λp y=>by
  have :p.1≠nm:=rT (h.ahead p y);simpa using this
 have z:l7 B nm=B:=List.filter_eq_self.2 λp y=>by
  have :p.1≠nm:=λe=>rT (h.behind p y) e.symm
  simpa using this
 have G:l7 M nm=[]:=by
  rcases h.one with rfl|⟨i,rfl⟩
  ·rfl
  ·simp[l7]
 have U:l7 E nm=l7 A nm++(l7 M nm++l7 B nm):=by
  rw[h.eq];simp[l7]
 rw[U,J,z,G];rfl
structure pX where
 K:Int
 P:List ByteArray
 Q:List ByteArray
 O:Int
 N:Int
 D:List Int
structure lS where
 E:Int
 N:Int
 K:Int
 L:Int
 I:Int
 D:List Int
 S:List (ByteArray×Int)
def mB:lS:=⟨0,0,0,0,0,[],[]⟩
def fY (e:Int):lS:={ mB with E:=e }
def kM (l:List ByteArray):Bool:=l.all λs=>gA (bl s)
def ij (M:Nat->Nd):Nat->List ByteArray->Nat×Int
 |a,[]=>(a,0)
 |a,p::ps=>if (M a).K=2 then (if bS (M a).E p<0 then (0,2) else ij M (bS (M a).E p).toNat ps) else (0,4)
def iJ (M:Nat->Nd) (p:List ByteArray):Nat×Int:=if kM p=true then ij M 0 p else (0,1)
def cY (M:Nat->Nd) (p:List ByteArray):Nat×Int:=
 if p=[]\/kM p=false then (0,1) else
  if (ij M 0 p.dropLast).2=0/\(M (ij M 0 p.dropLast).1).K≠2 then (0,4) else ij M 0 p.dropLast
def cm (p:List ByteArray):ByteArray:=p.getLastD ByteArray.empty
def qV (M:Nat->Nd):Option Nat:=(List.range 32).find? λi=>(M i).K==0
def LQ (D:List Int) (n:Nat):List Int:=D.take n++List.replicate (n-D.length) 0
def Fh (D:List Int) (o:Nat) (x:List Int):List Int:=(LQ D (max D.length (o+x.length))).take o++(x++D.drop (o+x.length))
def CQ (M:Nat->Nd) (o:pX):(Nat->Nd)×lS:=
 if o.P=[] then (M,fY 3) else
 if (cY M o.P).2≠0 then (M,fY (cY M o.P).2) else
 if 0<=bS (M (cY M o.P).1).E (cm o.P) then (M,fY 3) else
 match qV M with
 |none=>(M,fY 7)
 |some i=>if (M (cY M o.P).1).E.length<24 then (LP M (cY M o.P).1 i (1+o.K) (ub (M (cY M o.P).1).E (cm o.P,(i:Int))),{ mB with N:=(i:Int) }) else (M,fY 7)
def M9 (M:Nat->Nd) (o:pX):(Nat->Nd)×lS:=
 if (iJ M o.P).2≠0 then (M,fY (iJ M o.P).2) else
 if (M (iJ M o.P).1).K=2 then (M,fY 5) else
 if (o.K≠4/\o.O<0)\/(o.K≠2/\o.N<0) then (M,fY 1) else
 if o.K=3 then (M,{ mB with D:=((M (iJ M o.P).1).D.drop o.O.toNat).take o.N.toNat }) else
 if o.K=4 then
  if 832<o.N then (M,fY 8) else (oI M (iJ M o.P).1 { M (iJ M o.P).1 with D:=LQ (M (iJ M o.P).1).D o.N.toNat },mB)
 else
  if 832<o.O\/(832:Int)-o.O<o.D.length then (M,fY 8) else
  if o.D=[] then (M,mB) else
   (oI M (iJ M o.P).1 { M (iJ M o.P).1 with D:=Fh (M (iJ M o.P).1).D o.O.toNat o.D },{ mB with N:=(o.D.length:Int) })
def QM (M:Nat->Nd) (d:Nat) (nm:ByteArray):Nat->Nd:=Dh M d (bS (M d).E nm).toNat (l7 (M d).E nm)
def A7 (M:Nat->Nd) (o:pX):(Nat->Nd)×lS:=
 if o.P=[]/\o.K=5 then (M,fY 5) else
 if (cY M o.P).2≠0 then (M,fY (cY M o.P).2) else
 if bS (M (cY M o.P).1).E (cm o.P)<0 then (M,fY 2) else
 if o.K=5/\(M (bS (M (cY M o.P).1).E (cm o.P)).toNat).K=2 then (M,fY 5) else
 if o.K=6/\(M (bS (M (cY M o.P).1).E (cm o.P)).toNat).K≠2 then (M,fY 4) else
 if o.K=6/\(M (bS (M (cY M o.P).1).E (cm o.P)).toNat).E≠[] then (M,fY 6) else
 (QM M (cY M o.P).1 (cm o.P),mB)
def Na (M:Nat->Nd) (i j:Nat):Int:=
 if (M i).K=1/\(M j).K=2 then 5 else if (M i).K=2/\(M j).K=1 then 4 else if (M j).K=2/\(M j).E≠[] then 6 else 0
def goM (M:Nat->Nd) (d t i:Nat) (nm h:ByteArray):Nat->Nd:=
 GC M d t (l7 (M d).E nm) (ub (sK M d (l7 (M d).E nm) t).E (h,(i:Int)))
open Classical in
noncomputable def A8 (M:Nat->Nd) (o:pX):(Nat->Nd)×lS:=
 if o.P=[]\/o.Q=[] then (M,fY 1) else
 if (cY M o.P).2≠0 then (M,fY (cY M o.P).2) else
 if bS (M (cY M o.P).1).E (cm o.P)<0 then (M,fY 2) else
 if (cY M o.Q).2≠0 then (M,fY (cY M o.Q).2) else
 if bS (M (cY M o.Q).1).E (cm o.Q)=bS (M (cY M o.P).1).E (cm o.P) then (M,mB) else
 if lv M (bS (M (cY M o.P).1).E (cm o.P)).toNat (cY M o.Q).1 then (M,fY 11) else
 if 0<=bS (M (cY M o.Q).1).E (cm o.Q) then
  if Na M (bS (M (cY M o.P).1).E (cm o.P)).toNat (bS (M (cY M o.Q).1).E (cm o.Q)).toNat≠0 then
   (M,fY (Na M (bS (M (cY M o.P).1).E (cm o.P)).toNat (bS (M (cY M o.Q).1).E (cm o.Q)).toNat)) else
   (goM (QM M (cY M o.Q).1 (cm o.Q)) (cY M o.P).1 (cY M o.Q).1 (bS (M (cY M o.P).1).E (cm o.P)).toNat (cm o.P) (cm o.Q),mB)
 else
  if (cY M o.P).1≠(cY M o.Q).1/\24<=(M (cY M o.Q).1).E.length then (M,fY 7) else
   (goM M (cY M o.P).1 (cY M o.Q).1 (bS (M (cY M o.P).1).E (cm o.P)).toNat (cm o.P) (cm o.Q),mB)
def Nb (M:Nat->Nd) (o:pX):(Nat->Nd)×lS:=
 if (iJ M o.P).2≠0 then (M,fY (iJ M o.P).2) else
 if (M (iJ M o.P).1).K=2 then (M,fY 5) else
 if o.Q=[] then (M,fY 3) else
 if (cY M o.Q).2≠0 then (M,fY (cY M o.Q).2) else
 if 0<=bS (M (cY M o.Q).1).E (cm o.Q) then (M,fY 3) else
 if 24<=(M (cY M o.Q).1).E.length then (M,fY 7) else
 (PA M (cY M o.Q).1 (iJ M o.P).1 (ub (M (cY M o.Q).1).E (cm o.Q,((iJ M o.P).1:Int))),mB)
def acj (M:Nat->Nd) (o:pX):lS:=
 if (iJ M o.P).2≠0 then fY (iJ M o.P).2 else
 if o.K=10 then { mB with N:=((M (iJ M o.P).1).D.length+(M (iJ M o.P).1).E.length:Nat),K:=(M (iJ M o.P).1).K,L:=(M (iJ M o.P).1).L,I:=((iJ M o.P).1:Int) } else
 if (M (iJ M o.P).1).K≠2 then fY 4 else { mB with S:=(M (iJ M o.P).1).E }
noncomputable def yf (M:Nat->Nd) (o:pX):(Nat->Nd)×lS:=
 if o.K=0\/o.K=1 then CQ M o else
 if o.K=2\/o.K=3\/o.K=4 then M9 M o else
 if o.K=5\/o.K=6 then A7 M o else
 if o.K=7 then A8 M o else
 if o.K=8 then Nb M o else
 if o.K=9\/o.K=10 then (M,acj M o) else
 if o.K=11 then (M,if o.N=1\/o.N=2 then mB else fY 1) else
 if o.K=12 then (M,mB) else (M,fY 1)
theorem zf {M:Nat->Nd}(h:dY M):∀(p:List ByteArray) (a:Nat),(M a).K≠0->(ij M a p).2=0->(M (ij M a p).1).K≠0/\lv M a (ij M a p).1
 | [],a,ha,_=>⟨ha,.here⟩
 |p::ps,a,ha,he=>by
  unfold ij at he ⊢;by_cases U:(M a).K=2
  ·rw[aB U] at he ⊢
   by_cases z:bS (M a).E p<0
   ·rw[aB z] at he;simp at he
   ·rw[aA z] at he ⊢
    obtain⟨A,X,B,V⟩:=kv (h.rises a) p;have Z:=(jF V λq W=>(h.lead a q W).1.1).2 (by omega);have J:(p,bS (M a).E p)∈(M a).E:=by
     have y:=V.eq;rw[Z] at y;exact(b8 (λl=>(p,bS (M a).E p)∈l) y).mpr (by simp)
    have y:=h.lead a _ J;have G:=zf h ps (bS (M a).E p).toNat y.2 he;exact⟨G.1,(lv.step .here ⟨_,J,by show bS (M a).E p=_;omega⟩).trans G.2⟩
  ·rw[aA U] at he;simp at he
theorem Fj{M:Nat->Nd}(h:dY M){p:List ByteArray}(y:(iJ M p).2=0):(M (iJ M p).1).K≠0/\kM p=true:=by
 unfold iJ at y ⊢;split at y
 ·next e=>rw[aB e];exact⟨(zf h p 0 (by rw[h.root];omega) y).1,e⟩
 ·simp at y
theorem qW{M:Nat->Nd}{p:List ByteArray}(z:(cY M p).2=0):(M (cY M p).1).K=2/\gA (bl (cm p))=true/\p≠[]/\kM p=true:=by
 unfold cY at z ⊢;split at z
 ·simp at z
 ·next e=>
  rw[aA e];have U:p≠[]:=λh=>e (.inl h)
  have G:kM p=true:=by
   cases h:kM p
   ·exact absurd (.inr h) e
   ·rfl
  have V:gA (bl (cm p))=true:=by
   unfold kM at G;rw[fg] at G;apply G;unfold cm;cases p with
   |nil=>exact absurd rfl U
   |cons x xs=>rw[List.getLastD_cons,List.getLastD_eq_getLast?];exact(by
     cases hx:(xs.getLast?) with
     |none=>simp
     |some y=>simp;exact .inr (List.mem_of_getLast? hx))
  split at z
  ·simp at z
  ·next e2=>
   rw[aA e2];refine⟨?_,V,U,G⟩;by_cases J:(M (ij M 0 p.dropLast).1).K=2
   ·exact J
   ·exact absurd ⟨z,J⟩ e2
theorem Te{M:Nat->Nd}(h:dY M){i:Nat}(y:qV M=some i):M i=sU/\i<32:=by
 unfold qV at y;have J:=List.find?_some y;have G:=List.mem_of_find?_eq_some y;rw[bP] at G;refine⟨?_,G⟩;rcases h.kind i with z|z|z
 ·exact z
 ·simp at J;omega
 ·simp at J;omega
structure lL (M:Nat->Nd):Prop where
 names:∀i,∀e∈(M i).E,gA (bl e.1)=true
 len:∀i,(M i).E.length<=24
 data:∀i,(M i).D.length<=832
 bytes:∀i,∀x∈(M i).D,0<=x/\x<256
theorem lL.up{M:Nat->Nd}(h:lL M)(i:Nat){n:Nd}(J:∀e∈n.E,gA (bl e.1)=true)(z:n.E.length<=24)(G:n.D.length<=832)(U:∀x∈n.D,0<=x/\x<256):lL (oI M i n):=by
 have y:∀(P:Nd->Prop),(∀j,P (M j))->P n->∀j,P (oI M i n j):=λP a b j=>by unfold oI;split;exact b;exact a j
 exact⟨y (λm=>∀e∈m.E,gA (bl e.1)=true) h.names J,y (λm=>m.E.length<=24) h.len z,y (λm=>m.D.length<=832) h.data G,y (λm=>∀x∈m.D,0<=x/\x<256) h.bytes U⟩
theorem lL.ed{M:Nat->Nd}(h:lL M)(d:Nat){E:List (ByteArray×Int)}(y:∀e∈E,gA (bl e.1)=true)(z:E.length<=24):lL (sK M d E):=h.up d y z (h.data d) (h.bytes d)
theorem Jz (D:List Int)(n:Nat):(LQ D n).length=n:=by unfold LQ;simp;omega
theorem PB (D:List Int)(o:Nat)(x:List Int):(Fh D o x).length=max D.length (o+x.length):=by unfold Fh;simp[Jz];omega
theorem JA{n:Nat}{y:Int}(h:y∈LQ D n):y∈D\/y=0:=by
 unfold LQ at h;rcases aR.1 h with z|z
 ·exact .inl (bQ z)
 ·exact .inr (List.eq_of_mem_replicate z)
theorem PC{o:Nat}{x:List Int}{y:Int}(h:y∈Fh D o x):y∈D\/y=0\/y∈x:=by
 unfold Fh at h;simp only[aR] at h;rcases h with z|z|z
 ·rcases JA (bQ z) with G|G
  ·exact .inl G
  ·exact .inr (.inl G)
 ·exact .inr (.inr z)
 ·exact .inl (List.mem_of_mem_drop z)
theorem pM{e:ByteArray×Int}(h:e∈l7 E nm):e∈E:=(List.mem_filter.1 h).1
theorem JB (E:List (ByteArray×Int))(nm:ByteArray):(l7 E nm).length<=E.length:=fH _ _
theorem CR {x e:ByteArray×Int}:∀{E:List (ByteArray×Int)},e∈ub E x->e=x\/e∈E
 | [],h=> .inl (by simpa[ub] using h)
 |p::E,h=>by
  unfold ub at h;split at h
  ·rcases aQ.1 h with y|y
   ·exact .inl y
   ·exact .inr y
  ·rcases aQ.1 h with y|y
   ·exact .inr (by rw[y];simp)
   ·rcases CR y with z|z
    ·exact .inl z
    ·exact .inr (by simp[z])
theorem CS (x:ByteArray×Int):∀E:List (ByteArray×Int),(ub E x).length=E.length+1
 | []=>rfl
 |p::E=>by
  unfold ub;split
  ·rfl
  ·simp[CS x E]
theorem xQ{M:Nat->Nd}(h:dY M)(d:Nat)(nm:ByteArray):bS (M d).E nm<0\/(0<=bS (M d).E nm/\∃A B,ia (M d).E A [(nm,bS (M d).E nm)] B nm/\l7 (M d).E nm=A++B/\(l7 (M d).E nm).length+1=(M d).E.length):=by
 obtain⟨A,X,B,y⟩:=kv (h.rises d) nm;have U:=jF y λq J=>(h.lead d q J).1.1
 rcases Int.lt_or_le (bS (M d).E nm) 0 with z|z
 ·exact .inl z
 ·have G:=U.2 z
  subst G;refine .inr ⟨z,A,B,y,wG y,?_⟩;rw[wG y];have :=b8 List.length y.eq;simp at this ⊢;omega
theorem CT{M:Nat->Nd}(h:dY M){d:Nat}{nm:ByteArray}(z:bS (M d).E nm<0):∃A B,ia (M d).E A [] B nm/\∀i,ub (M d).E (nm,i)=A++([(nm,i)]++B):=by
 obtain⟨A,X,B,y⟩:=kv (h.rises d) nm;have J:=(jF y λq G=>(h.lead d q G).1.1).1.1 z;subst J;exact⟨A,B,y,λi=>wF y i⟩
theorem oW{M:Nat->Nd}(h:dY M){d:Nat}{nm:ByteArray}(U:0<=bS (M d).E nm):Edge M d (bS (M d).E nm).toNat/\(M (bS (M d).E nm).toNat).K≠0/\(((bS (M d).E nm).toNat:Nat):Int)=bS (M d).E nm/\bS (M d).E nm<32:=by
 rcases xQ h d nm with G|⟨G,A,B,J,-⟩
 ·omega
 ·have y:Edge M d (bS (M d).E nm).toNat:=⟨(nm,bS (M d).E nm),by
   exact(b8 (λl=>(nm,bS (M d).E nm)∈l) J.eq).mpr (by simp),by show bS (M d).E nm=_;omega⟩
  have z:=h.dir y;exact⟨y,z.2.2.1,by omega,by omega⟩
theorem JC (nm:ByteArray):bS (l7 E nm) nm<0:=by
 rw[wC]
 ·omega
 ·intro p h
  have :=(List.mem_filter.1 h).2;simpa using this
theorem lL.del{M:Nat->Nd}(h:lL M)(d:Nat)(nm:ByteArray):lL (sK M d (l7 (M d).E nm)):=h.ed d (λe y=>h.names d e (pM y)) (cJ (JB _ _) (h.len d))
theorem lL.ins{M:Nat->Nd}(h:lL M)(d:Nat){nm:ByteArray}(z:gA (bl nm)=true)(i:Int)(J:(M d).E.length<24):lL (sK M d (ub (M d).E (nm,i))):=h.ed d (λe y=>by
 rcases CR y with rfl|G
 ·exact z
 ·exact h.names d e G) (by rw[CS];omega)
theorem Nc{M:Nat->Nd}(h:dY M)(hF:lL M){d:Nat}{nm:ByteArray}(G:0<=bS (M d).E nm)(U:(M (bS (M d).E nm).toNat).E=[]):dY (QM M d nm)/\lL (QM M d nm):=by
 rcases xQ h d nm with W|⟨W,A,B,Z,J,hl⟩
 ·omega
 ·obtain⟨y,hk,V,-⟩:=oW h G
  constructor
  ·have :=h.removed (j:=(bS (M d).E nm).toNat) (nm:=nm) (A:=A) (B:=B) U (by rw[V];exact Z)
   unfold QM;rw[J];exact this
  ·have z:lL (oI M (bS (M d).E nm).toNat (if (M (bS (M d).E nm).toNat).L=1 then sU else { M (bS (M d).E nm).toNat with L:=(M (bS (M d).E nm).toNat).L-1 })):=by
    refine hF.up _ ?_ ?_ ?_ ?_
    ·split
     ·intro e y;simp[sU] at y
     ·exact hF.names _
    ·split
     ·simp[sU]
     ·exact hF.len _
    ·split
     ·simp[sU]
     ·exact hF.data _
    ·split
     ·intro e y;simp[sU] at y
     ·exact hF.bytes _
   exact z.ed d (λe y=>hF.names d e (pM y)) (cJ (JB _ _) (hF.len d))
theorem Nf{M:Nat->Nd}(h:dY M)(hF:lL M){d t i:Nat}{nm z:ByteArray}(hf:bS (M d).E nm=(i:Int))(ht:(M t).K=2)(hn:bS (M t).E z<0\/(d=t/\nm=z))(hb:¬lv M i t)(hg:gA (bl z)=true)(hl:d=t\/(M t).E.length<24):
  dY (goM M d t i nm z)/\lL (goM M d t i nm z):=by
 rcases xQ h d nm with h1|⟨h1,A,B,hs,hd,aa⟩
 ·omega
 ·rw[hf] at hs
  have hr:tU (sK M d (l7 (M d).E nm) t).E:=by
   rw[nR];split
   ·rw[hd];simpa using hs.rises (h.rises d) [] (.inl rfl)
   ·exact h.rises t
  have W:∀p∈(sK M d (l7 (M d).E nm) t).E,0<=p.2:=λp U=>by
   rw[nR] at U;split at U
   ·exact(h.lead d p (pM U)).1.1
   ·exact(h.lead t p U).1.1
  have Z:bS (sK M d (l7 (M d).E nm) t).E z<0:=by
   rw[nR];split
   ·next e=>
    by_cases en:nm=z
    ·rw[<-en];exact JC nm
    ·rcases hn with J|J
     ·rw[wC]
      ·omega
      ·intro p U
       rw[e] at J;intro e2;obtain⟨A2,X2,B2,y⟩:=kv (h.rises d) z;have V:=(jF y λq hq=>(h.lead d q hq).1.1).1.1 J;subst V;have h5:p∈A2++B2:=by have :=y.eq;rw[bT] at this;rw[<-this];exact pM U
       rcases aR.1 h5 with h6|h6
       ·exact rT (y.ahead p h6) e2
       ·exact rT (y.behind p h6) e2.symm
     ·exact absurd J.2 en
   ·next e=>
    rcases hn with J|J
    ·exact J
    ·exact absurd J.1.symm e
  obtain⟨A',X,B',G⟩:=kv hr z;have h3:=(jF G W).1.1 Z;subst h3;have hi:=wF G (i:Int);constructor
  ·unfold goM
   rw[hi,hd];rw[hd] at G;exact h.moved hs ht G hb
  ·unfold goM GC
   refine(hF.del d nm).ins t hg _ ?_;rw[nR];split
   ·next e=>rw[<-e] at aa ⊢;have :=hF.len d;rw[<-e] at this;omega
   ·next e=>
    rcases hl with V|V
    ·exact absurd V.symm e
    ·exact V
def Wl (o:pX):Prop:=∀x∈o.D,0<=x/\x<256
theorem PD{M:Nat->Nd}(h:dY M)(hF:lL M){o:pX}(hK:o.K=0\/o.K=1):dY (CQ M o).1/\lL (CQ M o).1:=by
 unfold CQ;split
 ·exact⟨h,hF⟩
 ·split
  ·exact⟨h,hF⟩
  ·next hp=>
   have y:=qW (M:=M) (p:=o.P) (Decidable.not_not.1 hp);split
   ·exact⟨h,hF⟩
   ·next hn=>
    cases hi:qV M with
    |none=>exact⟨h,hF⟩
    |some i=>
     dsimp only
     split
     ·next hl=>
      obtain⟨U,W⟩:=Te h hi;obtain⟨A,B,Z,z⟩:=CT h (d:=(cY M o.P).1) (nm:=cm o.P) (by omega);refine⟨?_,?_⟩
      ·dsimp only
       rw[z];exact h.made y.1 U W (by omega) Z
      ·have G:(cY M o.P).1≠i:=λe=>by
        have :=y.1;rw[e,U] at this;simp[sU] at this
       have V:lL (oI M i ⟨1+o.K,1,[],[]⟩):=hF.up i (λe z=>by simp at z) (by simp) (by simp) (λe z=>by simp at z);have J:=V.ins (cY M o.P).1 (nm:=cm o.P) y.2.1 (i:Int) (by rw[cT _ _ G];exact hl);rw[cT _ _ G] at J;exact J
     ·exact⟨h,hF⟩
theorem PE{M:Nat->Nd}(h:dY M)(hF:lL M){o:pX}(V:Wl o):dY (M9 M o).1/\lL (M9 M o).1:=by
 unfold M9;split
 ·exact⟨h,hF⟩
 ·next hw=>
  have U:=Fj h (p:=o.P) (Decidable.not_not.1 hw);split
  ·exact⟨h,hF⟩
  ·next hk=>
   have z:(M (iJ M o.P).1).K=1:=by
    rcases h.kind (iJ M o.P).1 with G|G|G
    ·exact absurd (by rw[G];rfl) U.1
    ·exact G.1
    ·exact absurd G.1 hk
   split
   ·exact⟨h,hF⟩
   ·next hneg=>
    split
    ·exact⟨h,hF⟩
    ·next h3=>
     split
     ·next h4=>
      split
      ·exact⟨h,hF⟩
      ·next hN=>
       refine⟨h.data z _,hF.up _ (hF.names _) (hF.len _) ?_ ?_⟩
       ·show(LQ _ _).length<=832
        rw[Jz];omega
       ·intro x J
        rcases JA J with y|y
        ·exact hF.bytes _ x y
        ·omega
     ·split
      ·exact⟨h,hF⟩
      ·next hl=>
       split
       ·exact⟨h,hF⟩
       ·refine⟨h.data z _,hF.up _ (hF.names _) (hF.len _) ?_ ?_⟩
        ·show(Fh _ _ _).length<=832
         rw[PB];have :=hF.data (iJ M o.P).1;omega
        ·intro x J
         rcases PC J with y|y|y
         ·exact hF.bytes _ x y
         ·omega
         ·exact V x y
theorem JD{M:Nat->Nd}(h:dY M)(hF:lL M){o:pX}(G:o.K=5\/o.K=6):dY (A7 M o).1/\lL (A7 M o).1:=by
 unfold A7;split
 ·exact⟨h,hF⟩
 ·split
  ·exact⟨h,hF⟩
  ·split
   ·exact⟨h,hF⟩
   ·next hf=>
    split
    ·exact⟨h,hF⟩
    ·next h5=>
     split
     ·exact⟨h,hF⟩
     ·next h6=>
      split
      ·exact⟨h,hF⟩
      ·next h7=>
       refine Nc h hF (by omega) ?_;obtain⟨-,J,-⟩:=oW h (d:=(cY M o.P).1) (nm:=cm o.P) (by omega);rcases h.kind (bS (M (cY M o.P).1).E (cm o.P)).toNat with y|y|y
       ·rw[y];rfl
       ·exact y.2
       ·by_cases e:(M (bS (M (cY M o.P).1).E (cm o.P)).toNat).E=[]
        ·exact e
        ·rcases G with z|z
         ·exact absurd ⟨z,y.1⟩ h5
         ·exact absurd ⟨z,e⟩ h7
theorem PF{M:Nat->Nd}(h:dY M)(hF:lL M)(o:pX):dY (Nb M o).1/\lL (Nb M o).1:=by
 unfold Nb;split
 ·exact⟨h,hF⟩
 ·next hw=>
  have U:=Fj h (p:=o.P) (Decidable.not_not.1 hw);split
  ·exact⟨h,hF⟩
  ·next hk=>
   have J:(M (iJ M o.P).1).K=1:=by
    rcases h.kind (iJ M o.P).1 with y|y|y
    ·exact absurd (by rw[y];rfl) U.1
    ·exact y.1
    ·exact absurd y.1 hk
   split
   ·exact⟨h,hF⟩
   ·split
    ·exact⟨h,hF⟩
    ·next hp=>
     have z:=qW (M:=M) (p:=o.Q) (Decidable.not_not.1 hp);split
     ·exact⟨h,hF⟩
     ·next hn=>
      split
      ·exact⟨h,hF⟩
      ·next hl=>
       obtain⟨A,B,Z,W⟩:=CT h (d:=(cY M o.Q).1) (nm:=cm o.Q) (by omega);refine⟨?_,?_⟩
       ·dsimp only
        rw[W];exact h.linked z.1 J Z
       ·have G:(cY M o.Q).1≠(iJ M o.P).1:=λe=>by
         have :=z.1;rw[e] at this;omega
        have y:lL (oI M (iJ M o.P).1 { M (iJ M o.P).1 with L:=(M (iJ M o.P).1).L+1 }):=hF.up _ (hF.names _) (hF.len _) (hF.data _) (hF.bytes _);have V:=y.ins (cY M o.Q).1 (nm:=cm o.Q) z.2.1 ((iJ M o.P).1:Int) (by rw[cT _ _ G];omega);rw[cT _ _ G] at V;exact V
theorem lv.sub{M M':Nat->Nd}(h:∀a b,Edge M' a b->Edge M a b){d x:Nat}(k:lv M' d x):lv M d x:=lv.mono h k
theorem Tf{M:Nat->Nd}{d:Nat}(z:(M (bS (M d).E nm).toNat).E=[]):
  (∀x,(QM M d nm x).E=if x=d then l7 (M d).E nm else (M x).E)/\(∀x,x≠(bS (M d).E nm).toNat->(QM M d nm x).K=(M x).K)/\(∀a b,Edge (QM M d nm) a b->Edge M a b):=by
 have G:∀x,(QM M d nm x).E=if x=d then l7 (M d).E nm else (M x).E:=λx=>by
  unfold QM Dh;rw[nR];by_cases e:x=d
  ·rw[aB e,aB e]
  ·rw[aA e,aA e]
   unfold oI;by_cases h:x=(bS (M d).E nm).toNat
   ·rw[aB h,h,z]
    split
    ·rfl
    ·exact z
   ·rw[aA h]
 refine⟨G,λx J=> ?_,λa b ⟨e,y,U⟩=>⟨e,?_,U⟩⟩
 ·unfold QM Dh
  rw[(vC _ _ _ x).1,cT _ _ J]
 ·rw[G] at y
  split at y
  ·next h=>rw[h];exact pM y
  ·exact y
theorem JE{M:Nat->Nd}(h:dY M)(hF:lL M)(o:pX):dY (A8 M o).1/\lL (A8 M o).1:=by
 unfold A8;split
 ·exact⟨h,hF⟩
 ·split
  ·exact⟨h,hF⟩
  ·split
   ·exact⟨h,hF⟩
   ·next hf=>
    split
    ·exact⟨h,hF⟩
    ·next Z=>
     have U:=qW (M:=M) (p:=o.Q) (Decidable.not_not.1 Z);split
     ·exact⟨h,hF⟩
     ·next hne=>
      split
      ·exact⟨h,hF⟩
      ·next hc=>
       obtain⟨ar,ya,MD,kg⟩:=oW h (d:=(cY M o.P).1) (nm:=cm o.P) (by omega);generalize (cY M o.P).1=d at *;generalize (cY M o.Q).1=t at *;generalize cm o.P=nm at *;generalize cm o.Q=z at *;split
       ·next hth=>
        obtain⟨ag,ai,aj,Wk⟩:=oW h (d:=t) (nm:=z) hth;split
        ·exact⟨h,hF⟩
        ·next hov=>
         have hE:(M (bS (M t).E z).toNat).E=[]:=by
          have Wm:Na M (bS (M d).E nm).toNat (bS (M t).E z).toNat=0:=Decidable.not_not.1 hov;unfold Na at Wm;rcases h.kind (bS (M t).E z).toNat with G|G|G
          ·rw[G];rfl
          ·exact G.2
          ·split at Wm
           ·omega
           ·split at Wm
            ·omega
            ·split at Wm
             ·omega
             ·next h2=>
              by_cases e:(M (bS (M t).E z).toNat).E=[]
              ·exact e
              ·exact absurd ⟨G.1,e⟩ h2
         obtain⟨aa,af⟩:=Nc h hF hth hE;obtain⟨kE,kK,kB⟩:=Tf hE;have ak:(bS (M d).E nm).toNat≠(bS (M t).E z).toNat:=λe=>hne (by omega)
         have ae:t≠(bS (M t).E z).toNat:=h.notSelf ag;refine Nf aa af ?_ ?_ ?_ ?_ U.2.1 ?_
         ·rw[kE]
          split
          ·next e=>
           subst e
           -- another name of the same directory
           have ah:nm≠z:=λe=>by subst e;exact hne rfl
           rw[MD];obtain⟨A,X,B,hs⟩:=kv (h.rises d) nm;have G:=(jF hs λq Z=>(h.lead d q Z).1.1).2 (by omega);have J:(nm,bS (M d).E nm)∈l7 (M d).E z:=by
            refine List.mem_filter.2 ⟨?_,by simpa using ah⟩;have h2:=hs.eq;rw[G] at h2;exact(b8 (λl=>(nm,bS (M d).E nm)∈l) h2).mpr (by simp)
           obtain⟨A2,X2,B2,y⟩:=kv (aa.rises d) nm;have Hb:(QM M d z d).E=l7 (M d).E z:=by rw[kE,aB rfl]
           rw[Hb] at y;have h3:=jF y λq Z=>(h.lead d q (pM Z)).1.1
           have h4:X2≠[]:=λe=>by
            subst e;have h5:=y.eq;rw[bT] at h5;rw[h5] at J;rcases aR.1 J with V|V
            ·exact kp _ (y.ahead _ V)
            ·exact kp _ (y.behind _ V)
           have h5:0<=bS (l7 (M d).E z) nm:=by
            rcases Int.lt_or_le (bS (l7 (M d).E z) nm) 0 with V|V
            ·exact absurd (h3.1.1 V) h4
            ·exact V
           have V:=h3.2 h5
           -- both stand in the same rising list
           have h7:=y.eq;rw[V] at h7;have h8:(nm,bS (M d).E nm)∈A2++([(nm,bS (l7 (M d).E z) nm)]++B2):=h7▸J;simp only[aR,au] at h8;rcases h8 with W|W|W
           ·exact absurd (y.ahead _ W) (kp _)
           ·exact(b8 Prod.snd W).symm
           ·exact absurd (y.behind _ W) (kp _)
          ·exact MD.symm
         ·rw[kK t ae];exact U.1
         ·left
          rw[kE,aB rfl];exact JC z
         ·exact λac=>hc (ac.sub kB)
         ·rw[kE,aB rfl]
          rcases xQ h t z with G|⟨-,A,B,-,-,hl⟩
          ·omega
          ·have :=hF.len t
           right;omega
       ·next hth=>
        split
        ·exact⟨h,hF⟩
        ·next hl=>
         refine Nf h hF MD.symm U.1 (.inl (by omega)) hc U.2.1 ?_;by_cases e:d=t
         ·exact .inl e
         ·right
          rcases dg (M t).E.length 24 with G|G
          ·exact G
          ·exact absurd ⟨e,G⟩ hl
theorem Wn{M:Nat->Nd}(h:dY M)(hF:lL M){o:pX}(y:Wl o):dY (yf M o).1/\lL (yf M o).1:=by
 unfold yf;split
 ·next h0=>exact PD h hF h0
 ·split
  ·exact PE h hF y
  ·split
   ·next h0=>exact JD h hF h0
   ·split
    ·exact JE h hF o
    ·split
     ·exact PF h hF o
     ·split
      ·exact⟨h,hF⟩
      ·split
       ·exact⟨h,hF⟩
       ·split
        ·exact⟨h,hF⟩
        ·exact⟨h,hF⟩
end Go.Proofs.YtepbpdipenedhaaGreatDoor
namespace Go.Proofs.YtepbpdipenedhaaGreatDoor
open Go.RowKit
variable{a b c i j k:Nat}{A B E M:List (ByteArray×Int)}{nm:ByteArray}{D X:List Int}{U W y:List Nat}{p:Int×Int}{n:bN}{own:Nat->List Nat}{T V:List (bN×Value)}
end Go.Proofs.YtepbpdipenedhaaGreatDoor
namespace Go.Proofs.YtepbpdipenedhaaGreatDoor
open Go.RowKit
variable{a b c i j k:Nat}{A B E M:List (ByteArray×Int)}{nm:ByteArray}{D X:List Int}{U W y:List Nat}{p:Int×Int}{n:bN}{own:Nat->List Nat}{T V:List (bN×Value)}
theorem Fk{u:Bool}(h:p∈dR X b u):816<=p.1.toNat/\p.1.toNat<820:=by
 unfold dR at h;split at h
 ·simp at h
 ·rw[au] at h
  subst h;show 816<=((816+b/64:Nat):Int).toNat/\_;rw[aJ];show 816<=816+b/64/\((816+b/64:Nat):Int).toNat<820;rw[aJ];omega
theorem LR (l:List Nat):∀(X:List Int) (p:Int×Int),p∈cB X l->816<=p.1.toNat/\p.1.toNat<820:=by
 induction l with
 |nil=>intro X p h;simp[cB] at h
 |cons b l ih=>
  intro X p h;unfold cB at h;rcases aR.1 h with h|h
  ·exact Fk h
  ·exact ih _ p h
theorem JF (h:p∈gz b):1080<=p.1.toNat/\(p.1.toNat-1080)/8=b:=by
 unfold gz lh at h;obtain⟨j,y,rfl⟩:=bL.1 h;rw[bP] at y;show 1080<=((1080+b*8+j:Nat):Int).toNat/\(((1080+b*8+j:Nat):Int).toNat-1080)/8=b;rw[aJ];omega
theorem CU (l:List Nat):∀(X:List Int) (p:Int×Int),p∈dE X l->(816<=p.1.toNat/\p.1.toNat<820)\/(1080<=p.1.toNat/\(p.1.toNat-1080)/8∈l):=by
 induction l with
 |nil=>intro X p h;simp[dE] at h
 |cons b l ih=>
  intro X p h;unfold dE at h;rcases aR.1 h with h|h
  ·rcases aR.1 h with h|h
   ·exact .inl (Fk h)
   ·have :=JF h
    exact .inr ⟨this.1,by rw[this.2];simp⟩
  ·rcases ih _ p h with y|y
   ·exact .inl y
   ·exact .inr ⟨y.1,by simp[y.2]⟩
theorem Tg{own:List Nat}(_:i<32)(U:bR n)(ho:own.length=dK n){p:Int×Int}(h:p∈DR X i n own):
  (816<=p.1.toNat/\p.1.toNat<820)\/(824+8*i<=p.1.toNat/\p.1.toNat<824+8*i+8)\/(1080<=p.1.toNat/\(p.1.toNat-1080)/8∈own):=by
 unfold DR at h;split at h
 ·unfold kI at h
  rcases aR.1 h with h|h
  ·rcases CU _ _ p h with y|y
   ·exact .inl y
   ·exact .inr (.inr y)
  ·rcases aR.1 h with h|h
   ·obtain⟨m,j,z,J,y,-⟩:=qQ h
    refine .inr (.inr ⟨by omega,?_⟩);have e:(p.1.toNat-1080)/8=own.getD m 0:=by omega
    rw[e,aj,aF z];exact bA z
   ·obtain⟨j,J,y,-⟩:=lu h
    exact .inr (.inl ⟨by omega,by omega⟩)
 ·rename_i hF
  have Z:dK n=ez n:=aA hF;have G:=iZ U;have V:=rM n;unfold mP at h;rcases aR.1 h with h|h
  ·rcases CU _ _ p h with y|y
   ·exact .inl y
   ·exact .inr (.inr y)
  ·rcases pC (by omega) h with y|y
   ·exact .inr (.inr ⟨y.1,y.2.1⟩)
   ·exact .inr (.inl (by have :=y.1;have :=y.2.1;omega))
theorem Fl{own:List Nat}(z:i<32)(J:bR n)(U:y=(bp (az X (cB X own))).take (dK n))(G:dK n<=(bp (az X (cB X own))).length){p:Int×Int}(h:p∈j0 X i n own):
  (816<=p.1.toNat/\p.1.toNat<820)\/(824+8*i<=p.1.toNat/\p.1.toNat<824+8*i+8)\/(1080<=p.1.toNat/\(p.1.toNat-1080)/8∈y):=by
 unfold j0 at h;rcases aR.1 h with h|h
 ·exact .inl (LR _ _ p h)
 ·subst U
  exact Tg z J (rP G) h
theorem PG (l:List Nat):∀X:List Int,In64 X->X.length=3128->dx (az X (cB X l)) 0=dx X 0:=by
 induction l with
 |nil=>intro X _ _;rfl
 |cons b l ih=>
  intro X h z;have y:=ko [b] X h z;unfold cB at y ⊢;have J:cB (az X (dR X b false)) []=[]:=rfl;rw[J,bq] at y;rw[bJ,ih _ y.1 (by rw[bY,z])];by_cases G:b=0\/256<=b
  ·unfold dR;rw[aB G];rfl
  ·rw[yw h z b (by omega) (by omega),aA (by omega)]
theorem Ti (y:In64 X)(U:X.length=3128){i:Nat}{n:bN}{own:List Nat}(hi:i<32)(hR:bR n)(hn:dK n<=(bp (az X (cB X own))).length):dx (az X (j0 X i n own)) 0=dx X 0:=by
 obtain⟨g1,-,-⟩:=ko own X y U;have G:=PG own X y U;have hl:=bY (cB X own) X;rw[<-G];unfold j0;rw[bJ];generalize az X (cB X own)=Y at *;have V:∀c∈(bp Y).take (dK n),c≠0/\c<256:=rO;have z:∀qs:List (Int×Int),(∀p∈qs,820<=p.1.toNat)->dx (az Y (dE Y ((bp Y).take (dK n))++qs)) 0=dx Y 0:=λqs Z=>by
  rw[(CE g1 (by omega) V Z).1 0 (by omega),aM (λh=>(V 0 h).1 rfl),Bool.or_false]
 unfold DR;split
 ·unfold kI
  refine z _ λp J=> ?_
  rcases aR.1 J with h|h
  ·obtain⟨m,j,-,-,G,-⟩:=qQ h
   omega
  ·obtain⟨j,-,G,-⟩:=lu h
   omega
 ·rename_i hF
  have qL:dK n=ez n:=aA hF;have W:=iZ hR;have ac:=rM n;have aa:=rP hn;unfold mP;refine z _ λp J=> ?_
  rcases pC (by omega) J with ⟨h,-⟩|⟨h,-⟩<;>omega
def QN (own:Nat->List Nat) (i:Nat) (o:List Nat):Nat->List Nat:=λj=>if j=i then o else own j
def qX (T:List (bN×Value)) (own:Nat->List Nat) (k:Nat):List Nat:=own k++eU (nT T k)
def xR (T:List (bN×Value)) (i:Nat) (n:bN):List (bN×Value):=T.set i (n,.slice none 0 0)
theorem uG (y:T.length=32){i:Nat}(h:i<32)(n:bN)(j:Nat):nT (xR T i n) j=if i=j then n else nT T j:=ZX (by omega) n _ j
theorem Tj (G:T.length=32)(own:Nat->List Nat){i:Nat}(y:i<32)(n:bN)(o:List Nat)(b:Nat):∀k,
  (k<=i->jN (xR T i n) (QN own i o) k b=jN T own k b)/\(i<k->jN (xR T i n) (QN own i o) k b+(qX T own i).count b=jN T own k b+(o++eU n).count b):=by
 intro k;induction k with
 |zero=>exact⟨λ_=>rfl,λh=>by omega⟩
 |succ k ih=>
  have e:∀(z:List (bN×Value)) (J:Nat->List Nat),jN z J (k+1) b=jN z J k b+(J k++eU (nT z k)).count b:=λ_ _=>rfl
  refine⟨λh=> ?_,λh=> ?_⟩
  ·rw[e,e,ih.1 (by omega),uG G y,aA (by omega),QN,aA (by omega)]
  ·rw[e,e]
   by_cases U:k=i
   ·subst U
    rw[ih.1 (by omega),uG G y,aB rfl,QN,aB rfl];unfold qX;omega
   ·have V:=ih.2 (by omega)
    rw[uG G y,aA (by omega),QN,aA U];omega
theorem GD:∀m,k<m->(qX T own k).count b<=jN T own m b:=by
 intro m;induction m with
 |zero=>intro h;omega
 |succ m ih=>
  intro h;show _<=jN T own m b+(qX T own m).count b;by_cases e:k=m
  ·subst e;omega
  ·have :=ih (by omega);omega
theorem Ng (y:j<k):∀m,k<m->(qX T own j).count b+(qX T own k).count b<=jN T own m b:=by
 intro m;induction m with
 |zero=>intro h;omega
 |succ m ih=>
  intro h;show _<=jN T own m b+(qX T own m).count b;by_cases e:k=m
  ·subst e
   have :=GD (T:=T) (own:=own) (b:=b) k y;omega
  ·have :=ih (by omega);omega
structure uf (X:List Int) (T V:List (bN×Value)) (own:Nat->List Nat) (ex:List Nat):Prop where
 len:X.length=3128
 w64:In64 X
 sup:lW X
 gots:oo X T own
 all:uE X T
 once:∀b,b<256->xO V own b+ex.count b<=1/\(dx X b=true↔xO V own b+ex.count b=1)
 exr:∀c∈ex,c≠0/\c<256
 tails:tX X V
 vlen:V.length=32
 vir:∀j,nT V j=nT T j\/nT V j=cX
abbrev StX (X:List Int) (T:List (bN×Value)) (own:Nat->List Nat) (h:List Nat):Prop:=uf X T T own h
theorem uf.each(h:uf X T V own U){i:Nat}(J:i<32):((nT T i).F≠0/\eP X (i:Int) (nT T i) (own i))\/(dO X (i:Int)/\nT T i=cX/\own i=[]):=by
 rcases h.gots.form i with ⟨z,-,y⟩|⟨z,y,W⟩
 ·exact .inl ⟨z,y⟩
 ·right
  refine⟨?_,y,(W J).1⟩;rcases h.all i J with G|G
  ·exact G
  ·exact absurd z G
theorem PH (y:nT T k=cX)(h:own k=[]):qX T own k=[]:=by
 unfold qX;rw[y,h]
 decide
theorem GF:eU cX=[]:=by decide
theorem uf.rng(h:uf X T V own W){k c:Nat}(Z:k<32)(J:c∈qX V own k):c≠0/\c<256:=by
 rcases h.each Z with ⟨-,G⟩|⟨-,G,U⟩
 ·rcases aR.1 J with y|y
  ·exact G.mem c y
  ·rcases h.vir k with z|z
   ·rw[z] at y;exact uF G.len G.right c y
   ·rw[z,GF] at y;simp at y
 ·rw[PH (by rcases h.vir k with z|z<;>rw[z];exact G) U] at J;simp at J
theorem uf.used{J:List Nat}(h:uf X T V own J){k c:Nat}(G:k<32)(z:c∈qX V own k):dx X c=true:=by
 have U:=h.rng G z;have y:=h.once c U.2;have W:=GD (T:=V) (own:=own) (b:=c) 32 G;have Z:0<(qX V own k).count c:=List.count_pos_iff.2 z;unfold xO at y;exact y.2.2 (by omega)
theorem uf.usedEx(h:uf X T V own y){c:Nat}(z:c∈y):dx X c=true:=by
 have G:=h.once c (h.exr c z).2;have J:0<y.count c:=List.count_pos_iff.2 z;exact G.2.2 (by omega)
theorem uf.apart(h:uf X T V own U){j k c:Nat}(G:j<32)(hk:k<32)(z:j≠k)(J:c∈qX V own j):c∉qX V own k:=λy=>by
 have Z:=h.rng G J;have W:=(h.once c Z.2).1;have h4:0<(qX V own j).count c:=List.count_pos_iff.2 J;have h5:0<(qX V own k).count c:=List.count_pos_iff.2 y;unfold xO at W;rcases Nat.lt_or_gt_of_ne z with e|e
 ·have :=Ng (T:=V) (own:=own) (b:=c) e 32 hk;omega
 ·have :=Ng (T:=V) (own:=own) (b:=c) e 32 G;omega
theorem uf.apartEx(h:uf X T V own y){k c:Nat}(J:k<32)(G:c∈qX V own k):c∉y:=λz=>by
 have W:=h.rng J G;have U:=(h.once c W.2).1;have h4:0<(qX V own k).count c:=List.count_pos_iff.2 G;have Z:0<y.count c:=List.count_pos_iff.2 z;have :=GD (T:=V) (own:=own) (b:=c) 32 J;unfold xO at U;omega
theorem uf.inner(h:uf X T V own W){k c:Nat}(J:k<32)(G:c∈own k):c∉eU (nT V k):=λy=>by
 have Z:=h.rng J (dm _ G);have U:=(h.once c Z.2).1;have z:=GD (T:=V) (own:=own) (b:=c) 32 J;have h4:0<(own k).count c:=List.count_pos_iff.2 G;have h5:0<(eU (nT V k)).count c:=List.count_pos_iff.2 y;unfold xO at U;unfold qX at z;rw[List.count_append] at z;omega
theorem zg{Y:List Int}(Z:n.B.length=13)(h:jO X n)(W:∀c∈eU n,∀j,j<8->Y.getD (1080+8*c+j) 0=X.getD (1080+8*c+j) 0):jO Y n:=by
 intro V k U z j G y;have J:(n.B.getD k 0).toNat∈eU n:=by
  unfold eU fK;refine bL.2 ⟨n.B.getD k 0,List.mem_filter.2 ⟨?_,by simpa using z⟩,rfl⟩;rw[aW (by omega),aj,aF (by omega)];exact bA _
 have :=W _ J (j/8) (by omega);rw[this];exact h V k U z j G y
end Go.Proofs.YtepbpdipenedhaaGreatDoor
