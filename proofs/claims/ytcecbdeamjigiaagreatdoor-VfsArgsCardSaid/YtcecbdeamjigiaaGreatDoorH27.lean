/- Lemmas. -/
import Derived.Test.YtcecbdeamjigiaaGreatDoorH26
namespace Go.Proofs.YtcecbdeamjigiaaGreatDoor
open Go.RowKit
open Go.RowKit
variable{f:Int}
end Go.Proofs.YtcecbdeamjigiaaGreatDoor
namespace Go.Proofs.YtcecbdeamjigiaaGreatDoor
open Go.RowKit
variable{f:Int}
def Au:Nat->Nd:=mN (λ_=>sA) 0 ⟨2,1,[],[]⟩
theorem Qd:Au 0=⟨2,1,[],[]⟩:=rfl
theorem pd{i:Nat}(h:i≠0):Au i=sA:=aA h
theorem yZ (i:Nat):(Au i).E=[]:=by
 by_cases h:i=0
 ·rw[h];rfl
 ·rw[pd h];rfl
theorem Qe:eb Au where
 out i hi:=pd (by omega)
 kind i:=by
  by_cases h:i=0
  ·rw[h];exact .inr (.inr ⟨rfl,rfl⟩)
  ·exact .inl (pd h)
 root:=rfl
 lead i e he:=by rw[yZ] at he;cases he
 rises i:=by rw[yZ];exact List.Pairwise.nil
 links i hi:=by
  have hl:∀k j,jh Au k j=0:=λk=>by
   induction k with
   |zero=>intro j;rfl
   |succ k ih=>intro j;rw[jh,ih,yZ];rfl
  by_cases h:i=0
  ·rw[h,hl]
   exact⟨λh1=>by rw[Qd] at h1;simp at h1,λ_=>⟨rfl,λ_=>rfl,λh2=>absurd rfl h2⟩⟩
  ·rw[pd h]
   exact⟨λh1=>by simp[sA] at h1,λh1=>by simp[sA] at h1⟩
 reach i hi:=by
  by_cases h:i=0
  ·rw[h];exact .here
  ·rw[pd h] at hi;exact absurd rfl hi
theorem qN (k:Nat):(iQ []).getD k 0=0:=by rw[pU];split<;>rfl
def uC (f:Int):List (Int×Int):=[(1,f),(2,0),(0,7596835243318849792),(2,32)]
theorem rL (f:Int)(k:Nat):(az (iQ []) (uC f)).getD k 0=if k=2 then 32 else if k=0 then 7596835243318849792 else if k=1 then f else 0:=by
 have e:az (iQ []) (uC f)=((((iQ []).set 1 f).set 2 0).set 0 7596835243318849792).set 2 32:=rfl;have G:=fc [];rw[e,iR _ _ _ _ (by simp only[cG];omega),iR _ _ _ _ (by simp only[cG];omega),iR _ _ _ _ (by simp only[cG];omega),iR _ _ _ _ (by omega),qN];by_cases h:k=2
 ·subst h;rfl
 ·by_cases y:k=0
  ·subst y;rfl
  ·by_cases z:k=1
   ·subst z;rfl
   ·rw[aA (by omega),aA (by omega),aA (by omega),aA (by omega),aA h,aA y,aA z]
theorem aaD (f:Int):(az (iQ []) (uC f)).length=3128:=by rw[bO,fc]
theorem GC (f:Int){i:Nat}(y:i<32):dI (az (iQ []) (uC f)) (i:Int):=by
 have h:∀j:Fin 32,dI (iQ []) ((j.val:Nat):Int):=by decide+kernel
 refine(h ⟨i,y⟩).same λj z=> ?_
 rw[rL,qN,aA (by omega),aA (by omega),aA (by omega)]
theorem Np (f:Int)(c:Nat):cT (az (iQ []) (uC f)) c=false:=by
 unfold cT bw;rw[rL,aA (by omega),aA (by omega),aA (by omega)];exact Nat.zero_testBit _
theorem WX (f:Int):(bb (az (iQ []) (uC f))).length=255:=by
 have h:(bb (iQ [])).length=255:=by decide+kernel
 have e:bb (az (iQ []) (uC f))=bb (iQ []):=uQ λc _ _=>by
  rw[Np];unfold cT bw;rw[qN];exact(Nat.zero_testBit _).symm
 rw[e];exact h
theorem xD (i:Nat):nT WG i=cB:=by
 unfold nT WG;rw[aj,aY];split<;>rfl
theorem JP (b:Nat):∀k,iB WG (λ_=>[]) k b=0
 |0=>rfl
 |k+1=>by
  rw[iB,JP b k,xD,pC];rfl
theorem Yn (G:f=1\/f=2):lK (az (iQ []) (uC f)) WG (λ_=>[]) [] (λ_=>sA):=by
 refine⟨⟨aaD f,λk=> ?_,⟨?_,?_,?_,λi y z=> ?_,λi y z=> ?_⟩,⟨rfl,λi y=> .inr ⟨λn o J=>J.notFree (GC f y),xD i,rfl⟩⟩,λi y=> .inl (GC f y),λb _=> ?_,by simp,λi _=> ?_,rfl,λj=> .inl rfl⟩,λi=> ?_⟩
 ·rw[rL]
  split
  ·omega
  ·split
   ·omega
   ·split<;>omega
 ·rw[rL];rfl
 ·rw[rL];exact G
 ·rw[rL,aB rfl];omega
 ·rw[rL,aA (by omega),aA (by omega),aA (by omega)]
 ·rw[rL,aA (by omega),aA (by omega),aA (by omega)]
 ·rw[Np]
  unfold sy;rw[JP];simp
 ·rw[xD]
  intro h;exact absurd h (by decide)
 ·rw[xD,TF]
def uV (f:Int):bM:=⟨f,2,1,0,List.replicate 13 0,[]⟩
theorem L4 (h:f=1\/f=2):bP (uV f):=by rcases h with rfl|rfl<;>decide+kernel
theorem Qf (h:f=1\/f=2):cN (uV f)=0:=by rcases h with rfl|rfl<;>decide+kernel
theorem L5 (f:Int):cP (uV f)=[]:=rfl
theorem WY (z:f=1\/f=2){r:Int}{qs:List (Int×Int)}(hp:pI (az (iQ []) (uC f)) 0 (uV f) r qs):
  r=0/\∃T own,lQ (az (iQ []) (uC f++qs)) T own [] Au/\(bb (az (iQ []) (uC f++qs))).length=255/\(az (iQ []) (uC f++qs)).getD 8 0=0:=by
 have Z:=L4 z;have V:=Qf z;have hF:dI (az (iQ []) (uC f)) ((0:Nat):Int):=GC f (by omega);have EA:=Yn z;rw[bo];rcases hp with ⟨-,y,-⟩|⟨-,-,y,-⟩|⟨own,-,U,y⟩
 ·exact absurd ⟨by omega,Z⟩ y
 ·exact absurd hF y
 ·have U:own=[]:=by
   rcases U with J|⟨m,J⟩
   ·exact J.2
   ·exact absurd hF J.notFree
  subst U;rcases y with ⟨-,y,-⟩|⟨h0,y,rfl⟩
  ·rw[V] at y;omega
  ·obtain⟨cD,W,h4,G,h6,-⟩:=EA.putAt (i:=0) (by omega) (n:=uV f) rfl Z y (ex':=[]) (λb _=>by rw[xD,pC,L5]) (by simp) (λh=>absurd h (by show ¬(2:Int)=1;omega))
   rw[V] at G;have h7:mN (λ_=>sA) 0 (sB (az (iQ []) (uC f)) (uV f))=Au:=rfl;rw[h7] at W;refine⟨h0,_,cD,W.snd Qe,?_,?_⟩
   ·rw[WX] at G
    exact G
   ·have :=h6 8 (by omega)
    rw[rL] at this;exact this
end Go.Proofs.YtcecbdeamjigiaaGreatDoor
namespace Go.Proofs.YtcecbdeamjigiaaGreatDoor
open Go.RowKit
variable{f:Int}
end Go.Proofs.YtcecbdeamjigiaaGreatDoor
