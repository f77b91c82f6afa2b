/- Lemmas. -/
import Derived.Test.YtepbpdipenedhaaGreatDoorS26
namespace Go.Proofs.YtepbpdipenedhaaGreatDoor
open Go.RowKit
open Go.RowKit
variable{f:Int}
end Go.Proofs.YtepbpdipenedhaaGreatDoor
namespace Go.Proofs.YtepbpdipenedhaaGreatDoor
open Go.RowKit
variable{f:Int}
def xY:Nat->Nd:=oI (λ_=>sU) 0 ⟨2,1,[],[]⟩
theorem P8:xY 0=⟨2,1,[],[]⟩:=rfl
theorem pN{i:Nat}(h:i≠0):xY i=sU:=aA h
theorem zm (i:Nat):(xY i).E=[]:=by
 by_cases h:i=0
 ·rw[h];rfl
 ·rw[pN h];rfl
theorem P9:dY xY where
 out i hi:=pN (by omega)
 kind i:=by
  by_cases h:i=0
  ·rw[h];exact .inr (.inr ⟨rfl,rfl⟩)
  ·exact .inl (pN h)
 root:=rfl
 lead i e he:=by rw[zm] at he;cases he
 rises i:=by rw[zm];exact List.Pairwise.nil
 links i hi:=by
  have hl:∀k j,jE xY k j=0:=λk=>by
   induction k with
   |zero=>intro j;rfl
   |succ k ih=>intro j;rw[jE,ih,zm];rfl
  by_cases h:i=0
  ·rw[h,hl]
   exact⟨λh1=>by rw[P8] at h1;simp at h1,λ_=>⟨rfl,λ_=>rfl,λh2=>absurd rfl h2⟩⟩
  ·rw[pN h]
   exact⟨λh1=>by simp[sU] at h1,λh1=>by simp[sU] at h1⟩
 reach i hi:=by
  by_cases h:i=0
  ·rw[h];exact .here
  ·rw[pN h] at hi;exact absurd rfl hi
theorem uh (k:Nat):(jy []).getD k 0=0:=by rw[sY];split<;>rfl
def uS (f:Int):List (Int×Int):=[(1,f),(2,0),(0,7596835243318849792),(2,32)]
theorem rY (f:Int)(k:Nat):(az (jy []) (uS f)).getD k 0=if k=2 then 32 else if k=0 then 7596835243318849792 else if k=1 then f else 0:=by
 have e:az (jy []) (uS f)=((((jy []).set 1 f).set 2 0).set 0 7596835243318849792).set 2 32:=rfl;have G:=gT [];rw[e,lf _ _ _ _ (by simp only[dW];omega),lf _ _ _ _ (by simp only[dW];omega),lf _ _ _ _ (by simp only[dW];omega),lf _ _ _ _ (by omega),uh];by_cases h:k=2
 ·subst h;rfl
 ·by_cases y:k=0
  ·subst y;rfl
  ·by_cases z:k=1
   ·subst z;rfl
   ·rw[aA (by omega),aA (by omega),aA (by omega),aA (by omega),aA h,aA y,aA z]
theorem aaf (f:Int):(az (jy []) (uS f)).length=3128:=by rw[bY,gT]
theorem GR (f:Int){i:Nat}(y:i<32):dO (az (jy []) (uS f)) (i:Int):=by
 have h:∀j:Fin 32,dO (jy []) ((j.val:Nat):Int):=by decide+kernel
 refine(h ⟨i,y⟩).same λj z=> ?_
 rw[rY,uh,aA (by omega),aA (by omega),aA (by omega)]
theorem Nl (f:Int)(c:Nat):dx (az (jy []) (uS f)) c=false:=by
 unfold dx bw;rw[rY,aA (by omega),aA (by omega),aA (by omega)];exact Nat.zero_testBit _
theorem Ww (f:Int):(bp (az (jy []) (uS f))).length=255:=by
 have h:(bp (jy [])).length=255:=by decide+kernel
 have e:bp (az (jy []) (uS f))=bp (jy []):=vB λc _ _=>by
  rw[Nl];unfold dx bw;rw[uh];exact(Nat.zero_testBit _).symm
 rw[e];exact h
theorem xZ (i:Nat):nT We i=cX:=by
 unfold nT We;rw[aj,bb];split<;>rfl
theorem JW (b:Nat):∀k,jN We (λ_=>[]) k b=0
 |0=>rfl
 |k+1=>by
  rw[jN,JW b k,xZ,GF];rfl
theorem XS (z:f=1\/f=2):pY (az (jy []) (uS f)) We (λ_=>[]) [] (λ_=>sU):=by
 refine⟨⟨aaf f,λk=> ?_,⟨?_,?_,?_,λi y G=> ?_,λi y G=> ?_⟩,⟨rfl,λi y=> .inr ⟨λn o J=>J.notFree (GR f y),xZ i,rfl⟩⟩,λi y=> .inl (GR f y),λb _=> ?_,by simp,λi _=> ?_,rfl,λj=> .inl rfl⟩,λi=> ?_⟩
 ·rw[rY]
  split
  ·omega
  ·split
   ·omega
   ·split<;>omega
 ·rw[rY];rfl
 ·rw[rY];exact z
 ·rw[rY,aB rfl];omega
 ·rw[rY,aA (by omega),aA (by omega),aA (by omega)]
 ·rw[rY,aA (by omega),aA (by omega),aA (by omega)]
 ·rw[Nl]
  unfold xO;rw[JW];simp
 ·rw[xZ]
  intro h;exact absurd h (by decide)
 ·rw[xZ,Tn]
def vF (f:Int):bN:=⟨f,2,1,0,List.replicate 13 0,[]⟩
theorem Mb (h:f=1\/f=2):bR (vF f):=by rcases h with rfl|rfl<;>decide+kernel
theorem Qa (h:f=1\/f=2):dK (vF f)=0:=by rcases h with rfl|rfl<;>decide+kernel
theorem Mc (f:Int):eU (vF f)=[]:=rfl
theorem Wx (z:f=1\/f=2){r:Int}{qs:List (Int×Int)}(hp:uQ (az (jy []) (uS f)) 0 (vF f) r qs):
  r=0/\∃T own,nS (az (jy []) (uS f++qs)) T own [] xY/\(bp (az (jy []) (uS f++qs))).length=255/\(az (jy []) (uS f++qs)).getD 8 0=0:=by
 have hR:=Mb z;have Z:=Qa z;have hF:dO (az (jy []) (uS f)) ((0:Nat):Int):=GR f (by omega);have J:=XS z;rw[bJ];rcases hp with ⟨-,y,-⟩|⟨-,-,y,-⟩|⟨own,-,U,y⟩
 ·exact absurd ⟨by omega,hR⟩ y
 ·exact absurd hF y
 ·have U:own=[]:=by
   rcases U with G|⟨m,G⟩
   ·exact G.2
   ·exact absurd hF G.notFree
  subst U;rcases y with ⟨-,y,-⟩|⟨h0,y,rfl⟩
  ·rw[Z] at y;omega
  ·obtain⟨cH,W,h4,V,h6,-⟩:=J.putAt (i:=0) (by omega) (n:=vF f) rfl hR y (ex':=[]) (λb _=>by rw[xZ,GF,Mc]) (by simp) (λh=>absurd h (by show ¬(2:Int)=1;omega))
   rw[Z] at V;have h7:oI (λ_=>sU) 0 (xV (az (jy []) (uS f)) (vF f))=xY:=rfl;rw[h7] at W;refine⟨h0,_,cH,W.snd P9,?_,?_⟩
   ·rw[Ww] at V
    exact V
   ·have :=h6 8 (by omega)
    rw[rY] at this;exact this
end Go.Proofs.YtepbpdipenedhaaGreatDoor
namespace Go.Proofs.YtepbpdipenedhaaGreatDoor
open Go.RowKit
variable{f:Int}
end Go.Proofs.YtepbpdipenedhaaGreatDoor
