/- Lemmas. -/
import Derived.Test.YtepbpdipenedhaaGreatDoorM26
namespace Go.Proofs.YtepbpdipenedhaaGreatDoor
open Go.RowKit
section
variable{f:Int}
end
section
variable{f:Int}
theorem acd:(Tryz.prog.info? 5).map (λi=>(i.zero,i.size,i.bytes))=some (some (.int .u8 0),1,1):=by kernel_rfl
theorem Tq:(Tryz.prog.info? 5).map (·.size)=some 1:=by kernel_rfl
theorem Tt{w:World}{b T o n cap W:Nat}{v:Value}{z h:List Int}(U:bh w b (kT z).toArray T)(hs:Reads w v W (kT h))(aa:o+min h.length n<=z.length):
  ∃r w',(∀ty,(Builtin.copy_ #[31,31] ty #[.slice (some ⟨b,o,none⟩) n cap,v]).run Tryz.prog w= .ok r w')/\bh w' b (kT (z.take o++h.take n++z.drop (o+min h.length n))).toArray T/\ay [b] w w':=by
 obtain⟨a,c,rfl,h1,h2,h3⟩:=hs;rw[fG] at *;by_cases V:h.length=0
 ·obtain rfl:=bo V
  refine⟨_,w,λty=>run_copy_none (P:= Tryz.prog) w 31 31 ty 5 _ a n cap 0 c Tryz.underlying31 Tq (by simp),?_,ay.refl _ _⟩;rw[List.take_nil,br,cC,Nat.zero_min,dB,dn];exact U
 ·obtain⟨hg,off,rfl,hc⟩:=h3 (λe=>V (by have :=cN List.length e;rwa[fG,cC] at this))
  have J:(kT (h.take n)).length=min h.length n:=by rw[fG,aJ,Nat.min_comm]
  refine⟨_,_,λty=>run_copy_row (P:= Tryz.prog) w 31 31 ty 5 b o n cap ⟨W,off,none⟩ h.length c (kT z).toArray T (kT (h.take n)) Tryz.underlying31 Tq U J ?_ ?_ ?_,?_,(ay.refl _ _).setRow (by simp) _⟩
  ·intro j u G
   have hj:j<min h.length n:=by
    have :=(List.getElem?_eq_some_iff.1 G).1;rwa[J] at this
   rw[add_plain,hc j (by omega),<-G];simp only[kT,bJ,bU];rw[aB]
  ·rw[bN,J,fG];omega
  ·intro u G
   simp only[kT,bF] at G;obtain⟨x,-,rfl⟩:=G;rfl
  ·have e:((kT z).toArray.toList.take o++kT (h.take n)++(kT z).toArray.toList.drop (o+(kT (h.take n)).length)).toArray=(kT (z.take o++h.take n++z.drop (o+min h.length n))).toArray:=by
    rw[J];simp[kT,List.map_drop]
   rw[e];exact kv U
def ES:Nat->Nd:=nv (λ_=>wh) 0 ⟨2,1,[],[]⟩
theorem V4:ES 0=⟨2,1,[],[]⟩:=rfl
theorem tT{i:Nat}(h:i≠0):ES i=wh:=aA h
theorem Dj (i:Nat):(ES i).E=[]:=by
 by_cases h:i=0
 ·rw[h];rfl
 ·rw[tT h];rfl
theorem V5:dw ES where
 out i hi:=tT (by omega)
 kind i:=by
  by_cases h:i=0
  ·rw[h];exact .inr (.inr ⟨rfl,rfl⟩)
  ·exact .inl (tT h)
 root:=rfl
 lead i e he:=by rw[Dj] at he;cases he
 rises i:=by rw[Dj];exact List.Pairwise.nil
 links i hi:=by
  have hl:∀k j,lC ES k j=0:=λk=>by
   induction k with
   |zero=>intro j;rfl
   |succ k ih=>intro j;rw[lC,ih,Dj];rfl
  by_cases h:i=0
  ·rw[h,hl]
   exact⟨λh1=>by rw[V4] at h1;simp at h1,λ_=>⟨rfl,λ_=>rfl,λh2=>absurd rfl h2⟩⟩
  ·rw[tT h]
   exact⟨λh1=>by simp[wh] at h1,λh1=>by simp[wh] at h1⟩
 reach i hi:=by
  by_cases h:i=0
  ·rw[h];exact .here
  ·rw[tT h] at hi;exact absurd rfl hi
theorem yH (k:Nat):(kU []).getD k 0=0:=by rw[uT];split<;>rfl
def zJ (f:Int):List (Int×Int):=[(1,f),(2,0),(0,7596835243318849792),(2,32)]
theorem xa (f:Int)(k:Nat):(az (kU []) (zJ f)).getD k 0=if k=2 then 32 else if k=0 then 7596835243318849792 else if k=1 then f else 0:=by
 have e:az (kU []) (zJ f)=((((kU []).set 1 f).set 2 0).set 0 7596835243318849792).set 2 32:=rfl;have J:=iF [];rw[e,jo _ _ _ _ (by simp only[cX];omega),jo _ _ _ _ (by simp only[cX];omega),jo _ _ _ _ (by simp only[cX];omega),jo _ _ _ _ (by omega),yH];by_cases h:k=2
 ·subst h;rfl
 ·by_cases z:k=0
  ·subst z;rfl
  ·by_cases G:k=1
   ·subst G;rfl
   ·rw[aA,aA,aA,aA,aA h,aA z,aA G]
theorem aeF (f:Int):(az (kU []) (zJ f)).length=3128:=by rw[ct,iF]
theorem LY (f:Int){i:Nat}(z:i<32):dR (az (kU []) (zJ f)) (i:Int):=by
 have h:∀j:Fin 32,dR (kU []) ((j.val:Nat):Int):=by decide+kernel
 refine(h ⟨i,z⟩).same λj G=> ?_
 rw[xa,yH,aA,aA,aA]
theorem Tu (f:Int)(c:Nat):dF (az (kU []) (zJ f)) c=false:=by
 unfold dF bw;rw[xa,aA,aA,aA];exact Nat.zero_testBit _
theorem ace (f:Int):(aZ (az (kU []) (zJ f))).length=255:=by
 have h:(aZ (kU [])).length=255:=by decide+kernel
 have e:aZ (az (kU []) (zJ f))=aZ (kU []):=uJ λc _ _=>by
  rw[Tu];unfold dF bw;rw[yH];exact(Nat.zero_testBit _).symm
 rw[e];exact h
theorem BZ (i:Nat):nT abX i=cg:=by
 unfold nT abX;rw[aj,bj];split<;>rfl
theorem OU (b:Nat):∀k,kr abX (λ_=>[]) k b=0
 |0=>rfl
 |k+1=>by
  rw[kr,OU b k,BZ,uC];rfl
theorem ac5 (J:f=1\/f=2):nM (az (kU []) (zJ f)) abX (λ_=>[]) [] (λ_=>wh):=by
 refine⟨⟨aeF f,λk=> ?_,⟨?_,?_,?_,λi z G=> ?_,λi z G=> ?_⟩,⟨rfl,λi z=> .inr ⟨λn o U=>U.notFree (LY f z),BZ i,rfl⟩⟩,λi z=> .inl (LY f z),λb _=> ?_,by simp,λi _=> ?_,rfl,λj=> .inl rfl⟩,λi=> ?_⟩
 ·rw[xa]
  split
  ·omega
  ·split
   ·omega
   ·split<;>omega
 ·rw[xa];rfl
 ·rw[xa];exact J
 ·rw[xa,aB rfl];omega
 ·rw[xa,aA,aA,aA]
 ·rw[xa,aA,aA,aA]
 ·rw[Tu]
  unfold xE;rw[OU];simp
 ·rw[BZ]
  intro h;exact absurd h (by decide)
 ·rw[BZ,Y9]
def z6 (f:Int):bT:=⟨f,2,1,0,List.replicate 13 0,[]⟩
theorem Ry (h:f=1\/f=2):cm (z6 f):=by rcases h with rfl|rfl<;>decide+kernel
theorem V6 (h:f=1\/f=2):dv (z6 f)=0:=by rcases h with rfl|rfl<;>decide+kernel
theorem Rz (f:Int):dm (z6 f)=[]:=rfl
theorem acf (J:f=1\/f=2){r:Int}{qs:List (Int×Int)}(hp:nV (az (kU []) (zJ f)) 0 (z6 f) r qs):
  r=0/\∃T own,mN (az (kU []) (zJ f++qs)) T own [] ES/\(aZ (az (kU []) (zJ f++qs))).length=255/\(az (kU []) (zJ f++qs)).getD 8 0=0:=by
 have hR:=Ry J;have hN:=V6 J;have hF:dR (az (kU []) (zJ f)) ((0:Nat):Int):=LY f (by omega);have W:=ac5 J;rw[bz];rcases hp with ⟨-,z,-⟩|⟨-,-,z,-⟩|⟨own,-,V,z⟩
 ·exact absurd ⟨by omega,hR⟩ z
 ·exact absurd hF z
 ·have V:own=[]:=by
   rcases V with U|⟨m,U⟩
   ·exact U.2
   ·exact absurd hF U.notFree
  subst V;rcases z with ⟨-,z,-⟩|⟨h0,z,rfl⟩
  ·rw[hN] at z;omega
  ·obtain⟨cW,h3,h4,G,h6,-⟩:=W.putAt (i:=0) (by omega) (n:=z6 f) rfl hR z (ex':=[]) (λb _=>by rw[BZ,uC,Rz]) (by simp) (λh=>absurd h (by show ¬(2:Int)=1;omega))
   rw[hN] at G;have h7:nv (λ_=>wh) 0 (tK (az (kU []) (zJ f)) (z6 f))=ES:=rfl;rw[h7] at h3;refine⟨h0,_,cW,h3.snd V5,?_,?_⟩
   ·rw[ace] at G
    exact G
   ·have :=h6 8 (by omega)
    rw[xa] at this;exact this
end
section
variable{f:Int}
end
end Go.Proofs.YtepbpdipenedhaaGreatDoor
