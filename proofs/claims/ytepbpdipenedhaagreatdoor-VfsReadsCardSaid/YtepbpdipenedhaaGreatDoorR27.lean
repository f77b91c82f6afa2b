/- Lemmas. -/
import Derived.Test.YtepbpdipenedhaaGreatDoorR26
namespace Go.Proofs.YtepbpdipenedhaaGreatDoor
open Go.RowKit
variable{f:Int}
end Go.Proofs.YtepbpdipenedhaaGreatDoor
namespace Go.Proofs.YtepbpdipenedhaaGreatDoor
open Go.RowKit
variable{f:Int}
theorem RM:(Tryz.prog.info? 5).map (λi=>(i.zero,i.size,i.bytes))=some (some (.int .u8 0),1,1):=by kernel_rfl
theorem RN:(Tryz.prog.info? 5).map (·.size)=some 1:=by kernel_rfl
theorem abD (n:Nat):madeCells #[Value.int .u8 0] n=(jL (List.replicate n 0)).toArray:=by
 apply Array.toList_inj.1;rw[toList_madeCells_one];simp[jL]
theorem abE (n:Nat)(V:n<=100000)(w:World):(Instr.makeSlice 31 (.int .i64 (n:Int)) (.int .i64 (n:Int))).run Tryz.prog w=
  .ok (.slice (some ⟨w.heap.size,0,none⟩) n n) (w.alloc (.cells (jL (List.replicate n 0)).toArray 5)):=by
 obtain⟨U,J,h,z,G⟩:=cP RM;have :=run_make (P:= Tryz.prog) w 31 5 U _ Tryz.underlying31 J h .i64 .i64 (n:Int) (n:Int) (by omega) (by omega) (by rw[G];omega) (by omega);rw[z,aH,iq] at this;rw[<-abD];exact this
theorem KC{w:World}{b T o n cap W:Nat}{v:Value}{z h:List Int}(U:bh w b (jL z).toArray T)(hs:Reads w v W (jL h))(V:o+min h.length n<=z.length):
  ∃r w',(∀ty,(Builtin.copy_ #[31,31] ty #[.slice (some ⟨b,o,none⟩) n cap,v]).run Tryz.prog w= .ok r w')/\bh w' b (jL (z.take o++h.take n++z.drop (o+min h.length n))).toArray T/\az [b] w w':=by
 obtain⟨a,c,rfl,h1,h2,h3⟩:=hs;rw[fF] at *;by_cases h0:h.length=0
 ·obtain rfl:=bg h0
  refine⟨_,w,λty=>run_copy_none (P:= Tryz.prog) w 31 31 ty 5 _ a n cap 0 c Tryz.underlying31 RN (by simp),?_,az.refl _ _⟩;rw[List.take_nil,bu,b8,Nat.zero_min,dR,eI];exact U
 ·obtain⟨hg,off,rfl,hc⟩:=h3 (λe=>h0 (by have :=cB List.length e;rwa[fF,b8] at this))
  have J:(jL (h.take n)).length=min h.length n:=by rw[fF,aJ,Nat.min_comm]
  refine⟨_,_,λty=>run_copy_row (P:= Tryz.prog) w 31 31 ty 5 b o n cap ⟨W,off,none⟩ h.length c (jL z).toArray T (jL (h.take n)) Tryz.underlying31 RN U J ?_ ?_ ?_,?_,(az.refl _ _).setRow (by simp) _⟩
  ·intro j u G
   have hj:j<min h.length n:=by
    have :=(List.getElem?_eq_some_iff.1 G).1;rwa[J] at this
   rw[add_plain,hc j (by omega),<-G];simp only[jL,bF,bO];rw[aC (by omega)]
  ·rw[bN,J,fF];omega
  ·intro u G
   simp only[jL,bH] at G;obtain⟨x,-,rfl⟩:=G;rfl
  ·have e:((jL z).toArray.toList.take o++jL (h.take n)++(jL z).toArray.toList.drop (o+(jL (h.take n)).length)).toArray=(jL (z.take o++h.take n++z.drop (o+min h.length n))).toArray:=by
    rw[J];simp[jL,List.map_take,List.map_drop]
   rw[e];exact kr U
def vR:Nat->Nd:=ng (λ_=>vL) 0 ⟨2,1,[],[]⟩
theorem UR:vR 0=⟨2,1,[],[]⟩:=rfl
theorem pO{i:Nat}(h:i≠0):vR i=vL:=aB h
theorem CA (i:Nat):(vR i).E=[]:=by
 by_cases h:i=0
 ·rw[h];rfl
 ·rw[pO h];rfl
theorem UT:eo vR where
 out i hi:=pO (by omega)
 kind i:=by
  by_cases h:i=0
  ·rw[h];exact .inr (.inr ⟨rfl,rfl⟩)
  ·exact .inl (pO h)
 root:=rfl
 lead i e he:=by rw[CA] at he;cases he
 rises i:=by rw[CA];exact List.Pairwise.nil
 links i hi:=by
  have hl:∀k j,kI vR k j=0:=λk=>by
   induction k with
   |zero=>intro j;rfl
   |succ k ih=>intro j;rw[kI,ih,CA];rfl
  by_cases h:i=0
  ·rw[h,hl]
   exact⟨λh1=>by rw[UR] at h1;simp at h1,λ_=>⟨rfl,λ_=>rfl,λh2=>absurd rfl h2⟩⟩
  ·rw[pO h]
   exact⟨λh1=>by simp[vL] at h1,λh1=>by simp[vL] at h1⟩
 reach i hi:=by
  by_cases h:i=0
  ·rw[h];exact .here
  ·rw[pO h] at hi;exact absurd rfl hi
theorem xM (k:Nat):(kF []).getD k 0=0:=by rw[wT];split<;>rfl
def yD (f:Int):List (Int×Int):=[(1,f),(2,0),(0,7596835243318849792),(2,32)]
theorem vS (f:Int)(k:Nat):(aA (kF []) (yD f)).getD k 0=if k=2 then 32 else if k=0 then 7596835243318849792 else if k=1 then f else 0:=by
 have e:aA (kF []) (yD f)=((((kF []).set 1 f).set 2 0).set 0 7596835243318849792).set 2 32:=rfl;have J:=iK [];rw[e,jk _ _ _ _ (by simp only[cT];omega),jk _ _ _ _ (by simp only[cT];omega),jk _ _ _ _ (by simp only[cT];omega),jk _ _ _ _ (by omega),xM];by_cases z:k=2
 ·subst z;rfl
 ·by_cases h:k=0
  ·subst h;rfl
  ·by_cases G:k=1
   ·subst G;rfl
   ·rw[aB (by omega),aB (by omega),aB (by omega),aB (by omega),aB z,aB h,aB G]
theorem adP (f:Int):(aA (kF []) (yD f)).length=3128:=by rw[b7,iK]
theorem KD (f:Int){i:Nat}(z:i<32):dP (aA (kF []) (yD f)) (i:Int):=by
 have h:∀j:Fin 32,dP (kF []) ((j.val:Nat):Int):=by decide+kernel
 refine(h ⟨i,z⟩).same λj G=> ?_
 rw[vS,xM,aB (by omega),aB (by omega),aB (by omega)]
theorem RO (f:Int)(c:Nat):dC (aA (kF []) (yD f)) c=false:=by
 unfold dC bw;rw[vS,aB (by omega),aB (by omega),aB (by omega)];exact Nat.zero_testBit _
theorem abF (f:Int):(aZ (aA (kF []) (yD f))).length=255:=by
 have h:(aZ (kF [])).length=255:=by decide+kernel
 have e:aZ (aA (kF []) (yD f))=aZ (kF []):=sZ λc _ _=>by
  rw[RO];unfold dC bw;rw[xM];exact(Nat.zero_testBit _).symm
 rw[e];exact h
theorem Bh (i:Nat):nT abl i=cr:=by
 unfold nT abl;rw[aj,bo];split<;>rfl
theorem Nq (b:Nat):∀k,jQ abl (λ_=>[]) k b=0
 |0=>rfl
 |k+1=>by
  rw[jQ,Nq b k,Bh,sP];rfl
theorem ack (J:f=1\/f=2):ni (aA (kF []) (yD f)) abl (λ_=>[]) [] (λ_=>vL):=by
 refine⟨⟨adP f,λk=> ?_,⟨?_,?_,?_,λi z G=> ?_,λi z G=> ?_⟩,⟨rfl,λi z=> .inr ⟨λn o U=>U.notFree (KD f z),Bh i,rfl⟩⟩,λi z=> .inl (KD f z),λb _=> ?_,by simp,λi _=> ?_,rfl,λj=> .inl rfl⟩,λi=> ?_⟩
 ·rw[vS]
  split
  ·omega
  ·split
   ·omega
   ·split<;>omega
 ·rw[vS];rfl
 ·rw[vS];exact J
 ·rw[vS,aC rfl];omega
 ·rw[vS,aB (by omega),aB (by omega),aB (by omega)]
 ·rw[vS,aB (by omega),aB (by omega),aB (by omega)]
 ·rw[RO]
  unfold wG;rw[Nq];simp
 ·rw[Bh]
  intro h;exact absurd h (by decide)
 ·rw[Bh,XY]
def y8 (f:Int):bP:=⟨f,2,1,0,List.replicate 13 0,[]⟩
theorem Qg (h:f=1\/f=2):bZ (y8 f):=by rcases h with rfl|rfl<;>decide+kernel
theorem UU (h:f=1\/f=2):dz (y8 f)=0:=by rcases h with rfl|rfl<;>decide+kernel
theorem Qh (f:Int):dn (y8 f)=[]:=rfl
theorem abG (W:f=1\/f=2){r:Int}{qs:List (Int×Int)}(hp:nH (aA (kF []) (yD f)) 0 (y8 f) r qs):
  r=0/\∃T own,lY (aA (kF []) (yD f++qs)) T own [] vR/\(aZ (aA (kF []) (yD f++qs))).length=255/\(aA (kF []) (yD f++qs)).getD 8 0=0:=by
 have hR:=Qg W;have hN:=UU W;have hF:dP (aA (kF []) (yD f)) ((0:Nat):Int):=KD f (by omega);have G:=ack W;rw[bD];rcases hp with ⟨-,z,-⟩|⟨-,-,z,-⟩|⟨own,-,V,z⟩
 ·exact absurd ⟨by omega,hR⟩ z
 ·exact absurd hF z
 ·have V:own=[]:=by
   rcases V with J|⟨m,J⟩
   ·exact J.2
   ·exact absurd hF J.notFree
  subst V;rcases z with ⟨-,z,-⟩|⟨h0,z,rfl⟩
  ·rw[hN] at z;omega
  ·obtain⟨cM,h3,h4,U,h6,-⟩:=G.putAt (i:=0) (by omega) (n:=y8 f) rfl hR z (ex':=[]) (λb _=>by rw[Bh,sP,Qh]) (by simp) (λh=>absurd h (by show ¬(2:Int)=1;omega))
   rw[hN] at U;have h7:ng (λ_=>vL) 0 (sS (aA (kF []) (yD f)) (y8 f))=vR:=rfl;rw[h7] at h3;refine⟨h0,_,cM,h3.snd UT,?_,?_⟩
   ·rw[abF] at U
    exact U
   ·have :=h6 8 (by omega)
    rw[vS] at this;exact this
end Go.Proofs.YtepbpdipenedhaaGreatDoor
namespace Go.Proofs.YtepbpdipenedhaaGreatDoor
open Go.RowKit
variable{f:Int}
end Go.Proofs.YtepbpdipenedhaaGreatDoor
