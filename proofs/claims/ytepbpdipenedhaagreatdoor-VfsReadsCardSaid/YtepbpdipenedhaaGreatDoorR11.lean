/- Lemmas. -/
import Derived.Test.YtepbpdipenedhaaGreatDoorR10
import Derived.Test.YtepbpdipenedhaaGreatDoorR09
import Derived.Lib.AppendZerosOnto
set_option maxHeartbeats 8000000
set_option maxRecDepth 100000
namespace Go.Proofs.YtepbpdipenedhaaGreatDoor
open Go.Proofs.Tryz
open Go.RowKit
variable{E:List (ByteArray×Int)}{B X l:List Int}{J b g i k m:Nat}{n:bP}{own:List Nat}{w:World}{ps:List (Int×Int)}{v:Value}{x:Int}{P:Program}
theorem nZ:∀a:List UInt8,Op.bytesLess a a=false
 | []=>rfl
 |a::x=>by
  have h:¬a<a:=by rw[gY];omega
  simp[Op.bytesLess,nZ x,h]
theorem rO:∀a b:List UInt8,Op.bytesLess a b=false->a≠b->Op.bytesLess b a=true
 | [],[],_,h=>absurd rfl h
 |_::_,[],_,_=>rfl
 | [],_::_,h,_=>by simp[Op.bytesLess] at h
 |a::x,b::y,h,hne=>by
  simp only[Op.bytesLess,Bool.or_eq_false_iff,Bool.and_eq_false_iff,decide_eq_false_iff_not,cQ] at h;simp only[Op.bytesLess,Bool.or_eq_true,fD,decide_eq_true_eq,beq_iff_eq];by_cases e:a=b
  ·subst e
   refine .inr ⟨rfl,rO x y ?_ (λz=>hne (by rw[z]))⟩;exact h.2.resolve_left λJ=>J rfl
  ·left
   have G:=h.1;rw[gY] at G ⊢;have :a.toNat≠b.toNat:=λh=>e (UInt8.toNat_inj.1 h)
   omega
theorem nE:∀a b c:List UInt8,Op.bytesLess a b=true->Op.bytesLess b c=true->Op.bytesLess a c=true
 |_,_,[],_,h=>by simp[Op.bytesLess] at h
 | [],_,_::_,_,_=>rfl
 |_::_,[],_::_,h,_=>by simp[Op.bytesLess] at h
 |a::x,b::y,c::z,J,G=>by
  simp only[Op.bytesLess,Bool.or_eq_true,fD,decide_eq_true_eq,beq_iff_eq] at J G ⊢;rw[gY] at *;rcases J with J|⟨rfl,J⟩
  ·rcases G with G|⟨rfl,G⟩
   ·left;omega
   ·left;exact J
  ·rcases G with G|⟨rfl,G⟩
   ·left;exact G
   ·exact .inr ⟨rfl,nE x y z J G⟩
theorem FB (h:∀k,k<E.length->0<k->leB (eU E k) (eU E (k-1))=false):∀k j,j<k->k<E.length->Op.bytesLess (eU E j).toList (eU E k).toList=true:=by
 intro k;induction k with
 |zero=>intro j U;omega
 |succ k ih=>
  intro j U J;have z:=h (k+1) J (by omega);unfold leB at z;rw[Bool.or_eq_false_iff,ic] at z;have G:Op.bytesLess (eU E k).toList (eU E (k+1)).toList=true:=rO _ _ z.1 (by simpa using z.2);by_cases e:j=k
  ·subst e;exact G
  ·exact nE _ _ _ (ih j (by omega) (by omega)) G
theorem Mo (h:∀k,k<E.length->0<k->leB (eU E k) (eU E (k-1))=false){j k:Nat}(G:j<k)(z:k<E.length):eU E j≠eU E k:=λe=>by
 have :=FB h k j G z;rw[e,nZ] at this;cases this
theorem Mq{l:List Nat}(h:iC l=true):72057594037927936<=kv l:=by
 unfold kv;rw[aC h,qK];have :=(nN h).1;omega
theorem Ce (k:Nat):(l.drop 5).getD k 0=l.getD (5+k) 0:=by
 rw[aj,bT,aj]
theorem Pq{c:Nat}(h:k<c)(z:c<=l.length):((l.take c).map Int.toNat).getD k 0=(l.getD k 0).toNat:=by
 rw[aj,bF,bO,aC h,aj,aG (by omega)];rfl
theorem TA (aA:In64 X){q:Nat}(h:mf X (eu X q)):
  bZ (nu X (eu X q))/\(nu X (eu X q)).F=1/\(nu X (eu X q)).B.length=13/\(DI X (eu X q)).length=eZ (nu X (eu X q))/\(∀c∈DI X (eu X q),c≠0/\c<256)/\(DI X (eu X q)).Nodup/\Fz X q (nu X (eu X q)) (DI X (eu X q)):=by
 obtain⟨ah,hS,aU,hF,hR,ar⟩:=h;have wN:=iD X q;have wD:In64 (eu X q):=λj=>by
  by_cases hj:j<8
  ·rw[j5 _ _ _ hj];exact aA _
  ·rw[aj,aT (by rw[wN];omega)]
   simp
 have vv:=Fx aA wD wN ah;have W:=vt (X:=X) wN;have SA:dv X (eu X q)=((eu X q).drop 2).take 5++(if (eu X q).getD 7 0=0 then List.replicate 8 0 else eu X (1080+8*((eu X q).getD 7 0).toNat)):=rfl;have ac:(dv X (eu X q)).drop 5=if (eu X q).getD 7 0=0 then List.replicate 8 0 else eu X (1080+8*((eu X q).getD 7 0).toNat):=by
  rw[SA,List.drop_append_of_le_length (by simp[wN]),dF (by simp[wN])];rfl
 have bn:=ah.1;have aF:=(wD 7).1;have aL:=ah.2.2;clear SA ah;have wP:nu X (eu X q)=if (iR (eu X q)).K=2 then { iR (eu X q) with E:=rH X (dv X (eu X q)) ((eu X q).getD 1 0).toNat } else { iR (eu X q) with B:=dv X (eu X q) }:=rfl
 have aa:DI X (eu X q)=(if (iR (eu X q)).K=2 then ((dv X (eu X q)).take (bj ((eu X q).getD 1 0).toNat)).map Int.toNat else [])++(if (eu X q).getD 7 0=0 then [] else [((eu X q).getD 7 0).toNat]):=rfl;have aV:(iR (eu X q)).B=List.replicate 13 0:=rfl;have aS:(iR (eu X q)).E=[]:=rfl;generalize hn:nu X (eu X q)=n at *;generalize aX:DI X (eu X q)=own at *;generalize aZ:dv X (eu X q)=l at *;generalize ba:(eu X q).getD 7 0=V at *;generalize bc:((eu X q).getD 1 0).toNat=m at *;generalize aN:eu X q=r at *;have aR:bj ([]:List (ByteArray×Int)).length=0:=by decide
 by_cases hK:(iR r).K=2
 · -- a directory
  rw[aC hK] at wP aa;obtain⟨bg,aW,av⟩:=aU hK;have ai:n.E=rH X l m:=by rw[wP]
  have FC:n.E.length=m:=by rw[ai,pC]
  have W7:n.B=List.replicate 13 0:=by rw[wP];exact aV
  have bk:n.K=2:=by rw[wP];exact hK
  have bh:bj m<=6:=by unfold bj;omega
  have aM:∀k,bj m<=k->l.getD k 0=0:=λk J=>by
   rw[aW,tK W (by omega),aB (by omega)]
  have Mn:og n:=by
   rcases hR.2.2 with h|h
   ·have :=h.1;omega
   ·exact h.2
  have ak:((l.take (bj m)).map Int.toNat).length=bj m:=by rw[bS,aJ,W];omega
  have G:own.length=bj m+(if V=0 then 0 else 1):=by
   rw[aa,aD,ak];split<;>rfl
  have ae:∀k,k<bj m->own.getD k 0=(l.getD k 0).toNat:=λk J=>by
   rw[aa,aj,aY (by rw[ak];exact J),<-aj,Pq J (by rw[W];omega)]
  have Rh:V≠0->own.getD (bj m) 0=V.toNat:=λz=>by
   rw[aa,aj,aQ (by rw[ak];omega),ak,jH,aB z];rfl
  have tO:fk n own=V.toNat:=by
   unfold fk;rw[FC];by_cases z:V=0
   ·rw[aB (by rw[G,aC z];omega),z];rfl
   ·rw[aC (by rw[G,aB z];omega),Rh z]
  have U:dY n own=l:=by
   have L9:bj n.E.length<=own.length:=by rw[FC,G];omega
   refine CV (by rw[tY (by rw[W7];rfl) (by rw[FC];omega) L9,W]) λk _=> ?_
   rw[tZ L9,FC];split
   ·rename_i J
    rw[ae k J,jr (vv k).1]
   ·rename_i J
    rw[aM k (by omega),W7,aj,bo];split<;>rfl
  have aK:V≠0↔5<bj m:=by
   constructor
   ·intro z
    have h1:=aL.resolve_left z;rcases dG 5 (bj m) with h|h
    ·exact h
    ·refine absurd (CV (by rw[bE,W];rfl) λk _=> ?_) h1
     rw[Ce,aM _ (by omega),aj,bo];split<;>rfl
   ·intro h5 z
    rw[aC z] at ac;have h1:=(av 5 h5).1;have h2:(l.drop 5).getD 0 0=0:=by rw[ac];rfl
    rw[Ce] at h2;exact h1 h2
  have tV:eZ n=own.length:=by
   unfold eZ;rw[FC,G];by_cases z:V=0
   ·rw[aB,aC z]
    ·rfl
    ·intro h
     rcases h with h|h
     ·exact aK.2 h z
     ·exact h (by rw[W7];rfl)
   ·rw[aC (.inl (aK.1 z)),aB z]
  have aI:∀c∈own,c≠0/\c<256:=λc hc=>by
   obtain⟨k,J,rfl⟩:=cj hc;have e:own[k]=own.getD k 0:=by rw[aj,aG J];rfl
   rw[e];by_cases af:k<bj m
   ·rw[ae k af]
    have :=(av k af).1;have :=vv k;omega
   ·rw[G] at J
    split at J
    ·omega
    ·rename_i z
     rw[show k=bj m by omega,Rh z];omega
  have ag:∀k,k<bj m->eu X (1080+8*own.getD k 0)=iG n.E k:=λk J=>by
   rw[ae k J,ai];exact(av k J).2.2.symm
  have aH:V≠0->eu X (1080+8*V.toNat)=l.drop 5:=λz=>by rw[ac,aB z]
  have xk:∀k,k<bj m->(iG n.E k).getD 0 0=((kv (bl (eU n.E (4*k))):Nat):Int)/\4*k<n.E.length:=λk J=>by
   have bb:4*k<m:=by unfold bj at J;omega
   refine⟨?_,by omega⟩;unfold iG;rw[pA _ _ _ _ (by omega),aC (by omega),JU,aC (by omega)];rfl
  have au:=λk J (z:0<k)=>(Mn.2.2.2 k J).2.2 z
  refine⟨hR,by rw[wP];exact hF,by rw[W7];rfl,tV.symm,aI,?_,?_⟩
  ·rw[List.nodup_iff_pairwise_ne,cU]
   intro i j hi hj bf e;have ei:own[i]=own.getD i 0:=by rw[aj,aG hi];rfl
   have ej:own[j]=own.getD j 0:=by rw[aj,aG hj];rfl
   rw[ei,ej] at e;have ax:i<bj m:=by rw[G] at hj;split at hj<;>omega
   obtain⟨f1,f2⟩:=xk i ax;have b1:=ag i ax;have g1:=(Mn.2.2.2 (4*i) f2).1;by_cases az:j<bj m
   ·obtain⟨f3,f4⟩:=xk j az
    have b2:=ag j az;rw[e,b2] at b1;rw[b1,f1] at f3;have g2:=(Mn.2.2.2 (4*j) f4).1;have hw:kv (bl (eU n.E (4*i)))=kv (bl (eU n.E (4*j))):=by omega
    unfold kv at hw;rw[aC g1,aC g2] at hw;have n1:=nO g1 (Ao _);have n2:=nO g2 (Ao _);rw[hw,n2] at n1;exact Mo au (show 4*i<4*j by omega) f4 (JJ (Option.some.inj n1)).symm
   ·have z:V≠0:=λz=>by rw[G,aC z] at hj;omega
    have aO:j=bj m:=by rw[G,aB z] at hj;omega
    rw[aO,Rh z] at e;rw[e,aH z] at b1;have :=Mq g1;rw[<-b1,Ce] at f1;have :=vv (5+0);omega
  ·refine⟨by rw[U,tO,jr aF,ar,aN],λk J=> ?_⟩
   unfold ownRow;rw[FC,U];split
   ·rename_i af
    exact ag k af
   ·rename_i af
    have z:V≠0:=λz=>by rw[G,aC z] at J;omega
    have aP:k=bj m:=by rw[G,aB z] at J;omega
    rw[aP,Rh z,aH z]
 · -- a file
  rw[aB hK] at wP aa;have ai:n.E=[]:=by rw[wP];exact aS
  have FC:bj n.E.length=0:=by rw[ai];exact aR
  have W7:n.B=l:=by rw[wP]
  have G:own=if V=0 then [] else [V.toNat]:=by rw[aa,bY]
  have U:dY n own=l:=by
   unfold dY;rw[FC,W7];rfl
  have tO:fk n own=V.toNat:=by
   unfold fk;rw[FC];by_cases z:V=0
   ·rw[G,aC z,aB (by simp),z];rfl
   ·rw[G,aB z,aC (by simp)];rfl
  refine⟨hR,by rw[wP];exact hF,by rw[W7,W],?_,?_,?_,?_⟩
  ·unfold eZ
   rw[FC,W7];by_cases z:V=0
   ·rw[aC z] at ac
    rw[G,aC z,aB]
    ·rfl
    ·intro h
     rcases h with h|h
     ·omega
     ·exact h ac
   ·rw[G,aB z,aC (.inr (aL.resolve_left z))]
    rfl
  ·rw[G]
   split
   ·simp
   ·rename_i z
    intro c hc;rw[ay] at hc;omega
  ·rw[G]
   split<;>simp
  ·refine⟨by rw[U,tO,jr aF,ar,aN],λk J=> ?_⟩
   unfold ownRow;rw[FC,U,aB (by omega)];have z:V≠0:=λz=>by rw[G,aC z] at J;simp at J
   rw[G,aB z] at J ⊢;obtain rfl:k=0:=by simpa using J
   show eu X (1080+8*V.toNat)=_;rw[ac,aB z]
def vD (w:World) (b z:Nat) (B:List Int) (ps:List (Int×Int)) (i:Int) (n:bP) (e:Ending) (w':World):Prop:=
 ∃r qs h,e= .returned (.int .i64 r)/\(h=z\/(w.heap.size<=h/\h<w'.heap.size))/\eO w' b h B (ps++qs)/\az [b,z] w w'/\qs.length<=200/\
  ((r=1/\¬G5 i n/\qs=[])\/(r=7/\G5 i n/\(aZ (aA B ps)).length<eZ n/\qs=[])\/
   (r=0/\G5 i n/\eZ n<=(aZ (aA B ps)).length/\qs=oP (aA B ps) i.toNat n ((aZ (aA B ps)).take (eZ n))))
theorem pF:∀c∈(aZ X).take m,c≠0/\c<256:=λc h=>by
 have :=jT.1 (bM h);exact⟨this.2.1,this.1⟩
theorem ru:((aZ X).take m).Nodup:=List.Sublist.nodup (List.take_sublist _ _) (qU X 256)
theorem sJ (h:m<=(aZ X).length):((aZ X).take m).length=m:=by rw[aJ,cC h]
theorem TB (z:bj n.E.length<=6)(h:∀c∈own,c≠0/\c<256)(G:own.length<=7):(oP X i n own).length<=200:=by
 unfold oP vz pE;rw[aD,aD,aD,po _ _ h,xW,nW];split
 ·rw[nW];omega
 ·simp only[b8];omega
theorem aaX (h:eO w b J B ps)(U:In64 (aA B ps))(hT:kg w)(Gz:J<w.heap.size)(W:ps.length<=800000)(i:Int)(n:bP)(v:Value)(g:Nat)(V:n.B.length=13)(hE:bC w v g n.E)
  (hN:∀k,k<n.E.length->(eU n.E k).size<=9223372036854775807) (aa:n.E.length≠0->g≠b/\g≠J):
  Calls prog 172 #[.pointer (some ⟨b,0,none⟩),.int .i64 i,.agg (aR n v)] w (vD w b J B ps i n):=by
 by_cases z:G5 i n
 ·by_cases hn:eZ n<=(aZ (aA B ps)).length
  ·refine(ac3 h U hT Gz W i n v g V hE hN z aa hn).mono λe w' G=> ?_
   obtain⟨G,gG,h1,h2,h3⟩:=G;have ac:=jz z.2.2;have ae:=vC n;exact⟨0,_,gG,G,h1,h2,h3,TB ac.2.1 pF (by rw[sJ hn];omega),.inr (.inr ⟨rfl,z,hn,rfl⟩)⟩
  ·refine(Tk h U i n v g V hE hN z (by omega)).mono λe w' G=> ?_
   exact⟨7,[],J,G.1,.inl rfl,by rw[bu];exact h.keep G.2 (by simp) (by simp),G.2.mono (by simp),by simp,.inr (.inl ⟨rfl,z,by omega,rfl⟩)⟩
 ·refine(aaM i n v g V hE hN z).mono λe w' G=> ?_
  exact⟨1,[],J,G.1,.inl rfl,by rw[bu];exact h.keep G.2 (by simp) (by simp),G.2.mono (by simp),by simp,.inl ⟨rfl,z,rfl⟩⟩
theorem xY{h:Array Value}(J:bh w g h 111)(U:h.size=18)(z:n.B.length=13){v:Value}(G:v.oneCell'=true):
  ∃w',(storeVar 111 ⟨g,0,none⟩ (.agg (aR n v))).run prog w= .ok () w'/\bh w' g (aR n v) 111/\az [g] w w':=
 bB (P:= prog) (ty:= 111) (cs:=mo n v) (by rw[gU,z];exact iY) J (by rw[U,gU,z]) (ku G)
theorem uf (h:bC w v g E):v.oneCell'=true:=by
 obtain⟨a,cap,rfl,-⟩:=h;rfl
theorem Xh (z:In64 X)(J:X.length=3128){i:Int}{n:bP}(U:n.B.length=13)(h:G5 i n)(hn:eZ n<=(aZ X).length):
  Fz (aA X (oP X i.toNat n ((aZ X).take (eZ n)))) (824+8*i.toNat) n ((aZ X).take (eZ n))/\In64 (aA X (oP X i.toNat n ((aZ X).take (eZ n))))/\
  (∀k,820<=k->¬(824+8*i.toNat<=k/\k<824+8*i.toNat+8)->¬(1080<=k/\(k-1080)/8∈(aZ X).take (eZ n))->(aA X (oP X i.toNat n ((aZ X).take (eZ n)))).getD k 0=X.getD k 0):=by
 have G:=jz h.2.2;have aa:=vC n;have W:=sJ hn;have hi:=h.1;refine⟨?_,adn z J U h.2.2 (by omega) pF,λk V h1 h2=>Tw (by omega) pF V h2 (by omega)⟩;unfold oP;rw[bD];exact Xc (by rw[b7,J]) _ (by omega) U G.2.1 (by omega) (by omega) ru pF
theorem In64.of_mem(h:∀x,x∈l->0<=x/\x<18446744073709551616):In64 l:=λi=>by
 rw[aj];by_cases z:i<l.length
 ·rw[aG z]
  exact h _ (bA z)
 ·rw[aT (by omega)]
  simp
theorem Mr (l:List Int):∀f e,nS l f e<=e+f
 |0,e=>aI _
 |f+1,e=>by
  unfold nS;split
  ·have :=Mr l f (e+1);omega
  ·omega
theorem FD {l:List Int}{x:Int}:∀{k:Nat},x∈fS l k->∃j,j<k/\xe l j/\x=tL j (l.getD j 0) (qM l j)
 |0,h=>by simp[fS] at h
 |k+1,h=>by
  unfold fS at h;split at h
  ·rename_i hs
   rcases aU.1 h with h|h
   ·obtain⟨j,G,z⟩:=FD h
    exact⟨j,by omega,z⟩
   ·rw[ay] at h
    exact⟨k,by omega,hs,h⟩
  ·obtain⟨j,G,z⟩:=FD h
   exact⟨j,by omega,z⟩
theorem Eb (h:x∈fu l):0<=x/\x<9223372036854775808:=by
 obtain⟨j,J,G,rfl⟩:=FD h;have z:=G.1;have U:=Mr l 13 (j+1);unfold Dx at z;unfold tL qM;omega
theorem Pr (z:∀c∈own,c≠0/\c<256)(k:Nat):own.getD k 0<256:=by
 by_cases h:k<own.length
 ·exact(z _ (jt h)).2
 ·rw[aj,aT (by omega)]
  decide
theorem aaY (V:bZ n)(U:∀c∈own,c≠0/\c<256):In64 (nb n own):=by
 obtain⟨t1,t2,t3,t4⟩:=sH V;have G:0<=oh n/\oh n<18446744073709551616:=by unfold oh;omega
 have J:0<=n.S/\n.S<18446744073709551616:=by omega
 refine In64.of_mem λx h=> ?_
 unfold nb at h;split at h
 ·have z:∀q,0<=zy n.E own 4 0 q/\zy n.E own 4 0 q<18446744073709551616:=λq=>by
   unfold zy hdD;have W:=Pr U (fN n.E q);split
   ·split<;>omega
   ·split<;>omega
  simp only[Fp,qH,aP,aM,bz] at h;rcases h with rfl|rfl|rfl|rfl|rfl|rfl|rfl|rfl
  ·exact G
  ·exact J
  ·exact z 0
  ·exact z 1
  ·exact z 2
  ·exact z 3
  ·omega
  ·omega
 ·unfold ml at h
  split at h
  ·rcases aP.1 h with rfl|h
   ·exact G
   ·rcases aP.1 h with rfl|h
    ·exact J
    ·rcases aU.1 h with h|h
     ·have :=Eb h;omega
     ·have :=List.eq_of_mem_replicate h;omega
  ·rcases aP.1 h with rfl|h
   ·exact G
   ·rcases aP.1 h with rfl|h
    ·exact J
    ·rcases aU.1 h with h|h
     ·have :=Eb (bM h);omega
     ·rw[ay] at h
      have :=Pr U 0;omega
theorem Ps (J:bZ n)(hm:∀c∈own,c≠0/\c<256)(m:Nat):In64 ((gV n own).getD m []):=by
 by_cases z:m<(gV n own).length
 ·unfold gV at z ⊢
  split at z
  ·rename_i hK
   rw[aC hK];have hd:og n:=(J.2.2.resolve_left (λh=>by have :=h.1;omega)).2;rw[nY] at z;obtain⟨b,j,hb,hj,rfl⟩:=tS n.E z;rw[rh n.E own hj hb];intro y;cases y with
   |zero=>
    show 0<=(if j+1<dN n.E b then ((own.getD (fN n.E b+(j+1)) 0:Nat):Int) else 0)/\(if j+1<dN n.E b then ((own.getD (fN n.E b+(j+1)) 0:Nat):Int) else 0)<_;have :=Pr hm (fN n.E b+(j+1));split<;>omega
   |succ y=>
    rw[WK,nX];by_cases V:y<7
    ·rw[Mf _ _ _ V]
     split
     ·rename_i hc
      split
      ·have :=Ml (eU (ez n.E b) (3*j+y/2));omega
      ·obtain⟨k,U,-,W⟩:=Ea hc.1
       rw[W];have :=(hd.2.2.2 k U).2.1;omega
     ·omega
    ·rw[aj,aT (by rw[kx,mO];omega)]
     simp
  ·rename_i hK
   rw[aB hK];unfold jW at *;split
   ·simp[In64]
   ·refine In64.of_mem λx G=> ?_
    rename_i h6
    rw[aB h6] at z;obtain rfl:m=0:=by simpa using z
    have G:x∈(fu n.B).drop 5++List.replicate (13-(fu n.B).length) 0:=G;rcases aU.1 G with G|G
    ·have :=Eb (iA G);omega
    ·have :=List.eq_of_mem_replicate G;omega
 ·rw[aj,aT (by omega)]
  simp[In64]
theorem ug{p:Int×Int}{Ls:List (List Int)}(h:p∈sI Ls own k):∃m j,m<k/\j<8/\p.1.toNat=1080+8*own.getD m 0+j/\p.2=(Ls.getD m []).getD j 0:=by
 unfold sI at h;obtain⟨m,z,h⟩:=List.mem_flatMap.1 h;rw[bX] at z;obtain⟨j,J,G,U⟩:=lF h;exact⟨m,j,z,J,G,U⟩
theorem aaZ (z:X.length=3128){Ls:List (List Int)}{own:List Nat}(U:∀m,m<own.length->(Ls.getD m []).length=8)(J:own.Nodup)(G:∀c∈own,c≠0/\c<256):∀k,k<=own.length->∀m,m<k->eu (aA X (sI Ls own k)) (1080+8*own.getD m 0)=Ls.getD m []:=by
 intro k;induction k with
 |zero=>intro _ m h;omega
 |succ k ih=>
  intro hk m aa;have W:=G _ (jt (show k<own.length by omega));have V:=G _ (jt (show m<own.length by omega));rw[zD,bD];by_cases e:m=k
  ·subst e
   exact qh (by rw[b7,z]) _ (by omega) (U m (by omega))
  ·have :own.getD m 0≠own.getD k 0:=λh=>e (getD_inj J (by omega) (by omega) h)
   rw[qj (by rw[b7,z]) _ _ (by omega) (by omega)];exact ih (by omega) m (by omega)
theorem TC (ae:In64 X)(V:X.length=3128){i:Int}{n:bP}(G:xw i n)(hn:eP n<=(aZ X).length):
  oQ (aA X (mb X i.toNat n ((aZ X).take (eP n)))) (eu (aA X (mb X i.toNat n ((aZ X).take (eP n)))) (824+8*i.toNat)) n ((aZ X).take (eP n))/\In64 (aA X (mb X i.toNat n ((aZ X).take (eP n))))/\
  (∀k,820<=k->¬(824+8*i.toNat<=k/\k<824+8*i.toNat+8)->¬(1080<=k/\(k-1080)/8∈(aZ X).take (eP n))->(aA X (mb X i.toNat n ((aZ X).take (eP n)))).getD k 0=X.getD k 0):=by
 have ac:=sJ hn;have hi:=G.1;have J:∀c∈(aZ X).take (eP n),c≠0/\c<256:=pF;have aa:((aZ X).take (eP n)).Nodup:=ru;generalize (aZ X).take (eP n)=own at *;have h8:∀m,m<own.length->((gV n own).getD m []).length=8:=λm W=>vA (by rw[xu G.2.2 ac];exact W)
 refine⟨?_,?_,λk hk h1 h2=> ?_⟩
 ·unfold mb
  rw[bD,bD];refine⟨λm W=> ?_,(qh (by rw[b7,b7,V]) _ (by omega) (AJ n own)).symm⟩;have af:=J _ (jt W);rw[qj (by rw[b7,b7,V]) _ _ (by omega) (by omega)];exact(aaZ (by rw[b7,V]) h8 aa J _ (aI _) m W).symm
 ·unfold mb
  rw[bD];refine(mN own X ae V J).1.put λp z=> ?_
  rcases aU.1 z with z|z
  ·obtain⟨m,j,-,-,-,h⟩:=ug z
   rw[h];exact Ps G.2.2 J m j
  ·obtain⟨j,-,-,h⟩:=lF z
   rw[h];exact aaY G.2.2 J j
 ·refine ey _ _ _ λp z U=> ?_
  unfold mb at z;rcases aU.1 z with z|z
  ·rcases FA _ _ J z with h|h
   ·omega
   ·rw[U] at h;exact h2 h
  ·rcases aU.1 z with z|z
   ·obtain⟨m,j,h3,h4,h5,-⟩:=ug z
    refine h2 ⟨by omega,?_⟩;rw[<-U,h5,show(1080+8*own.getD m 0+j-1080)/8=own.getD m 0 by omega];exact jt h3
   ·obtain⟨j,h4,h5,-⟩:=lF z
    exact h1 ⟨by omega,by omega⟩
def rP (w:World) (b z:Nat) (B:List Int) (ps:List (Int×Int)) (i:Int) (n:bP) (e:Ending) (w':World):Prop:=
 ∃r qs h,e= .returned (.int .i64 r)/\(h=z\/(w.heap.size<=h/\h<w'.heap.size))/\eO w' b h B (ps++qs)/\az [b,z] w w'/\qs.length<=600/\
  ((r=1/\¬xw i n/\qs=[])\/(r=7/\xw i n/\(aZ (aA B ps)).length<eP n/\qs=[])\/
   (r=0/\xw i n/\eP n<=(aZ (aA B ps)).length/\qs=mb (aA B ps) i.toNat n ((aZ (aA B ps)).take (eP n))))
theorem Pt (h:∀c∈own,c≠0/\c<256)(z:own.length<=32):(mb X i n own).length<=600:=by
 unfold mb;rw[aD,aD,po _ _ h,Cb,nW];omega
theorem Xi (h:eO w b J B ps)(U:In64 (aA B ps))(hT:kg w)(Gz:J<w.heap.size)(ac:ps.length<=800000)(i:Int)(n:bP)(v:Value)(g:Nat)(hB:n.B.length=13)(hE:bC w v g n.E)
  (V:∀k,k<n.E.length->(eU n.E k).size<=9223372036854775807) (aa:n.E.length≠0->g≠b/\g≠J):
  Calls prog 174 #[.pointer (some ⟨b,0,none⟩),.int .i64 i,.agg (aR n v)] w (rP w b J B ps i n):=by
 by_cases z:xw i n
 ·by_cases W:eP n<=(aZ (aA B ps)).length
  ·refine(aaO h U hT Gz ac i n v g hB hE V z aa W).mono λe w' G=> ?_
   obtain⟨G,gG,h1,h2,h3⟩:=G;exact⟨0,_,gG,G,h1,h2,h3,Pt pF (by rw[sJ W];exact Fw z.2.2),.inr (.inr ⟨rfl,z,W,rfl⟩)⟩
  ·refine(Pg h U i n v g hB hE V z (by omega)).mono λe w' G=> ?_
   exact⟨7,[],J,G.1,.inl rfl,by rw[bu];exact h.keep G.2 (by simp) (by simp),G.2.mono (by simp),by simp,.inr (.inl ⟨rfl,z,by omega,rfl⟩)⟩
 ·refine(WW i n v g hB hE V z).mono λe w' G=> ?_
  exact⟨1,[],J,G.1,.inl rfl,by rw[bu];exact h.keep G.2 (by simp) (by simp),G.2.mono (by simp),by simp,.inl ⟨rfl,z,rfl⟩⟩
theorem ado (z: -9223372036854775808<=x)(h:x<9223372036854775808):wrap64 x=x:=by unfold wrap64;omega
theorem Ec (z:0<=x)(h:x<18446744073709551616):IntKind.u64.wrap x=x:=by
 simp[IntKind.wrap,IntKind.bits,IntKind.signed];omega
def sK (l:List Int) (p b:Nat):Nat->List Int
 |0=>l
 |j+1=>(sK l p b j).set (p+j) (((b+j:Nat):Int))
theorem xZ (l:List Int)(p b:Nat):∀j,(sK l p b j).length=l.length
 |0=>rfl
 |j+1=>by unfold sK;rw[cT,xZ l p b j]
def jZ (L:List Int):Nat->Option (List Int)
 |0=>some (List.replicate 13 0)
 |k+1=>match jZ L k with
  |none=>none
  |some l=>if 13<(L.getD k 0).toNat/4294967296+(L.getD k 0).toNat%256 then none
   else some (sK l ((L.getD k 0).toNat/4294967296) ((L.getD k 0).toNat/256%16777216) ((L.getD k 0).toNat%256))
theorem Da {L:List Int}{k:Nat}(h:jZ L k=none):∀n,k<=n->jZ L n=none
 |0,hn=>by have :k=0:=by omega
           subst this;exact h
 |n+1,hn=>by
  by_cases e:k=n+1
  ·subst e;exact h
  ·unfold jZ
   rw[Da h n (by omega)]
theorem vE {L:List Int}:∀{k:Nat} {l:List Int},jZ L k=some l->l.length=13
 |0,l,h=>by cases h;simp
 |k+1,l,h=>by
  unfold jZ at h;split at h
  ·cases h
  ·rename_i l0 h0
   split at h
   ·cases h
   ·cases h
    rw[xZ,vE h0]
theorem run_parts(x:Nat)(h:x<18446744073709551616):bits .and .u64 ((x:Int)/256) 16777215=((x/256%16777216:Nat):Int)/\bits .and .u64 (x:Int) 255=((x%256:Nat):Int):=by
 have z:=Nat.div_le_self x 256;constructor
 ·rw[show(x:Int)/256=((x/256:Nat):Int) by omega,show(16777215:Int)=((16777215:Nat):Int) from rfl,iu (x/256) 16777215 (by omega) (by omega),show x/256 &&& 16777215=x/256%2^24 from dU _ 24]
 ·rw[show(255:Int)=((255:Nat):Int) from rfl,iu x 255 h (by omega),show x &&& 255=x%2^8 from dU x 8]
theorem xy{fn:Func}{tmps:Array Value}{a t:Nat}{z:Addr}{x:Value}(h:fn.results= #[.cell a t,.tmp b])(J:tmps.getD a undef= .pointer (some z))(U:(loadVar t z).run P w= .ok v w)
  (G:tmps.getD b undef=x):(results fn tmps).run P w= .ok (.tuple #[v,x]) w:=by
 rw[fX] at J G;unfold results;rw[h];simp[J,uW,U,G]
def FE (w:World) (L:List Int) (e:Ending) (w':World):Prop:=
 ∃l ok,e= .returned (.tuple #[.agg (zs l).toArray,.bool ok])/\l.length=13/\(ok=true->jZ L L.length=some l)/\(ok=false->jZ L L.length=none/\l=List.replicate 13 0)/\az [] w w'
theorem Pu (x P N C:Nat)(U:x<18446744073709551616)(W:P=x/4294967296)(G:N=x/256%16777216)(J:C=x%256):
  ∃h:Int,(x:Int)/4294967296=(P:Int)/\bits .and .u64 ((x:Int)/256) 16777215=(N:Int)/\bits .and .u64 (x:Int) 255=(C:Int)/\(P:Int)+(C:Int)=h/\IntKind.u64.wrap h=h/\(13<P+C↔13<h)/\P<4294967296/\N<16777216/\C<256:=by
 obtain⟨z,V⟩:=run_parts x U;refine⟨(P:Int)+(C:Int),by omega,by rw[G];exact z,by rw[J];exact V,rfl,Ec (by omega) (by omega),by omega,by omega,by omega,by omega⟩
theorem Pv (P N C k:Nat)(G:P+C<=13)(J:k<C)(U:N<16777216):∃h z:Int,(P:Int)+(k:Int)=h/\IntKind.u64.wrap h=h/\0<=h/\h<13/\h.toNat=P+k/\(N:Int)+(k:Int)=z/\IntKind.u64.wrap z=z/\wrap64 z=z/\z=((N+k:Nat):Int):=
 ⟨(P:Int)+(k:Int),(N:Int)+(k:Int),rfl,Ec (by omega) (by omega),by omega,by omega,by omega,rfl,Ec (by omega) (by omega),ado (by omega) (by omega),by omega⟩
theorem Ms{L:List Int}(h:Reads w v g (aW L))(hL:L.length<=100)(ah:∀k,0<=L.getD k 0/\L.getD k 0<18446744073709551616):
  Calls prog 223 #[v] w (FE w L):=by
 obtain⟨a,cap,rfl,h1,h2,HC⟩:=iB h;have ak:=oH;have o7:Hid (bh ((w.alloc (.cells (zs (List.replicate 13 0)).toArray 109)).alloc (.cells (zs (List.replicate 13 0)).toArray 109)) w.heap.size (zs (List.replicate 13 0)).toArray 109):=(bh.new w _ _).alloc _;have AL:Hid (bh ((w.alloc (.cells (zs (List.replicate 13 0)).toArray 109)).alloc (.cells (zs (List.replicate 13 0)).toArray 109)) (w.heap.size+1) (zs (List.replicate 13 0)).toArray 109):=by
  have :=bh.new (w.alloc (.cells (zs (List.replicate 13 0)).toArray 109)) (zs (List.replicate 13 0)).toArray 109;have e:(w.alloc (.cells (zs (List.replicate 13 0)).toArray 109)).heap.size=w.heap.size+1:=by simp
  rw[e] at this;exact this
 have fW:Hid (az [] w ((w.alloc (.cells (zs (List.replicate 13 0)).toArray 109)).alloc (.cells (zs (List.replicate 13 0)).toArray 109))):=((az.refl _ _).alloc _).alloc _;have ot:Hid (∀J l,l.length=13->bh J w.heap.size (zs (List.replicate 13 0)).toArray 109->∃w',(storeVar 109 ⟨w.heap.size,0,none⟩ (.agg (zs l).toArray)).run prog J= .ok () w'/\(loadVar 109 ⟨w.heap.size,0,none⟩).run prog w'= .ok (.agg (zs l).toArray) w'/\az [w.heap.size] J w'):=λJ l hl hb=>by
  obtain⟨w',q1,q2,q3⟩:=bB (P:= prog) (ty:= 109) (cs:=zs l) (by rw[eF,hl];exact kP) hb (by simp[eF,hl]) (l9 _);exact⟨w',q1,fc (off:=0) q2 hl (λk hk=>by rw[aX,aF,fR (by omega)]),q3⟩
 have tu:=au ah;clear h ah;generalize hn:L.length=n at *;have HN:=au hn;clear hn;generalize aj:(zs (List.replicate 13 0)).toArray=Z0 at *;have oz:=au aj;clear aj;go_enter func223,ntmps223;go_wp2_with fail;go_loopg [13] n (λgh s13 J=>∃(k:Nat) (l:List Int),k+gh=n/\s13= .int .i64 (k:Int)/\Hid (jZ L k=some l/\bh J (w.heap.size+1) (zs l).toArray 109/\bh J w.heap.size Z0 109/\az [] w J))
 case atStart=>exact⟨0,List.replicate 13 0,by omega,rfl,rfl,by rw[oz.out];exact AL.out,o7.out,fW.out⟩
 case round=>
  clear o7 AL fW;obtain⟨k,l,hk,rfl,HP⟩:=hrel;obtain⟨sX,z,G,V⟩:=HP.out;have rQ:=vE sX;cases gk with
  |zero=>
   obtain rfl:k=n:=by omega
   have HL:=au (fc (off:=0) z rQ (λk hk=>by rw[aX,aF,fR (by omega)]));obtain⟨w2,hS,qF,U⟩:=ot.out wr l rQ G;have HS:=au hS;have p9:=au qF;have HF:Hid (FE w L (.returned (.tuple #[.agg (zs l).toArray,.bool true])) w2):=⟨l,true,rfl,rQ,λ_=>by rw[HN.out];exact sX,λh=>(by cases h),V.trans U (by simp)⟩;clear HP sX z G V hS qF U hk ak;go_wp2_with(first|(with_reducible refine gL 109 HL.out ?_)|(with_reducible refine gS 109 HS.out ?_));exact aL (xy results223 rfl p9.out rfl) rfl HF.out
  |succ gg=>
   have ax:k<n:=by omega
   have aH:(k:Int)<(n:Int):=by omega
   have dt:(0:Int)<=(k:Int):=by omega
   obtain⟨aD,off,rfl,c0⟩:=HC.out k ax;have d0:=(aO (w:=w) (a:=⟨g,off+k,none⟩) (V.block g aD (by simp))).trans c0;have ar:=tu.out k;obtain⟨x,hx⟩:∃x:Nat,L.getD k 0=(x:Int):=⟨(L.getD k 0).toNat,by omega⟩;have ae:(L.getD k 0).toNat=x:=by omega
   have N6:Hid (jZ L (k+1)=if 13<x/4294967296+x%256 then none else some (sK l (x/4294967296) (x/256%16777216) (x%256))):=by
    show _=_;rw[jZ,sX,ae]
   rw[hx] at d0;obtain⟨P,hP⟩:∃P,P=x/4294967296:=⟨_,rfl⟩;obtain⟨N,ac⟩:∃N,N=x/256%16777216:=⟨_,rfl⟩;obtain⟨C,aa⟩:∃C,C=x%256:=⟨_,rfl⟩;obtain⟨si,q1,q2,q3,q4,q5,q6,q7,q8,q9⟩:=Pu x P N C (by omega) hP ac aa;rw[<-hP,<-ac,<-aa] at N6;have iZ:=au V;have o7:=au G;have AL:=au z;clear hP ac aa c0 hx ae ar HP sX z G V;by_cases af:13<si
   ·have jC:Hid (jZ L n=none):=Da (by rw[N6.out,aC (q6.2 af)]) n (by omega)
    obtain⟨w2,hS,qF,U⟩:=ot.out wr (List.replicate 13 0) (by simp) o7.out;rw[oz.out] at hS qF;have HS:=au hS;have p9:=au qF;have HF:Hid (FE w L (.returned (.tuple #[.agg Z0,.bool false])) w2):=⟨List.replicate 13 0,false,by rw[oz.out],by simp,λh=>(by cases h),λ_=>⟨by rw[HN.out];exact jC.out,rfl⟩,iZ.out.trans U (by simp)⟩;clear hS qF U q6 q7 q8 q9;go_wp2_with(with_reducible refine gS 109 HS.out ?_);exact aL (xy results223 rfl p9.out rfl) rfl HF.out
   ·have av:P+C<=13:=by
     have :¬13<P+C:=λh=>af (q6.1 h)
     omega
    have mI:Hid (jZ L (k+1)=some (sK l P N C)):=by
     show _=_;rw[N6.out,aB (by omega)]
    clear q6 N6;go_wp2_with fail;clear d0 q1 q2 q3 q4 q5 ak;go_loopg [30] C (λgh s30 J=>∃j:Nat,j+gh=C/\s30= .int .u64 (j:Int)/\Hid (bh J (w.heap.size+1) (zs (sK l P N j)).toArray 109/\bh J w.heap.size Z0 109/\az [] w J))
    case atStart=>exact⟨0,by omega,rfl,AL.out,o7.out,iZ.out⟩
    case round=>
     clear AL o7 iZ;obtain⟨j,hj,rfl,HQ⟩:=hrel;cases gk with
     |zero=>
      obtain rfl:j=C:=by omega
      have W:=au HQ.out;clear HQ hj;go_wp2_with fail;go_roundg gg;case measure=>omega
      case rel=>exact⟨k+1,_,by omega,by go_num,mI.out,W.out.1,W.out.2.1,W.out.2.2⟩
     |succ gk=>
      have ay:j<C:=by omega
      have aI:(j:Int)<(C:Int):=by omega
      have BI:(0:Int)<=(j:Int):=by omega
      obtain⟨ji,vi,r1,r2,r3,r4,r5,r6,r7,r8,r9⟩:=Pv P N C j av ay q8;obtain⟨z,G,V⟩:=HQ.out;have ai:(sK l P N j).length=13:=by rw[xZ];exact rQ
      have aA:wr.cell? ⟨w.heap.size+1,P+j,none⟩=some (.int .i64 ((sK l P N j).getD (P+j) 0)):=by rw[z.cell,aF,fR (by omega)]
      have aG:wr.frozen? ⟨w.heap.size+1,P+j,none⟩=false:=z.frozen _;have HR:Hid (bh (wr.setCell ⟨w.heap.size+1,P+j,none⟩ (.int .i64 vi)) (w.heap.size+1) (zs (sK l P N (j+1))).toArray 109/\bh (wr.setCell ⟨w.heap.size+1,P+j,none⟩ (.int .i64 vi)) w.heap.size Z0 109/\az [] w (wr.setCell ⟨w.heap.size+1,P+j,none⟩ (.int .i64 vi))):=by
       refine⟨?_,G.other (by simp) _,V.setCell (.inr (by show w.heap.size<=w.heap.size+1;omega)) _⟩;have :=z.set (P+j) (.int .i64 vi);rw[ag,OE,r9] at this;rw[r9];exact this
      clear HQ z G V ai r9;generalize (sK l P N j).getD (P+j) 0=y at *;have aJ:IntKind.u64.wrap ((j:Int)+1)=(j:Int)+1:=Ec (by omega) (by omega);go_wp2_with fail;go_roundg gk;case measure=>omega
      case rel=>exact⟨j+1,by omega,by go_num,HR.out⟩
theorem FH (l:List Int):∀f e,e<=nS l f e
 |0,e=>aI _
 |f+1,e=>by
  unfold nS;split
  ·have :=FH l f (e+1);omega
  ·omega
theorem zE (l:List Int):∀f e i,e<=i->i<nS l f e->lJ l i
 |0,e,i,h1,h2=>by unfold nS at h2;omega
 |f+1,e,i,h1,h2=>by
  unfold nS at h2;split at h2
  ·rename_i hc
   by_cases h:i=e
   ·subst h;exact hc
   ·exact zE l f (e+1) i (by omega) h2
  ·omega
theorem FI (l:List Int):∀f e,13<=e+f->¬lJ l (nS l f e)
 |0,e,h=>by
  unfold nS;exact λz=>by have :=z.2.1;omega
 |f+1,e,h=>by
  unfold nS;split
  ·exact FI l f (e+1) (by omega)
  ·assumption
theorem Xj (l:List Int)(f e:Nat)(h:e<=13):nS l f e<=13:=by
 by_cases z:nS l f e=e
 ·omega
 ·have G:=FH l f e
  have :=(zE l f e (nS l f e-1) (by omega) (by omega)).2.1;omega
def aa0 (l:List Int) (k j:Nat):Prop:=∃s,s<k/\xe l s/\s<=j/\j<s+qM l s
theorem ql (l:List Int){s:Nat}(G:s<13):1<=qM l s/\s+qM l s<=13/\s+qM l s=nS l 13 (s+1):=by
 have h:=FH l 13 (s+1);have z:=Xj l 13 (s+1) (by omega);unfold qM;omega
theorem aa1{s j:Nat}(J:s<13)(G:s<=j)(z:j<s+qM l s):l.getD j 0=l.getD s 0+((j-s:Nat):Int):=by
 obtain⟨-,-,U⟩:=ql l J;rw[U] at z;exact aaq (λi V h=>zE l 13 (s+1) i (by omega) h) j G z
theorem aa2:∀j,j<13->Dx (l.getD j 0)->aa0 l (j+1) j:=by
 intro j;induction j with
 |zero=>
  intro _ G;refine⟨0,by omega,⟨G,λh=>by have :=h.1;omega⟩,by omega,?_⟩;have :=(ql l (show 0<13 by omega)).1;omega
 |succ j ih=>
  intro U G;by_cases J:lJ l (j+1)
  ·have z:=J.2.2.2.1
   rw[ic] at z;obtain⟨s,h1,W,h3,h4⟩:=ih (by omega) z;obtain⟨-,-,h5⟩:=ql l (show s<13 by omega);refine⟨s,by omega,W,by omega,?_⟩;rw[h5] at h4 ⊢;refine Nat.lt_of_not_le λV=> ?_
   have h6:nS l 13 (s+1)=j+1:=by omega
   have :=FI l 13 (s+1) (by omega);rw[h6] at this;exact this J
  ·refine⟨j+1,by omega,⟨G,J⟩,by omega,?_⟩
   have :=(ql l U).1;omega
theorem FJ (A C:List Int):∀k,k<=A.length->jZ (A++C) k=jZ A k
 |0,_=>rfl
 |k+1,h=>by
  unfold jZ;rw[FJ A C k (by omega),aj,aj,aY (by omega)]
theorem Cf (l:List Int)(p b:Nat):∀c,p+c<=l.length->∀j,(sK l p b c).getD j 0=if p<=j/\j<p+c then ((b+(j-p):Nat):Int) else l.getD j 0
 |0,_,j=>by rw[aB (by omega)];rfl
 |c+1,h,j=>by
  rw[sK,zZ,xZ,Cf l p b c (by omega)];by_cases e:p+c=j
  ·subst e
   rw[aC ⟨rfl,by omega⟩,aC ⟨by omega,by omega⟩,cY]
  ·rw[aB (by omega)]
   by_cases z:p<=j/\j<p+c
   ·rw[aC z,aC ⟨z.1,by omega⟩]
   ·rw[aB z,aB (by omega)]
theorem Pw (k b n:Nat)(h:k<256)(G:b<256)(z:n<256):(tL k (b:Int) n).toNat/4294967296=k/\(tL k (b:Int) n).toNat/256%16777216=b/\(tL k (b:Int) n).toNat%256=n:=by
 have e:(tL k (b:Int) n).toNat=k*4294967296+b*256+n:=by unfold tL;omega
 rw[e];omega
theorem TD (B:List Int):∀k,k<=13->∃l,jZ (fS B k) (fS B k).length=some l/\(∀j,aa0 B k j->l.getD j 0=B.getD j 0)/\∀j,¬aa0 B k j->l.getD j 0=0:=by
 intro k;induction k with
 |zero=>
  intro _;refine⟨List.replicate 13 0,rfl,λj h=> ?_,λj _=> ?_⟩
  ·obtain⟨s,W,-⟩:=h
   omega
  ·rw[aj,bo]
   split<;>rfl
 |succ k ih=>
  intro hk;obtain⟨l,W,h2,h3⟩:=ih (by omega);by_cases U:xe B k
  ·obtain⟨f1,f2,-⟩:=ql B (show k<13 by omega)
   obtain⟨b,hb⟩:∃b:Nat,B.getD k 0=(b:Int):=⟨(B.getD k 0).toNat,by have :=U.1;unfold Dx at this;omega⟩;have aa:b<256:=by have :=U.1;unfold Dx at this;omega
   obtain⟨p1,p2,p3⟩:=Pw k b (qM B k) (by omega) aa (by omega);have hl:=vE W;have hg:(fS B k++[tL k (B.getD k 0) (qM B k)]).getD (fS B k).length 0=tL k (b:Int) (qM B k):=by rw[hb];simp
   refine⟨sK l k b (qM B k),?_,λj z=> ?_,λj z=> ?_⟩
   ·rw[fS,aC U,aD,jM,jZ,FJ _ _ _ (aI _),W,hg,p1,p2,p3]
    show(if 13<k+qM B k then none else some _)=_;rw[aB (by omega)]
   ·rw[Cf _ _ _ _ (by omega)]
    by_cases G:k<=j/\j<k+qM B k
    ·rw[aC G,aa1 (by omega) G.1 G.2,hb]
     omega
    ·rw[aB G]
     obtain⟨s,g1,J,V,g4⟩:=z;refine h2 j ⟨s,?_,J,V,g4⟩;rcases (show s<k\/s=k by omega) with h|h
     ·exact h
     ·subst h;exact absurd ⟨V,g4⟩ G
   ·rw[Cf _ _ _ _ (by omega),aB (λG=>z ⟨k,by omega,U,G.1,G.2⟩)]
    exact h3 j λ⟨s,g1,J⟩=>z ⟨s,by omega,J⟩
  ·refine⟨l,?_,λj z=> ?_,λj z=> ?_⟩
   ·rw[fS,aB U];exact W
   ·obtain⟨s,g1,J,V⟩:=z
    refine h2 j ⟨s,?_,J,V⟩;rcases (show s<k\/s=k by omega) with h|h
    ·exact h
    ·subst h;exact absurd J U
   ·exact h3 j λ⟨s,g1,J⟩=>z ⟨s,by omega,J⟩
theorem AR (A:List Int){l:List Int}(h:jZ A A.length=some l):∀z,jZ (A++List.replicate z 0) (A.length+z)=some l
 |0=>by simpa using h
 |z+1=>by
  have J:=AR A h z;have G:(A++List.replicate (z+1) (0:Int)).getD (A.length+z) 0=0:=by
   rw[aj,aQ (by omega),bo];split<;>rfl
  have e:A++List.replicate (z+1) (0:Int)=(A++List.replicate z 0)++[0]:=by rw[List.replicate_succ',ba]
  show jZ _ (A.length+z+1)=_;rw[jZ,G,e,FJ _ _ _ (by simp),J];rfl
theorem FK (hB:B.length=13)(U:∀k,k<13->0<=B.getD k 0/\B.getD k 0<256)(z:Nat):jZ (fu B++List.replicate z 0) ((fu B).length+z)=some B:=by
 obtain⟨l,G,V,h3⟩:=TD B 13 (aI _);have hl:=vE G;have e:l=B:=CV (by omega) λj hj=>by
  by_cases h:aa0 B 13 j
  ·exact V j h
  ·rw[h3 j h]
   by_cases J:Dx (B.getD j 0)
   ·obtain⟨s,g1,W⟩:=aa2 j (by omega) J
    exact absurd ⟨s,by omega,W⟩ h
   ·have :=U j (by omega)
    unfold Dx at J;omega
 subst e;exact AR (fu l) G z
theorem lG (t T ty:TypeId)(i:TypeInfo)(z:Value)(size bytes:Nat)(ht:P.underlying t=some (.slice T))(hi:P.info? T=some i)(hz:i.zero=some z)(ag:i.size=size)(af:i.bytes=bytes)(ai:z.cells.size=size)(ae:0<size)
  (G n:Nat) (v:Value) (xs:List Value) (J:w.ownsRow G T size v n xs) (a:Option Addr) (m c:Nat) (V:List Value) (hl:V.length=m*size) (hc:m≠0->∃ad,a=some ad/\∀j u,V[j]? =some u->w.cell? (ad.add j)=some u) (h1:∀u∈V,u.oneCell'=true)
  (ac:n+m<=maxLen) (U:(n+m)*bytes<=140737488355328) (aa:G<=w.heap.size):
  ∃v' w',(Builtin.append_ #[t,t] ty #[v,.slice a m c]).run P w= .ok v' w'/\w'.ownsRow G T size v' (n+m) (xs++V)/\w.grownBy w' v.ownBlock:=by
 cases a with
 |none=>
  have h0:m=0:=by
   rcases eT m with h|h
   ·exact h
   ·obtain⟨ad,e,-⟩:=hc (by omega);cases e
  subst h0;have aj:V=[]:=bg (by rw[hl];simp);subst aj;refine⟨v,w,?_,by simpa using J,⟨rfl,rfl,rfl,aI _,λ_ _ _=>rfl⟩⟩;obtain⟨-,h5⟩:=J;rcases h5 with ⟨rfl,rfl⟩|⟨g',ak,ar,rfl,hg,hh,q2,q3,q4,q5⟩
  ·simp[Builtin.append_,dQ ht,sizeOf,typeInfo,hi,Builtin.lenOf,Builtin.firstCells]
  ·simp[Builtin.append_,dQ ht,sizeOf,typeInfo,hi,Builtin.lenOf,Builtin.firstCells,q2,storeCells]
 |some ad=>
  have W:∀j u,V[j]? =some u->w.cell? (ad.add j)=some u:=by
   intro j u hu;have hj:j<V.length:=(List.getElem?_eq_some_iff.1 hu).1;have hm:m≠0:=by
    intro e;rw[hl,e] at hj;simp at hj
   obtain⟨au,e,ah⟩:=hc hm;cases e;exact ah j u hu
  obtain⟨v',w',hr,ho,hg,-⟩:=run_append_own (P:=P) w G t ty T i z size bytes ht hi hz ag af ai ae v n xs J ad m c V hl W h1 ac U aa;exact⟨v',w',hr,ho,hg⟩
theorem wpList_append_run{z:Array Oper}{rest:List Oper}{o:Oper}{a:Act}{Q:Exit->Act->World->Prop}(G:o.guard=none)(d x:Operand)(t U:TypeId)
  (ho:o.op= .call { callee:= .builtin .append,args:= #[d,x],argTypes:= #[t,U] }) (v u:Value) (hd:a.eval d=v) (W:a.eval x=u) {J:Value} {w':World}
  (V:(Builtin.append_ #[t,U] o.type #[v,u]).run P w= .ok J w') (h:wpList P z Q rest (a.put o.dst J) w'):wpList P z Q (o::rest) a w:=
 wpList_plain G λ_ hK=>by
  unfold Oper.wp execOp;simp only[ho,resolve,invoke,builtin,cg,fO,cm,List.map_toArray,List.map_cons,List.map_nil,hd,W,V];exact hK _ _ h
theorem AU (w:World)(t W e:TypeId)(i:TypeInfo)(z:Value)(kq kn:IntKind)(ht:P.underlying t=some (.slice e))(aa:P.underlying W=some (.int kn))(hi:P.info? e=some i)(hz:i.zero=some z)(af:i.size=1)(ac:z.cells.size=1)
  (k:Nat) (h0:0<k) (hk:k<=1000) (J:i.bytes=8):
  ∃c w',(∀ty,(Builtin.append_ #[t,W] ty #[.slice none 0 0,.int kq k]).run P w= .ok (.slice (some ⟨w.heap.size,0,none⟩) k c) w')/\k<=c/\w'.ownsRow w.heap.size e 1 (.slice (some ⟨w.heap.size,0,none⟩) 0 c) 0 []/\az [] w w':=by
 have V:(Builtin.firstCells i.size 0 (.slice none 0 0)).run P w.drew= .ok ([]:List Value).toArray w.drew:=by simp[Builtin.firstCells]
 have ae:Builtin.nextslicecap (0+k) 0<=4*1000+64:=by
  unfold Builtin.nextslicecap;split<;>omega
 have h:=λty=>Lib.run_append_grow_zeros w t W ty e i z kq kn ht aa hi hz none 0 0 [] V k h0 (by omega) (by omega) (by omega) (by rw[J];omega) (by rw[J];omega)
 have U:=grownCap_ge w (0+k) 0 e;have G:=grownCap_le_maxLen w (0+k) 0 e (by unfold maxLen;omega);rw[aX] at U G;simp only[aX] at h;refine⟨_,_,h,U,⟨rfl,.inr ⟨w.heap.size,grownCap w k 0 e,_,rfl,aI _,bh.new w.drew _ _,fC _,G,?_,by simp⟩⟩,((az.refl [] w).drew).alloc _⟩;simp[nA,ac];omega
end Go.Proofs.YtepbpdipenedhaaGreatDoor
